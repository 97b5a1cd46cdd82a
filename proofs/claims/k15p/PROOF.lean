import PyProof.Rows.All
import Wide.All
import OpenK.AllK
import Wide.FinOn
import PyProof.EqAt
import PyProof.EqKinds
import PyProof.TupleCall
import KE.DataEq
import HandS.Base
import HandS.Call
import HandS.List
import HandS.Comp
import HandS.Ends
import HandS.Dict
import HandS.Iter
import HandS.Walk
import HandS.Text
import HandS.Exc
import HandS.TryOnly
import HandS.TryElse
import HandS.ExcOwn
import HandS.IsInst
import HandS.TupLe
import HandS.TupAny
import HandS.Wide
import HandS.Words
import HandS.WordsList
import HandS.WordsDict
import HandS.WordsExc
import KE.GoesNew
import HandS.Deep
import HandS.Conv
import HandS.ExcIs
import HandS.More
import PySem.Challenge.RW_worldorpaper_k15_negation_form_says_the
set_option Elab.async false
set_option linter.all false
set_option maxRecDepth 100000
set_option maxHeartbeats 4000000
/-! G: weakest readings, data that cannot change, slots by what they hold. -/
namespace G
open PySem PySem.Spec PyProof.Rows L2

/-! ### the weakest reading of a piece of syntax -/
structure wE (X : Cx) (e : Expr) (σ : L2.St) (H : Hp) (Q : VK) : Prop where
  go : ∀ pins s, Inv X pins σ H s → wpAny (model X.prog X.w) X.A (eval e X.env) (EP X pins σ Q) X.xe s
structure wT (X : Cx) (e : Expr) (σ : L2.St) (H : Hp) (Q : Bool → Hp → Prop) : Prop where
  go : ∀ pins s, Inv X pins σ H s → wpAny (model X.prog X.w) X.A (isTrue e X.env (eval e X.env)) (TP X pins σ Q) X.xe s
structure wA (X : Cx) (es : List Expr) (σ : L2.St) (H : Hp) (Q : List V → Hp → Prop) : Prop where
  go : ∀ pos pins s, Inv X pins σ H s → wpAny (model X.prog X.w) X.A (spliced (backTo pos (starEach es X.env))) (AP X pins σ Q) X.xe s
structure wS (X : Cx) (st : Stmt) (D : Ends) (σ : L2.St) (H : Hp) : Prop where
  go : ∀ pins s, Inv X pins σ H s → wpAny (model X.prog X.w) X.A (exec st X.env) (SP X pins D) X.xe s
structure wSs (X : Cx) (st : List Stmt) (D : Ends) (σ : L2.St) (H : Hp) : Prop where
  go : ∀ pins s, Inv X pins σ H s → wpAny (model X.prog X.w) X.A (execs st X.env) (SP X pins D) X.xe s
section
variable {X : Cx} {e : Expr} {es : List Expr} {st : Stmt} {sts : List Stmt} {te : TE} {tt : TT} {ta : TA} {ts : TS} {σ : L2.St} {H : Hp}
theorem pe_w : PE X e (wE X e) := ⟨fun pins s _ _ _ I h => h.go pins s I⟩
theorem pt_w : PT X e (wT X e) := ⟨fun pins s _ _ _ I h => h.go pins s I⟩
theorem pa_w : PA X es (wA X es) := ⟨fun pos pins s _ _ _ I h => h.go pos pins s I⟩
theorem ps_w : PS X st (wS X st) := ⟨fun pins s _ _ _ I h => h.go pins s I⟩
theorem pss_w : PSs X sts (wSs X sts) := ⟨fun pins s _ _ _ I h => h.go pins s I⟩
theorem wE.of {Q : VK} (h : PE X e te) (q : te σ H Q) : wE X e σ H Q := ⟨fun pins s I => h.run pins s σ H Q I q⟩
theorem wT.of {Q : Bool → Hp → Prop} (h : PT X e tt) (q : tt σ H Q) : wT X e σ H Q := ⟨fun pins s I => h.run pins s σ H Q I q⟩
theorem wA.of {Q : List V → Hp → Prop} (h : PA X es ta) (q : ta σ H Q) : wA X es σ H Q := ⟨fun pos pins s I => h.run pos pins s σ H Q I q⟩
theorem wS.of {D : Ends} (h : PS X st ts) (q : ts D σ H) : wS X st D σ H := ⟨fun pins s I => h.run pins s σ H D I q⟩
theorem wSs.of {D : Ends} (h : PSs X sts ts) (q : ts D σ H) : wSs X sts D σ H := ⟨fun pins s I => h.run pins s σ H D I q⟩
theorem wE.mono {Q Q' : VK} (h : wE X e σ H Q) (q : ∀ v H', Q v H' → Q' v H') : wE X e σ H Q' := ⟨fun pins s I =>
  thn (h.go pins s I) fun _ _ ⟨v, H', I', r, z⟩ => ⟨v, H', I', r, q v H' z⟩⟩
theorem wT.mono {Q Q' : Bool → Hp → Prop} (h : wT X e σ H Q) (q : ∀ v H', Q v H' → Q' v H') : wT X e σ H Q' := ⟨fun pins s I =>
  thn (h.go pins s I) fun _ _ ⟨H', I', z⟩ => ⟨H', I', q _ H' z⟩⟩
theorem wA.mono {Q Q' : List V → Hp → Prop} (h : wA X es σ H Q) (q : ∀ v H', Q v H' → Q' v H') : wA X es σ H Q' := ⟨fun pos pins s I =>
  thn (h.go pos pins s I) fun _ _ ⟨v, H', I', r, z⟩ => ⟨v, H', I', r, q v H' z⟩⟩
end

/-- an argument without a star -/
def plainE : Expr → Bool
  | .Starred .. => false
  | _ => true
theorem star1 {e : Expr} {es : List Expr} {env : Env} (h : plainE e = true) : starEach (e :: es) env = (false, eval e env) :: starEach es env := by
  cases e <;> first | (rw [starEach]; exact fun _ _ z => nomatch z) | rfl | cases h

/-! ### tuples stay -/
def Gw (H H' : Hp) : Prop := (∀ b xs, H b = some (.tup xs) → H' b = some (.tup xs)) ∧ ∀ b o u, H b = some (.frz o u) → H' b = some (.frz o u)
theorem Gw.refl (H : Hp) : Gw H H := ⟨fun _ _ h => h, fun _ _ _ h => h⟩
theorem Gw.trans {H H1 H2 : Hp} (a : Gw H H1) (b : Gw H1 H2) : Gw H H2 := ⟨fun c xs h => b.1 c xs (a.1 c xs h), fun c o u h => b.2 c o u (a.2 c o u h)⟩
theorem Same.gw {H H' : Hp} (e : Same H H') : Gw H H' := ⟨fun c _ h => e c _ h, fun c _ _ h => e c _ h⟩
theorem same_new {H : Hp} {p : Addr} {o : HO} (h : H p = none) : Same H (upd H p o) := fun b u q => by rw [upd_ne (ne_of_none q h)]; exact q
theorem gw_mut {H : Hp} {p : Addr} {o : HO} (h : Mut (H p)) : Gw H (upd H p o) :=
  ⟨fun b xs q => by rw [upd_ne (fun z => by subst z; rw [q] at h; exact h)]; exact q, fun b o u q => by rw [upd_ne (fun z => by subst z; rw [q] at h; exact h)]; exact q⟩
theorem Gw.sqt {K : PySem.W.Frag} {H H' : Hp} {a : Addr} {xs : List V} (e : Gw H H') (h : SqT K H a xs) : SqT K H' a xs := by
  rcases h with (h | ⟨o, h⟩) | h
  · exact .inl (.inl (e.1 _ _ h))
  · exact .inl (.inr ⟨o, e.2 _ _ _ h⟩)
  · exact .inr h

/-! ### data without lists: it can't change -/
mutual
inductive Im (K : PySem.W.Frag) (H : Hp) : V → PyData → Prop
  | non : Im K H .non .none
  | bl (b : Bool) : Im K H (.bl b) (.bool b)
  | int (i : Int) : Im K H (.int i) (.int i)
  | str (x : Str) : Im K H (.str x) (.str x)
  | tup {a : Addr} {xs : List V} {ds : List PyData} : SqT K H a xs → ImAll K H xs ds → Im K H (.ref a) (.tuple ds)
inductive ImAll (K : PySem.W.Frag) (H : Hp) : List V → List PyData → Prop
  | nil : ImAll K H [] []
  | cons {v : V} {vs : List V} {d : PyData} {ds : List PyData} : Im K H v d → ImAll K H vs ds → ImAll K H (v :: vs) (d :: ds)
end
section
variable {K : PySem.W.Frag} {H H' : Hp}
mutual
theorem Im.gw (e : Gw H H') : ∀ (d : PyData) (v : V), Im K H v d → Im K H' v d
  | .none, _, h => by cases h; exact .non
  | .bool b, _, h => by cases h; exact .bl b
  | .int i, _, h => by cases h; exact .int i
  | .str x, _, h => by cases h; exact .str x
  | .tuple ds, _, h => by
    cases h with
    | tup a b => exact .tup (e.sqt a) (ImAll.gw e ds _ b)
  | .list _, _, h => by cases h
  | .dict _, _, h => by cases h
theorem ImAll.gw (e : Gw H H') : ∀ (ds : List PyData) (vs : List V), ImAll K H vs ds → ImAll K H' vs ds
  | [], _, h => by cases h; exact .nil
  | d :: ds, _, h => by
    cases h with
    | cons a b => exact .cons (Im.gw e d _ a) (ImAll.gw e ds _ b)
end
mutual
theorem Im.dp : ∀ (d : PyData) (v : V), Im K H v d → Dp K H v d
  | .none, _, h => by cases h; exact .non
  | .bool b, _, h => by cases h; exact .bl b
  | .int i, _, h => by cases h; exact .int i
  | .str x, _, h => by cases h; exact .str x
  | .tuple ds, _, h => by
    cases h with
    | tup a b => exact .tup a (ImAll.dp ds _ b)
  | .list _, _, h => by cases h
  | .dict _, _, h => by cases h
theorem ImAll.dp : ∀ (ds : List PyData) (vs : List V), ImAll K H vs ds → DpAll K H vs ds
  | [], _, h => by cases h; exact .nil
  | d :: ds, _, h => by
    cases h with
    | cons a b => exact .cons (Im.dp d _ a) (ImAll.dp ds _ b)
end
mutual
theorem Im.plain : ∀ (d : PyData) (v : V), Im K H v d → d.plain = true
  | .none, _, _ => rfl
  | .bool b, _, _ => rfl
  | .int i, _, _ => rfl
  | .str x, _, _ => rfl
  | .tuple ds, _, h => by
    cases h with
    | tup a b => exact ImAll.plain ds _ b
  | .list _, _, h => by cases h
  | .dict _, _, h => by cases h
theorem ImAll.plain : ∀ (ds : List PyData) (vs : List V), ImAll K H vs ds → PyData.plainAll ds = true
  | [], _, h => rfl
  | d :: ds, _, h => by
    cases h with
    | cons a b =>
      show (d.plain && PyData.plainAll ds) = true
      rw [Im.plain d _ a, ImAll.plain ds _ b]; rfl
end
theorem Im.same {v : V} {d : PyData} (e : Same H H') (h : Im K H v d) : Im K H' v d := h.gw (Same.gw e) d v
theorem ImAll.same {v : List V} {d : List PyData} (e : Same H H') (h : ImAll K H v d) : ImAll K H' v d := h.gw (Same.gw e) d v
theorem ImAll.len : ∀ {ds : List PyData} {vs : List V}, ImAll K H vs ds → vs.length = ds.length
  | [], _, h => by cases h; rfl
  | d :: ds, _, h => by
    cases h with
    | cons a b => show _ + 1 = _ + 1; rw [ImAll.len b]
theorem ImAll.get : ∀ {ds : List PyData} {vs : List V} {i : Nat} {d : PyData}, ImAll K H vs ds → ds[i]? = some d → ∃ v, vs[i]? = some v ∧ Im K H v d
  | [], _, i, d, h, e => by simp at e
  | d :: ds, _, 0, d', h, e => by
    cases h with
    | cons a b =>
      have e' : d = d' := Option.some.inj e
      subst e'
      exact ⟨_, rfl, a⟩
  | d :: ds, _, i + 1, d', h, e => by
    cases h with
    | cons a b => exact ImAll.get (i := i) b (by simpa using e)
theorem ImAll.get' : ∀ {ds : List PyData} {vs : List V} {i : Nat} {v : V}, ImAll K H vs ds → vs[i]? = some v → ∃ d, ds[i]? = some d ∧ Im K H v d
  | [], _, i, d, h, e => by cases h; simp at e
  | d :: ds, _, 0, d', h, e => by
    cases h with
    | cons a b =>
      have e' := Option.some.inj e
      subst e'
      exact ⟨_, rfl, a⟩
  | d :: ds, _, i + 1, d', h, e => by
    cases h with
    | cons a b => exact ImAll.get' (i := i) b (by simpa using e)
theorem ImAll.append : ∀ {ds es : List PyData} {vs us : List V}, ImAll K H vs ds → ImAll K H us es → ImAll K H (vs ++ us) (ds ++ es)
  | [], _, _, _, h, g => by cases h; exact g
  | d :: ds, _, _, _, h, g => by
    cases h with
    | cons a b => exact .cons a (ImAll.append b g)
theorem ImAll.drop : ∀ {ds : List PyData} {vs : List V} (n : Nat), ImAll K H vs ds → ImAll K H (vs.drop n) (ds.drop n)
  | _, _, 0, h => h
  | [], _, n + 1, h => by cases h; exact .nil
  | d :: ds, _, n + 1, h => by
    cases h with
    | cons a b => exact ImAll.drop n b
theorem ImAll.take : ∀ {ds : List PyData} {vs : List V} (n : Nat), ImAll K H vs ds → ImAll K H (vs.take n) (ds.take n)
  | _, _, 0, h => .nil
  | [], _, n + 1, h => by cases h; exact .nil
  | d :: ds, _, n + 1, h => by
    cases h with
    | cons a b => exact .cons a (ImAll.take n b)
theorem ImAll.set : ∀ {ds : List PyData} {vs : List V} {v : V} {d : PyData} (n : Nat), Im K H v d → ImAll K H vs ds → ImAll K H (vs.set n v) (ds.set n d)
  | [], _, _, _, n, a, h => by cases h; exact .nil
  | e :: ds, _, _, _, 0, a, h => by
    cases h with
    | cons _ b => exact .cons a b
  | e :: ds, _, _, _, n + 1, a, h => by
    cases h with
    | cons c b => exact .cons c (ImAll.set n a b)
end
end G

namespace G
open PySem PySem.Spec PyProof.Rows L2
abbrev St := L2.St

/-! ### slots by what they hold -/
inductive SD where
  /-- nothing is known -/
  | no
  /-- data that cannot change -/
  | im (d : PyData)
  /-- this very value -/
  | va (v : V)
  /-- a list of one's own, of data that cannot change -/
  | ls (ds : List PyData)
  /-- a list of one's own that is only read for a while; a list that the caller handed over, only read -/
  | rl (p : Addr) (ds : List PyData)
  | pl (p : Addr) (ds : List PyData)
  /-- a dict of one's own -/
  | dk (kvs : List (Key × PyData))
  /-- the drawing state: a list of a list of ints, an int between 0 and b, an int -/
  | st (a r : Addr) (b : Nat)
abbrev SC := List SD

/-- the drawing state at a -/
def StAt (H : Hp) (a r : Addr) (b : Nat) : Prop := a ≠ r ∧ ∃ (row : List Int) (n sd : Int), H a = some (.lst [.ref r, .int n, .int sd]) ∧ H r = some (.lst (row.map V.int)) ∧ 0 ≤ n ∧ n ≤ (b : Int)
theorem StAt.mono {H : Hp} {a r : Addr} {b c : Nat} (h : StAt H a r b) (l : b ≤ c) : StAt H a r c := by
  obtain ⟨h0, row, n, sd, h1, h2, h3, h4⟩ := h
  exact ⟨h0, row, n, sd, h1, h2, h3, by omega⟩
/-- all but a is as it was -/
def But (M : List Addr) (H H' : Hp) : Prop := ∀ b o, b ∉ M → H b = some o → H' b = some o
theorem But.refl (M : List Addr) (H : Hp) : But M H H := fun _ _ _ h => h
theorem But.trans {M : List Addr} {H H1 H2 : Hp} (a : But M H H1) (b : But M H1 H2) : But M H H2 := fun c o n h => b c o n (a c o n h)
theorem But.same {M : List Addr} {H H1 H2 : Hp} (a : But M H H1) (b : Same H1 H2) : But M H H2 := fun c o n h => b c o (a c o n h)
theorem But.of {M : List Addr} {H H1 : Hp} (b : Same H H1) : But M H H1 := fun c o n h => b c o h
theorem But.nil {H H1 : Hp} (b : But [] H H1) : Same H H1 := fun c o h => b c o (by simp) h

/-- lists that no name holds, kept as they are -/
abbrev Gs := List (Addr × List V)
def Kept (g : Gs) (H : Hp) : Prop := ∀ q, q ∈ g → H q.1 = some (.lst q.2)
def ImKv (K : PySem.W.Frag) (H : Hp) : List (Key × V) → List (Key × PyData) → Prop := Paired fun p q => p.1 = q.1 ∧ Im K H p.2 q.2
theorem ImKv.gw {K : PySem.W.Frag} {H H' : Hp} (e : Gw H H') : ∀ {vs : List (Key × V)} {ds : List (Key × PyData)}, ImKv K H vs ds → ImKv K H' vs ds
  | _, _, .nil => .nil
  | _, _, .cons h t => .cons ⟨h.1, h.2.gw e _ _⟩ (ImKv.gw e t)
def SlotOk (K : PySem.W.Frag) (H0 : Hp) (M : List Addr) (g : Gs) (H : Hp) (own : List Addr) (o : Option V) : SD → Prop
  | .no => own = []
  | .im d => own = [] ∧ ∃ v, o = some v ∧ Im K H v d
  | .va v => own = [] ∧ o = some v
  | .ls ds => ∃ p vs, own = [p] ∧ o = some (.ref p) ∧ H p = some (.lst vs) ∧ ImAll K H vs ds ∧ H0 p = none
  | .rl p ds => own = [] ∧ o = some (.ref p) ∧ H0 p = none ∧ ∃ vs, (p, vs) ∈ g ∧ ImAll K H vs ds
  | .pl p ds => own = [] ∧ o = some (.ref p) ∧ p ∉ M ∧ ∃ vs, SqL K H0 p vs ∧ ImAll K H vs ds
  | .dk kvs => ∃ p ws, own = [p] ∧ o = some (.ref p) ∧ H p = some (.dK ws) ∧ ImKv K H ws kvs ∧ H0 p = none
  | .st a r b => own = [a, r] ∧ o = some (.ref a) ∧ StAt H a r b ∧ (H0 a = none ∨ a ∈ M)

/-- the slots are as told, over the heap H that began as H0 and may have changed at M -/
structure R (K : PySem.W.Frag) (H0 : Hp) (M : List Addr) (g : Gs) (Γ : SC) (σ : St) (H : Hp) : Prop where
  but : But M H0 H
  len : σ.length = Γ.length
  slots : ∃ own : Nat → List Addr, (∀ i, SlotOk K H0 M g H (own i) (σ.getD i none) (Γ.getD i .no)) ∧ (∀ i j, i ≠ j → ∀ p, p ∈ own i → p ∉ own j) ∧ ∀ q, q ∈ g → H q.1 = some (.lst q.2) ∧ ∀ i, q.1 ∉ own i

section
variable {K : PySem.W.Frag} {H0 H H' : Hp} {M : List Addr} {g : Gs} {Γ : SC} {σ : St} {own : List Addr} {o : Option V} {x : SD} {n : Nat}
theorem SlotOk.track (h : SlotOk K H0 M g H own o x) : ∀ p, p ∈ own → ∃ u, H p = some u := by
  intro p hp
  cases x with
  | no => rw [show own = [] from h] at hp; cases hp
  | im d => rw [h.1] at hp; cases hp
  | va v => rw [h.1] at hp; cases hp
  | ls ds =>
    obtain ⟨q, vs, e, _, h1, _⟩ := h
    rw [e] at hp
    have : p = q := by simpa using hp
    subst this
    exact ⟨_, h1⟩
  | rl p ds => rw [h.1] at hp; cases hp
  | pl p ds => rw [h.1] at hp; cases hp
  | dk kvs =>
    obtain ⟨q, vs, e, _, h1, _⟩ := h
    rw [e] at hp
    have : p = q := by simpa using hp
    subst this
    exact ⟨_, h1⟩
  | st a r b =>
    obtain ⟨e, _, ⟨_, row, n, sd, h1, h2, _⟩, _⟩ := h
    rw [e] at hp
    rcases List.mem_cons.mp hp with z | z
    · subst z; exact ⟨_, h1⟩
    · have : p = r := by simpa using z
      subst this; exact ⟨_, h2⟩
/-- a change of the heap that leaves tuples and this slot's own objects -/
theorem SlotOk.keep (h : SlotOk K H0 M g H own o x) (gw : Gw H H') (k : ∀ p, p ∈ own → H' p = H p) : SlotOk K H0 M g H' own o x := by
  cases x with
  | no => exact h
  | im d => obtain ⟨e, v, e1, h1⟩ := h; exact ⟨e, v, e1, h1.gw gw d v⟩
  | va v => exact h
  | ls ds =>
    obtain ⟨q, vs, e, e1, h1, h2, h3⟩ := h
    exact ⟨q, vs, e, e1, by rw [k q (by rw [e]; simp)]; exact h1, h2.gw gw ds vs, h3⟩
  | rl p ds =>
    obtain ⟨e, e1, h0, vs, h1, h2⟩ := h
    exact ⟨e, e1, h0, vs, h1, h2.gw gw ds vs⟩
  | pl p ds =>
    obtain ⟨e, e1, h0, vs, h1, h2⟩ := h
    exact ⟨e, e1, h0, vs, h1, h2.gw gw ds vs⟩
  | dk kvs =>
    obtain ⟨q, vs, e, e1, h1, h2, h3⟩ := h
    exact ⟨q, vs, e, e1, by rw [k q (by rw [e]; simp)]; exact h1, h2.gw gw, h3⟩
  | st a r b =>
    obtain ⟨e, e1, ⟨e0, row, n, sd, h1, h2, h3⟩, h4⟩ := h
    exact ⟨e, e1, ⟨e0, row, n, sd, by rw [k a (by rw [e]; simp)]; exact h1, by rw [k r (by rw [e]; simp)]; exact h2, h3⟩, h4⟩
theorem SlotOk.grow {g' : Gs} (h : SlotOk K H0 M g H own o x) (k : ∀ q, q ∈ g → q ∈ g') : SlotOk K H0 M g' H own o x := by
  cases x with
  | rl p ds =>
    obtain ⟨e, e1, h0, vs, h1, h2⟩ := h
    exact ⟨e, e1, h0, vs, k _ h1, h2⟩
  | no => exact h
  | im d => exact h
  | va v => exact h
  | ls ds => exact h
  | pl p ds => exact h
  | dk kvs => exact h
  | st a r b => exact h
theorem R.same (r : R K H0 M g Γ σ H) (e : Same H H') : R K H0 M g Γ σ H' := by
  obtain ⟨own, h1, h2, h3⟩ := r.slots
  refine ⟨r.but.same e, r.len, own, fun i => (h1 i).keep (Same.gw e) fun p hp => ?_, h2, fun q hq => ⟨e _ _ (h3 q hq).1, (h3 q hq).2⟩⟩
  obtain ⟨u, hu⟩ := (h1 i).track p hp
  rw [hu, e p u hu]
theorem R.im {i : Nat} {d : PyData} (r : R K H0 M g Γ σ H) (h : Γ.getD i .no = .im d) : ∃ v, σ[i]? = some (some v) ∧ Im K H v d := by
  obtain ⟨own, h1, _⟩ := r.slots
  have q := h1 i
  rw [h] at q
  obtain ⟨_, v, e, m⟩ := q
  refine ⟨v, ?_, m⟩
  rw [List.getD_eq_getElem?_getD] at e
  cases z : σ[i]? with
  | none => rw [z] at e; cases e
  | some y => rw [z] at e; exact congrArg some e
theorem getD_some {i : Nat} {v : V} (e : σ.getD i none = some v) : σ[i]? = some (some v) := by
  rw [List.getD_eq_getElem?_getD] at e
  cases z : σ[i]? with
  | none => rw [z] at e; cases e
  | some y => rw [z] at e; exact congrArg some e
theorem R.va {i : Nat} {v : V} (r : R K H0 M g Γ σ H) (h : Γ.getD i .no = .va v) : σ[i]? = some (some v) := by
  obtain ⟨own, h1, _⟩ := r.slots
  have q := h1 i
  rw [h] at q
  exact getD_some q.2
theorem R.ls {i : Nat} {ds : List PyData} (r : R K H0 M g Γ σ H) (h : Γ.getD i .no = .ls ds) : ∃ p vs, σ[i]? = some (some (.ref p)) ∧ H p = some (.lst vs) ∧ ImAll K H vs ds ∧ H0 p = none := by
  obtain ⟨own, h1, _⟩ := r.slots
  have q := h1 i
  rw [h] at q
  obtain ⟨p, vs, _, e, q1, q2, q3⟩ := q
  exact ⟨p, vs, getD_some e, q1, q2, q3⟩
theorem R.st {i : Nat} {a b : Addr} {c : Nat} (r : R K H0 M g Γ σ H) (h : Γ.getD i .no = .st a b c) : σ[i]? = some (some (.ref a)) ∧ StAt H a b c := by
  obtain ⟨own, h1, _⟩ := r.slots
  have q := h1 i
  rw [h] at q
  exact ⟨getD_some q.2.1, q.2.2.1⟩
theorem getD_set {α : Type} {l : List α} {i j : Nat} {x d : α} : (l.set i x).getD j d = if i = j then (if i < l.length then x else d) else l.getD j d := by
  rw [List.getD_eq_getElem?_getD, List.getD_eq_getElem?_getD, List.getElem?_set]
  split
  · split
    · rfl
    · rename_i h1 h2
      rfl
  · rfl
/-- a slot is set; the heap is another -/
theorem R.put {i : Nat} {v : V} {x : SD} {p : List Addr} (r : R K H0 M g Γ σ H) (e : Same H H') (hi : i < Γ.length) (hx : SlotOk K H0 M g H' p (some v) x) (hp : ∀ q, q ∈ p → H q = none) : R K H0 M g (Γ.set i x) (σ.set i (some v)) H' := by
  obtain ⟨own0, h10, h20, h30⟩ := r.slots
  refine ⟨r.but.same e, by simp [r.len], fun j => if j = i then p else own0 j, fun j => ?_, fun j k hjk q hq => ?_, fun q hq => ⟨e _ _ (h30 q hq).1, fun j z => ?_⟩⟩
  · show SlotOk K H0 M g H' (if j = i then p else own0 j) _ _
    rw [getD_set, getD_set]
    by_cases hj : i = j
    · subst hj
      simp only [if_true]
      rw [if_pos (by rw [r.len]; exact hi), if_pos hi]
      exact hx
    · rw [if_neg hj, if_neg hj, if_neg (Ne.symm hj)]
      refine (h10 j).keep (Same.gw e) fun q hq => ?_
      obtain ⟨u, hu⟩ := (h10 j).track q hq
      rw [hu, e q u hu]
  · have none_own : ∀ j q, H q = none → q ∉ own0 j := fun j q hn hq => by
      obtain ⟨u, hu⟩ := (h10 j).track q hq
      rw [hn] at hu; cases hu
    have hq' : q ∈ (if j = i then p else own0 j) := hq
    show q ∉ (if k = i then p else own0 k)
    by_cases hj : j = i
    · rw [if_pos hj] at hq'
      rw [if_neg (fun z => hjk (hj.trans z.symm))]
      exact none_own k q (hp q hq')
    · rw [if_neg hj] at hq'
      by_cases hk : k = i
      · rw [if_pos hk]
        intro z
        exact none_own j q (hp q z) hq'
      · rw [if_neg hk]
        exact h20 j k hjk q hq'
  · have z' : q.1 ∈ (if j = i then p else own0 j) := z
    by_cases hj : j = i
    · rw [if_pos hj] at z'
      have q1 := hp _ z'
      rw [(h30 q hq).1] at q1; cases q1
    · rw [if_neg hj] at z'
      exact (h30 q hq).2 j z'
theorem R.setIm {i : Nat} {v : V} {d : PyData} (r : R K H0 M g Γ σ H) (e : Same H H') (hi : i < Γ.length) (m : Im K H' v d) : R K H0 M g (Γ.set i (.im d)) (σ.set i (some v)) H' :=
  r.put e hi (p := []) ⟨rfl, v, rfl, m⟩ fun _ z => nomatch z
theorem R.setVa {i : Nat} {v : V} (r : R K H0 M g Γ σ H) (e : Same H H') (hi : i < Γ.length) : R K H0 M g (Γ.set i (.va v)) (σ.set i (some v)) H' :=
  r.put e hi (p := []) ⟨rfl, rfl⟩ fun _ z => nomatch z
theorem R.fresh (r : R K H0 M g Γ σ H) (hM : ∀ a ∈ M, H0 a ≠ none → H a ≠ none) {p : Addr} (h : H p = none) : H0 p = none := by
  cases q : H0 p with
  | none => rfl
  | some o =>
    by_cases hp : p ∈ M
    · exact absurd h (hM p hp (by rw [q]; exact fun z => nomatch z))
    · rw [r.but p o hp q] at h; cases h
theorem R.setLs {i : Nat} {p : Addr} {vs : List V} {ds : List PyData} (r : R K H0 M g Γ σ H) (e : Same H H') (hi : i < Γ.length) (hn : H p = none) (h0 : H0 p = none) (hp : H' p = some (.lst vs)) (m : ImAll K H' vs ds) :
    R K H0 M g (Γ.set i (.ls ds)) (σ.set i (some (.ref p))) H' :=
  r.put e hi (p := [p]) ⟨p, vs, rfl, rfl, hp, m, h0⟩ fun q hq => by
    have : q = p := by simpa using hq
    subst this; exact hn
/-- a list of one's own is changed -/
theorem R.updLs {i : Nat} {p : Addr} {us : List V} {ds es : List PyData} (r : R K H0 M g Γ σ H) (hs : σ[i]? = some (some (.ref p))) (hg : Γ.getD i .no = .ls ds) (m : ImAll K H us es) :
    R K H0 M g (Γ.set i (.ls es)) σ (upd H p (.lst us)) := by
  obtain ⟨own, h1, h2, h3⟩ := r.slots
  have q := h1 i
  rw [hg] at q
  obtain ⟨p', vs', e1, e2, e3, e4, e5⟩ := q
  have e2' := getD_some e2
  rw [hs] at e2'
  have ep : p = p' := by
    injection e2' with a; injection a with b; injection b
  subst ep
  have mu : Mut (H p) := by rw [e3]; trivial
  have g := gw_mut (o := .lst us) mu
  have hil : i < Γ.length := by
    rw [← r.len]
    exact (List.getElem?_eq_some_iff.mp hs).1
  refine ⟨fun b o hb hq => ?_, by simp [r.len], own, fun j => ?_, h2, fun q hq => ⟨?_, (h3 q hq).2⟩⟩
  rotate_right
  · rw [upd_ne (fun z => (h3 q hq).2 i (by rw [e1, z]; simp))]
    exact (h3 q hq).1
  · rw [upd_ne (fun z => by subst z; rw [e5] at hq; cases hq)]
    exact r.but b o hb hq
  · rw [getD_set]
    by_cases hj : i = j
    · subst hj
      rw [if_pos rfl, if_pos hil]
      exact ⟨p, us, e1, e2, upd_same, m.gw g es us, e5⟩
    · rw [if_neg hj]
      refine (h1 j).keep g fun q hq => upd_ne fun z => ?_
      subst z
      exact h2 i j hj q (by rw [e1]; simp) hq
theorem R.dk {i : Nat} {ds : List (Key × PyData)} (r : R K H0 M g Γ σ H) (h : Γ.getD i .no = .dk ds) : ∃ p vs, σ[i]? = some (some (.ref p)) ∧ H p = some (.dK vs) ∧ ImKv K H vs ds ∧ H0 p = none := by
  obtain ⟨own, h1, _⟩ := r.slots
  have q := h1 i
  rw [h] at q
  obtain ⟨p, vs, _, e, q1, q2, q3⟩ := q
  exact ⟨p, vs, getD_some e, q1, q2, q3⟩
theorem R.setDk {i : Nat} {p : Addr} {vs : List (Key × V)} {ds : List (Key × PyData)} (r : R K H0 M g Γ σ H) (e : Same H H') (hi : i < Γ.length) (hn : H p = none) (h0 : H0 p = none) (hp : H' p = some (.dK vs)) (m : ImKv K H' vs ds) :
    R K H0 M g (Γ.set i (.dk ds)) (σ.set i (some (.ref p))) H' :=
  r.put e hi (p := [p]) ⟨p, vs, rfl, rfl, hp, m, h0⟩ fun q hq => by
    have : q = p := by simpa using hq
    subst this; exact hn
/-- a dict of one's own is changed -/
theorem R.updDk {i : Nat} {p : Addr} {us : List (Key × V)} {ds es : List (Key × PyData)} (r : R K H0 M g Γ σ H) (hs : σ[i]? = some (some (.ref p))) (hg : Γ.getD i .no = .dk ds) (m : ImKv K H us es) :
    R K H0 M g (Γ.set i (.dk es)) σ (upd H p (.dK us)) := by
  obtain ⟨own, h1, h2, h3⟩ := r.slots
  have q := h1 i
  rw [hg] at q
  obtain ⟨p', vs', e1, e2, e3, e4, e5⟩ := q
  have e2' := getD_some e2
  rw [hs] at e2'
  have ep : p = p' := by
    injection e2' with a; injection a with b; injection b
  subst ep
  have mu : Mut (H p) := by rw [e3]; trivial
  have g := gw_mut (o := .dK us) mu
  have hil : i < Γ.length := by
    rw [← r.len]
    exact (List.getElem?_eq_some_iff.mp hs).1
  refine ⟨fun b o hb hq => ?_, by simp [r.len], own, fun j => ?_, h2, fun q hq => ⟨?_, (h3 q hq).2⟩⟩
  rotate_right
  · rw [upd_ne (fun z => (h3 q hq).2 i (by rw [e1, z]; simp))]
    exact (h3 q hq).1
  · rw [upd_ne (fun z => by subst z; rw [e5] at hq; cases hq)]
    exact r.but b o hb hq
  · rw [getD_set]
    by_cases hj : i = j
    · subst hj
      rw [if_pos rfl, if_pos hil]
      exact ⟨p, us, e1, e2, upd_same, m.gw g, e5⟩
    · rw [if_neg hj]
      refine (h1 j).keep g fun q hq => upd_ne fun z => ?_
      subst z
      exact h2 i j hj q (by rw [e1]; simp) hq
theorem R.weak {Γ' : SC} (r : R K H0 M g Γ σ H) (hl : Γ'.length = Γ.length) (w : ∀ i, Γ'.getD i .no = Γ.getD i .no ∨ Γ'.getD i .no = .no) : R K H0 M g Γ' σ H := by
  obtain ⟨own, h1, h2, h3⟩ := r.slots
  classical
  refine ⟨r.but, r.len.trans hl.symm, fun i => if Γ'.getD i .no = Γ.getD i .no then own i else [], fun i => ?_, fun i j hij p hp => ?_, fun q hq => ⟨(h3 q hq).1, fun i z => ?_⟩⟩
  rotate_right
  · have z' : q.1 ∈ (if Γ'.getD i .no = Γ.getD i .no then own i else []) := z
    by_cases h : Γ'.getD i .no = Γ.getD i .no
    · rw [if_pos h] at z'
      exact (h3 q hq).2 i z'
    · rw [if_neg h] at z'; cases z'
  · by_cases h : Γ'.getD i .no = Γ.getD i .no
    · show SlotOk K H0 M g H (if Γ'.getD i .no = Γ.getD i .no then own i else []) _ _
      rw [if_pos h, h]
      exact h1 i
    · show SlotOk K H0 M g H (if Γ'.getD i .no = Γ.getD i .no then own i else []) _ _
      rw [if_neg h]
      rcases w i with z | z
      · exact absurd z h
      · rw [z]; rfl
  · have hp' : p ∈ (if Γ'.getD i .no = Γ.getD i .no then own i else []) := hp
    show p ∉ (if Γ'.getD j .no = Γ.getD j .no then own j else [])
    by_cases h : Γ'.getD i .no = Γ.getD i .no
    · rw [if_pos h] at hp'
      by_cases h' : Γ'.getD j .no = Γ.getD j .no
      · rw [if_pos h']; exact h2 i j hij p hp'
      · rw [if_neg h']; exact fun z => nomatch z
    · rw [if_neg h] at hp'; cases hp'
/-- the drawing state has moved on -/
theorem R.updSt {i : Nat} {a q : Addr} {b c : Nat} (r : R K H0 M g Γ σ H) (hg : Γ.getD i .no = .st a q b) (hb : But [a] H H') (s : StAt H' a q c) : R K H0 M g (Γ.set i (.st a q c)) σ H' := by
  obtain ⟨own, h1, h2, h3⟩ := r.slots
  have z := h1 i
  rw [hg] at z
  obtain ⟨e1, e2, ⟨s0, row, n, sd, s1, s2, s3, s4⟩, e4⟩ := z
  have e2' := getD_some e2
  have hil : i < Γ.length := by
    rw [← r.len]
    exact (List.getElem?_eq_some_iff.mp e2').1
  have g : Gw H H' := ⟨fun b xs z => hb b _ (fun m => by
      have : b = a := by simpa using m
      subst this; rw [s1] at z; cases z) z, fun b o u z => hb b _ (fun m => by
      have : b = a := by simpa using m
      subst this; rw [s1] at z; cases z) z⟩
  refine ⟨fun b o hm hq => ?_, by simp [r.len], own, fun j => ?_, h2, fun p hp => ⟨hb _ _ (fun m => ?_) (h3 p hp).1, (h3 p hp).2⟩⟩
  rotate_right
  · have m' : p.1 = a := by simpa using m
    exact (h3 p hp).2 i (by rw [e1, m']; simp)
  · have ne : b ≠ a := fun z => by
      subst z
      rcases e4 with h | h
      · rw [hq] at h; cases h
      · exact hm h
    exact hb b o (fun m => ne (by simpa using m)) (r.but b o hm hq)
  · rw [getD_set]
    by_cases hj : i = j
    · subst hj
      rw [if_pos rfl, if_pos hil]
      exact ⟨e1, e2, s, e4⟩
    · rw [if_neg hj]
      refine (h1 j).keep g fun p hp => ?_
      obtain ⟨u, hu⟩ := (h1 j).track p hp
      rw [hu]
      refine hb p u (fun m => ?_) hu
      have : p = a := by simpa using m
      subst this
      exact h2 i j hj p (by rw [e1]; simp) hp
theorem R.kept (r : R K H0 M g Γ σ H) : Kept g H := fun q hq => by
  obtain ⟨own, h1, h2, h3⟩ := r.slots
  exact (h3 q hq).1
/-- a new list that no name holds is kept -/
theorem R.ghost {p : Addr} {vs : List V} (r : R K H0 M g Γ σ H) (e : Same H H') (hn : H p = none) (hp : H' p = some (.lst vs)) : R K H0 M ((p, vs) :: g) Γ σ H' := by
  obtain ⟨own, h1, h2, h3⟩ := r.slots
  obtain ⟨b, l, _⟩ := r.same e
  refine ⟨b, l, own, fun i => ((h1 i).keep (Same.gw e) fun q hq => ?_).grow fun q hq => List.mem_cons_of_mem _ hq, h2, fun q hq => ?_⟩
  · obtain ⟨u, hu⟩ := (h1 i).track q hq
    rw [hu, e q u hu]
  · rcases List.mem_cons.mp hq with z | z
    · subst z
      refine ⟨hp, fun i z => ?_⟩
      obtain ⟨u, hu⟩ := (h1 i).track p z
      rw [hn] at hu; cases hu
    · exact ⟨e _ _ (h3 q z).1, (h3 q z).2⟩
def isRl : SD → Bool
  | .rl _ _ => true
  | _ => false
theorem SlotOk.less {y : Addr × List V} (h : SlotOk K H0 M (y :: g) H own o x) (k : isRl x = false) : SlotOk K H0 M g H own o x := by
  cases x with
  | rl p ds => cases k
  | no => exact h
  | im d => exact h
  | va v => exact h
  | ls ds => exact h
  | pl p ds => exact h
  | dk kvs => exact h
  | st a r b => exact h
theorem noRl {i : Nat} (h : Γ.all (fun x => !isRl x) = true) : isRl (Γ.getD i .no) = false := by
  rw [List.getD_eq_getElem?_getD]
  cases q : Γ[i]? with
  | none => rfl
  | some x =>
    have := List.all_eq_true.mp h x (List.mem_of_getElem? q)
    simpa using this
theorem R.unghost {x : Addr × List V} (r : R K H0 M (x :: g) Γ σ H) (h : Γ.all (fun x => !isRl x) = true) : R K H0 M g Γ σ H := by
  obtain ⟨own, h1, h2, h3⟩ := r.slots
  exact ⟨r.but, r.len, own, fun i => (h1 i).less (noRl h), h2, fun q hq => h3 q (List.mem_cons_of_mem _ hq)⟩
/-- a list of one's own is only read for a while -/
theorem R.freeze {i : Nat} {ds : List PyData} (r : R K H0 M g Γ σ H) (h : Γ.getD i .no = .ls ds) : ∃ p vs, H0 p = none ∧ (∀ us, (p, us) ∈ g → False) ∧ R K H0 M ((p, vs) :: g) (Γ.set i (.rl p ds)) σ H := by
  obtain ⟨own, h1, h2, h3⟩ := r.slots
  have q := h1 i
  rw [h] at q
  obtain ⟨p, vs, e, e1, e2, e3, e4⟩ := q
  have hil : i < Γ.length := by
    rw [← r.len]
    exact (List.getElem?_eq_some_iff.mp (getD_some e1)).1
  refine ⟨p, vs, e4, fun us z => (h3 _ z).2 i (by rw [e]; simp), r.but, by simp [r.len], fun j => if j = i then [] else own j, fun j => ?_, fun j k hjk a ha => ?_, fun q hq => ?_⟩
  · show SlotOk K H0 M ((p, vs) :: g) H (if j = i then [] else own j) _ _
    rw [getD_set]
    by_cases hj : i = j
    · subst hj
      simp only [if_true]
      rw [if_pos hil]
      exact ⟨rfl, e1, e4, vs, List.mem_cons_self, e3⟩
    · rw [if_neg hj, if_neg (Ne.symm hj)]
      exact (h1 j).grow fun q hq => List.mem_cons_of_mem _ hq
  · have ha' : a ∈ (if j = i then [] else own j) := ha
    show a ∉ (if k = i then [] else own k)
    by_cases hj : j = i
    · rw [if_pos hj] at ha'; cases ha'
    · rw [if_neg hj] at ha'
      by_cases hk : k = i
      · rw [if_pos hk]; exact fun z => nomatch z
      · rw [if_neg hk]; exact h2 j k hjk a ha'
  · rcases List.mem_cons.mp hq with z | z
    · subst z
      refine ⟨e2, fun j hz => ?_⟩
      have hz' : p ∈ (if j = i then [] else own j) := hz
      by_cases hj : j = i
      · rw [if_pos hj] at hz'; cases hz'
      · rw [if_neg hj] at hz'
        exact h2 i j (Ne.symm hj) p (by rw [e]; simp) hz'
    · refine ⟨(h3 q z).1, fun j hz => ?_⟩
      have hz' : q.1 ∈ (if j = i then [] else own j) := hz
      by_cases hj : j = i
      · rw [if_pos hj] at hz'; cases hz'
      · rw [if_neg hj] at hz'
        exact (h3 q z).2 j hz'
theorem R.thaw {i : Nat} {p : Addr} {vs : List V} {ds : List PyData} (r : R K H0 M ((p, vs) :: g) Γ σ H) (hn : ∀ us, (p, us) ∈ g → False) (h : Γ.getD i .no = .rl p ds) (hr : (Γ.set i .no).all (fun x => !isRl x) = true) : R K H0 M g (Γ.set i (.ls ds)) σ H := by
  obtain ⟨own, h1, h2, h3⟩ := r.slots
  have q := h1 i
  rw [h] at q
  obtain ⟨e, e1, e4, us, e2, e3⟩ := q
  have eu : us = vs := by
    rcases List.mem_cons.mp e2 with z | z
    · exact (Prod.mk.inj z).2
    · exact (hn us z).elim
  subst eu
  have hil : i < Γ.length := by
    rw [← r.len]
    exact (List.getElem?_eq_some_iff.mp (getD_some e1)).1
  have hp := h3 (p, us) List.mem_cons_self
  refine ⟨r.but, by simp [r.len], fun j => if j = i then [p] else own j, fun j => ?_, fun j k hjk a ha => ?_, fun q hq => ?_⟩
  · show SlotOk K H0 M g H (if j = i then [p] else own j) _ _
    rw [getD_set]
    by_cases hj : i = j
    · subst hj
      simp only [if_true]
      rw [if_pos hil]
      exact ⟨p, us, rfl, e1, hp.1, e3, e4⟩
    · rw [if_neg hj, if_neg (Ne.symm hj)]
      refine (h1 j).less ?_
      have := noRl (i := j) hr
      rw [getD_set, if_neg hj] at this
      exact this
  · have ha' : a ∈ (if j = i then [p] else own j) := ha
    show a ∉ (if k = i then [p] else own k)
    by_cases hj : j = i
    · rw [if_pos hj] at ha'
      have : a = p := by simpa using ha'
      subst this
      rw [if_neg (fun z => hjk (hj.trans z.symm))]
      exact hp.2 k
    · rw [if_neg hj] at ha'
      by_cases hk : k = i
      · rw [if_pos hk]
        intro z
        have : a = p := by simpa using z
        subst this
        exact hp.2 j ha'
      · rw [if_neg hk]; exact h2 j k hjk a ha'
  · refine ⟨(h3 q (List.mem_cons_of_mem _ hq)).1, fun j hz => ?_⟩
    have hz' : q.1 ∈ (if j = i then [p] else own j) := hz
    by_cases hj : j = i
    · rw [if_pos hj] at hz'
      have : q.1 = p := by simpa using hz'
      exact hn q.2 (by rw [← this]; exact hq)
    · rw [if_neg hj] at hz'
      exact (h3 q (List.mem_cons_of_mem _ hq)).2 j hz'
theorem R.rl {i : Nat} {p : Addr} {ds : List PyData} (r : R K H0 M g Γ σ H) (h : Γ.getD i .no = .rl p ds) : σ[i]? = some (some (.ref p)) ∧ ∃ vs, H p = some (.lst vs) ∧ ImAll K H vs ds := by
  obtain ⟨own, h1, _, h3⟩ := r.slots
  have q := h1 i
  rw [h] at q
  obtain ⟨e, e1, h0, vs, e2, e3⟩ := q
  exact ⟨getD_some e1, vs, (h3 _ e2).1, e3⟩
theorem But.seq {a : Addr} {xs : List V} (b : But M H H') (h : SqL K H a xs) (n : a ∉ M) : SqL K H' a xs := by
  rcases h with (h | ⟨o, h⟩) | h
  · exact .inl (.inl (b _ _ n h))
  · exact .inl (.inr ⟨o, b _ _ n h⟩)
  · exact .inr h
theorem R.pl {i : Nat} {p : Addr} {ds : List PyData} (r : R K H0 M g Γ σ H) (h : Γ.getD i .no = .pl p ds) : σ[i]? = some (some (.ref p)) ∧ ∃ vs, SqL K H p vs ∧ ImAll K H vs ds := by
  obtain ⟨own, h1, _, h3⟩ := r.slots
  have q := h1 i
  rw [h] at q
  obtain ⟨e, e1, h0, vs, e2, e3⟩ := q
  exact ⟨getD_some e1, vs, r.but.seq e2 h0, e3⟩
/-- at the entry of a def: data -/
def SlotV (K : PySem.W.Frag) (H : Hp) : SD → V → Prop
  | .no, _ => True
  | .im d, v => Im K H v d
  | .va u, v => v = u
  | .pl p ds, v => v = .ref p ∧ ∃ vs, SqL K H p vs ∧ ImAll K H vs ds
  | _, _ => False
abbrev SlotVs (K : PySem.W.Frag) (H : Hp) : SC → List V → Prop := Paired (SlotV K H)
theorem SlotV.ok {v : V} (h : SlotV K H x v) (hM : ∀ p ds, x = .pl p ds → p ∉ M) : SlotOk K H M g H [] (some v) x := by
  cases x with
  | no => rfl
  | im d => exact ⟨rfl, v, rfl, h⟩
  | va u => exact ⟨rfl, congrArg some h⟩
  | ls d => exact h.elim
  | rl p d => exact h.elim
  | dk d => exact h.elim
  | pl p d => exact ⟨rfl, congrArg some h.1, hM p d rfl, h.2⟩
  | st a r b => exact h.elim
theorem SlotVs.ok {n : Nat} : ∀ {Γ : SC} {vs : List V} (i : Nat), SlotVs K H Γ vs → (∀ p ds, SD.pl p ds ∈ Γ → p ∉ M) → SlotOk K H M g H [] ((vs.map some ++ List.replicate n none).getD i none) ((Γ ++ List.replicate n SD.no).getD i .no)
  | _, _, i, .nil, _ => by
    rw [List.map_nil, List.nil_append, List.nil_append]
    have e : (List.replicate n SD.no).getD i .no = .no := by
      rw [List.getD_eq_getElem?_getD, List.getElem?_replicate]
      split <;> rfl
    rw [e]; rfl
  | x :: _, _, 0, .cons h _, m => SlotV.ok (x := x) h fun p ds e => m p ds (by rw [e]; exact List.mem_cons_self)
  | _, _, i + 1, .cons _ h, m => SlotVs.ok (n := n) i h fun p ds z => m p ds (List.mem_cons_of_mem _ z)
theorem SlotVs.len : ∀ {Γ : SC} {vs : List V}, SlotVs K H Γ vs → Γ.length = vs.length
  | _, _, .nil => rfl
  | _, _, .cons _ h => congrArg (· + 1) (SlotVs.len h)
theorem SlotVs.ims : ∀ {ds : List PyData} {vs : List V}, ImAll K H vs ds → SlotVs K H (ds.map SD.im) vs
  | [], _, h => by cases h; exact .nil
  | d :: ds, _, h => by
    cases h with
    | cons a b => exact .cons a (SlotVs.ims b)
theorem R.start {vs : List V} {N : List Str} (h : SlotVs K H Γ vs) (hN : N.length - vs.length = n) (hM : ∀ p ds, SD.pl p ds ∈ Γ → p ∉ M) : R K H M [] (Γ ++ List.replicate n .no) (L2.start N vs) H := by
  refine ⟨But.refl M H, ?_, fun _ => [], fun i => ?_, fun _ _ _ p hp => (nomatch hp), fun _ z => (nomatch z)⟩
  · unfold L2.start
    rw [List.length_append, List.length_append, List.length_map, List.length_replicate, List.length_replicate, h.len, hN]
  · unfold L2.start
    rw [hN]
    exact h.ok i hM
/-- .. the first parameter the drawing state -/
theorem R.startS {vs : List V} {N : List Str} {a q : Addr} {b : Nat} (s : StAt H a q b) (ha : a ∈ M) (h : SlotVs K H Γ vs) (hN : N.length - (vs.length + 1) = n) (hM : ∀ p ds, SD.pl p ds ∈ Γ → p ∉ M) : R K H M [] (.st a q b :: (Γ ++ List.replicate n .no)) (L2.start N (.ref a :: vs)) H := by
  refine ⟨But.refl M H, ?_, fun i => if i = 0 then [a, q] else [], fun i => ?_, fun i j hij p hp => ?_, fun _ z => nomatch z⟩
  · unfold L2.start
    simp only [List.length_append, List.length_cons, List.length_map, List.length_replicate, h.len, hN]
    omega
  · unfold L2.start
    rw [List.length_cons, hN]
    cases i with
    | zero => exact ⟨rfl, rfl, s, .inr ha⟩
    | succ i => exact h.ok i hM
  · have hp' : p ∈ (if i = 0 then [a, q] else []) := hp
    show p ∉ (if j = 0 then [a, q] else [])
    by_cases hi : i = 0
    · rw [if_neg (fun z => hij (hi.trans z.symm))]
      exact fun z => nomatch z
    · rw [if_neg hi] at hp'; cases hp'
end
end G

namespace G
open PySem PySem.Spec PyProof.Rows L2

/-! ### expressions over slots -/
abbrev EK := Hp → V → Hp → Prop
/-- e gives a value that P tells (the heap before, the value, the heap after); nothing tracked changes -/
def EE (X : Cx) (H0 : Hp) (M : List Addr) (Γ : SC) (e : Expr) (P : EK) : Prop :=
  ∀ g σ H Q, R X.K H0 M g Γ σ H → (∀ v H', Same H H' → P H v H' → Q v H') → wE X e σ H Q
abbrev kI (K : PySem.W.Frag) (d : PyData) : EK := fun _ v H' => Im K H' v d
abbrev kU (u : V) : EK := fun _ v _ => v = u
/-- a new list -/
abbrev kL (K : PySem.W.Frag) (ds : List PyData) : EK := fun H v H' => ∃ p vs, v = .ref p ∧ H p = none ∧ H' p = some (.lst vs) ∧ ImAll K H' vs ds
abbrev EI (X : Cx) (H0 : Hp) (M : List Addr) (Γ : SC) (e : Expr) (d : PyData) : Prop := EE X H0 M Γ e (kI X.K d)
abbrev EV (X : Cx) (H0 : Hp) (M : List Addr) (Γ : SC) (e : Expr) (u : V) : Prop := EE X H0 M Γ e (kU u)
abbrev EL (X : Cx) (H0 : Hp) (M : List Addr) (Γ : SC) (e : Expr) (ds : List PyData) : Prop := EE X H0 M Γ e (kL X.K ds)
def ET (X : Cx) (H0 : Hp) (M : List Addr) (Γ : SC) (e : Expr) (b : Bool) : Prop :=
  ∀ g σ H Q, R X.K H0 M g Γ σ H → (∀ H', Same H H' → Q b H') → wT X e σ H Q
abbrev AK := Hp → List V → Hp → Prop
def AA (X : Cx) (H0 : Hp) (M : List Addr) (Γ : SC) (es : List Expr) (P : AK) : Prop :=
  ∀ g σ H Q, R X.K H0 M g Γ σ H → (∀ vs H', Same H H' → P H vs H' → Q vs H') → wA X es σ H Q
abbrev AI (X : Cx) (H0 : Hp) (M : List Addr) (Γ : SC) (es : List Expr) (ds : List PyData) : Prop := AA X H0 M Γ es (fun _ vs H' => ImAll X.K H' vs ds)

theorem Im.int_inv {K : PySem.W.Frag} {H : Hp} {v : V} {i : Int} (h : Im K H v (.int i)) : v = .int i := by cases h; rfl
theorem Im.str_inv {K : PySem.W.Frag} {H : Hp} {v : V} {i : Str} (h : Im K H v (.str i)) : v = .str i := by cases h; rfl
theorem Im.bl_inv {K : PySem.W.Frag} {H : Hp} {v : V} {i : Bool} (h : Im K H v (.bool i)) : v = .bl i := by cases h; rfl
theorem Im.non_inv {K : PySem.W.Frag} {H : Hp} {v : V} (h : Im K H v .none) : v = .non := by cases h; rfl
theorem Im.tup_inv {K : PySem.W.Frag} {H : Hp} {v : V} {ds : List PyData} (h : Im K H v (.tuple ds)) : ∃ a xs, v = .ref a ∧ SqT K H a xs ∧ ImAll K H xs ds := by
  cases h with
  | tup a b => exact ⟨_, _, rfl, a, b⟩

section
variable {X : Cx} {H0 : Hp} {M : List Addr} {Γ : SC} {e a b c : Expr} {es : List Expr} {pos p0 : Pos} {P Pa Pb : EK}
theorem EE.mono {P' : EK} (h : EE X H0 M Γ e P) (q : ∀ H v H', Same H H' → P H v H' → P' H v H') : EE X H0 M Γ e P' := fun g σ H Q r k => h g σ H Q r fun v H' s z => k v H' s (q H v H' s z)
theorem EI.to {d d' : PyData} (h : EI X H0 M Γ e d) (q : d = d') : EI X H0 M Γ e d' := q ▸ h
theorem EL.to {d d' : List PyData} (h : EL X H0 M Γ e d) (q : d = d') : EL X H0 M Γ e d' := q ▸ h
theorem ET.to {d d' : Bool} (h : ET X H0 M Γ e d) (q : d = d') : ET X H0 M Γ e d' := q ▸ h

theorem i_var (i : Nat) {x : Str} {d : PyData} (h : Γ.getD i .no = .im d) (hN : X.N[i]? = some x := by rfl) (hv : Vis X.env.scope x := by first | exact Or.inl rfl | exact Or.inr (Or.inl rfl) | exact Or.inr (Or.inr rfl)) (hd : (x == ("__debug__" : Str)) = false := by decide)
    (hcd : (x == ("__classdict__" : Str)) = false := by decide) : EI X H0 M Γ (.Name x pos) d := fun g σ H Q r k => by
  obtain ⟨v, e, m⟩ := r.im h
  exact wE.of (pe_var hN hv hd hcd) ⟨v, e, k v H (Same.refl H) m⟩
theorem v_var (i : Nat) {x : Str} {v : V} (h : Γ.getD i .no = .va v) (hN : X.N[i]? = some x := by rfl) (hv : Vis X.env.scope x := by first | exact Or.inl rfl | exact Or.inr (Or.inl rfl) | exact Or.inr (Or.inr rfl)) (hd : (x == ("__debug__" : Str)) = false := by decide)
    (hcd : (x == ("__classdict__" : Str)) = false := by decide) : EV X H0 M Γ (.Name x pos) v := fun g σ H Q r k => by
  exact wE.of (pe_var hN hv hd hcd) ⟨v, r.va h, k v H (Same.refl H) rfl⟩
/-- a list of one's own, as it stands -/
abbrev kO (K : PySem.W.Frag) (ds : List PyData) : EK := fun _ v H' => ∃ p vs, v = .ref p ∧ H' p = some (.lst vs) ∧ ImAll K H' vs ds
theorem o_var (i : Nat) {x : Str} {ds : List PyData} (h : Γ.getD i .no = .ls ds) (hN : X.N[i]? = some x := by rfl) (hv : Vis X.env.scope x := by first | exact Or.inl rfl | exact Or.inr (Or.inl rfl) | exact Or.inr (Or.inr rfl)) (hd : (x == ("__debug__" : Str)) = false := by decide)
    (hcd : (x == ("__classdict__" : Str)) = false := by decide) : EE X H0 M Γ (.Name x pos) (kO X.K ds) := fun g σ H Q r k => by
  obtain ⟨p, vs, e, m, q, _⟩ := r.ls h
  exact wE.of (pe_var hN hv hd hcd) ⟨_, e, k _ H (Same.refl H) ⟨p, vs, rfl, m, q⟩⟩
abbrev kS (a r : Addr) (b : Nat) : EK := fun _ v H' => v = .ref a ∧ StAt H' a r b
theorem s_var (i : Nat) {x : Str} {q r : Addr} {n : Nat} (h : Γ.getD i .no = .st q r n) (hN : X.N[i]? = some x := by rfl) (hv : Vis X.env.scope x := by first | exact Or.inl rfl | exact Or.inr (Or.inl rfl) | exact Or.inr (Or.inr rfl)) (hd : (x == ("__debug__" : Str)) = false := by decide)
    (hcd : (x == ("__classdict__" : Str)) = false := by decide) : EE X H0 M Γ (.Name x pos) (kS q r n) := fun g σ H Q r k => by
  obtain ⟨e, m⟩ := r.st h
  exact wE.of (pe_var hN hv hd hcd) ⟨_, e, k _ H (Same.refl H) ⟨rfl, m⟩⟩
theorem i_int {i : Int} {j} : EI X H0 M Γ (.Constant (.int i) j pos) (.int i) := fun g σ H Q r k => wE.of pe_int (k _ H (Same.refl H) (.int i))
theorem i_str {i : Str} {j} : EI X H0 M Γ (.Constant (.str i) j pos) (.str i) := fun g σ H Q r k => wE.of pe_str (k _ H (Same.refl H) (.str i))
theorem i_bl {i : Bool} {j} : EI X H0 M Γ (.Constant (.bool i) j pos) (.bool i) := fun g σ H Q r k => wE.of pe_bl (k _ H (Same.refl H) (.bl i))
theorem i_non {j} : EI X H0 M Γ (.Constant .none j pos) .none := fun g σ H Q r k => wE.of pe_non (k _ H (Same.refl H) .non)
/-- two expressions and an operator -/
theorem e_bin {op : Operator} {r : R2} (ho : OpR X (binaryOp op) r) (ha : EE X H0 M Γ a Pa) (hb : EE X H0 M Γ b Pb)
    (h : ∀ H H1 H2 x y (Q : VK), Same H H1 → Same H1 H2 → Pa H x H1 → Pb H1 y H2 → (∀ v H', Same H2 H' → P H v H' → Q v H') → r x y H2 Q) : EE X H0 M Γ (.BinOp a op b pos) P := fun g σ H Q R k =>
  wE.of (pe_op ho pe_w pe_w) (ha g σ H _ R fun x H1 s1 p1 => hb g σ H1 _ (R.same s1) fun y H2 s2 p2 => h H H1 H2 x y Q s1 s2 p1 p2 fun v H' s3 p3 => k v H' (s1.trans (s2.trans s3)) p3)
theorem e_cmp {op : CmpOp} {r : R2} (ho : OpR X (compareOp op) r) (ha : EE X H0 M Γ a Pa) (hb : EE X H0 M Γ b Pb) (hm : behindInMarks op b = false)
    (h : ∀ H H1 H2 x y (Q : VK), Same H H1 → Same H1 H2 → Pa H x H1 → Pb H1 y H2 → (∀ v H', Same H2 H' → P H v H' → Q v H') → r x y H2 Q) : EE X H0 M Γ (.Compare a [op] [b] pos) P := fun g σ H Q R k =>
  wE.of (pe_cmpR ho pe_w pe_w hm) (ha g σ H _ R fun x H1 s1 p1 => hb g σ H1 _ (R.same s1) fun y H2 s2 p2 => h H H1 H2 x y Q s1 s2 p1 p2 fun v H' s3 p3 => k v H' (s1.trans (s2.trans s3)) p3)
section
variable {i j : Int}
theorem i_add (ha : EI X H0 M Γ a (.int i)) (hb : EI X H0 M Γ b (.int j)) : EI X H0 M Γ (.BinOp a .Add b pos) (.int (i + j)) :=
  e_bin op_add ha hb fun H H1 H2 x y Q s1 s2 p1 p2 k => ⟨i, j, p1.int_inv, p2.int_inv, k _ _ (Same.refl _) (.int _)⟩
theorem i_sub (ha : EI X H0 M Γ a (.int i)) (hb : EI X H0 M Γ b (.int j)) : EI X H0 M Γ (.BinOp a .Sub b pos) (.int (i - j)) :=
  e_bin op_sub ha hb fun H H1 H2 x y Q s1 s2 p1 p2 k => ⟨i, j, p1.int_inv, p2.int_inv, k _ _ (Same.refl _) (.int _)⟩
theorem i_mul (hc : CMul i j) (ha : EI X H0 M Γ a (.int i)) (hb : EI X H0 M Γ b (.int j)) : EI X H0 M Γ (.BinOp a .Mult b pos) (.int (i * j)) :=
  e_bin op_mul ha hb fun H H1 H2 x y Q s1 s2 p1 p2 k => ⟨i, j, p1.int_inv, p2.int_inv, hc, k _ _ (Same.refl _) (.int _)⟩
theorem i_mod (hc : 0 < j) (ha : EI X H0 M Γ a (.int i)) (hb : EI X H0 M Γ b (.int j)) : EI X H0 M Γ (.BinOp a .Mod b pos) (.int (i % j)) :=
  e_bin op_mod ha hb fun H H1 H2 x y Q s1 s2 p1 p2 k => ⟨i, j, p1.int_inv, p2.int_inv, hc, k _ _ (Same.refl _) (.int _)⟩
theorem i_div (hc : CDiv i j) (ha : EI X H0 M Γ a (.int i)) (hb : EI X H0 M Γ b (.int j)) : EI X H0 M Γ (.BinOp a .FloorDiv b pos) (.int (i / j)) :=
  e_bin op_fdiv ha hb fun H H1 H2 x y Q s1 s2 p1 p2 k => ⟨i, j, p1.int_inv, p2.int_inv, hc, k _ _ (Same.refl _) (.int _)⟩
theorem i_pow (hc : CPow i j) (ha : EI X H0 M Γ a (.int i)) (hb : EI X H0 M Γ b (.int j)) : EI X H0 M Γ (.BinOp a .Pow b pos) (.int (i ^ j.toNat)) :=
  e_bin op_pow ha hb fun H H1 H2 x y Q s1 s2 p1 p2 k => ⟨i, j, p1.int_inv, p2.int_inv, hc, k _ _ (Same.refl _) (.int _)⟩
theorem i_lt (ha : EI X H0 M Γ a (.int i)) (hb : EI X H0 M Γ b (.int j)) : EI X H0 M Γ (.Compare a [.Lt] [b] pos) (.bool (decide (i < j))) :=
  e_cmp op_lt ha hb (nomark _) fun H H1 H2 x y Q s1 s2 p1 p2 k => ⟨i, j, p1.int_inv, p2.int_inv, k _ _ (Same.refl _) (.bl _)⟩
theorem i_le (ha : EI X H0 M Γ a (.int i)) (hb : EI X H0 M Γ b (.int j)) : EI X H0 M Γ (.Compare a [.LtE] [b] pos) (.bool (decide (i ≤ j))) :=
  e_cmp op_le ha hb (nomark _) fun H H1 H2 x y Q s1 s2 p1 p2 k => ⟨i, j, p1.int_inv, p2.int_inv, k _ _ (Same.refl _) (.bl _)⟩
theorem i_gt (ha : EI X H0 M Γ a (.int i)) (hb : EI X H0 M Γ b (.int j)) : EI X H0 M Γ (.Compare a [.Gt] [b] pos) (.bool (decide (j < i))) :=
  e_cmp op_gt ha hb (nomark _) fun H H1 H2 x y Q s1 s2 p1 p2 k => ⟨i, j, p1.int_inv, p2.int_inv, k _ _ (Same.refl _) (.bl _)⟩
theorem i_ge (ha : EI X H0 M Γ a (.int i)) (hb : EI X H0 M Γ b (.int j)) : EI X H0 M Γ (.Compare a [.GtE] [b] pos) (.bool (decide (j ≤ i))) :=
  e_cmp op_ge ha hb (nomark _) fun H H1 H2 x y Q s1 s2 p1 p2 k => ⟨i, j, p1.int_inv, p2.int_inv, k _ _ (Same.refl _) (.bl _)⟩
theorem i_neg (ha : EI X H0 M Γ a (.int i)) : EI X H0 M Γ (.UnaryOp .USub a pos) (.int (-i)) := fun g σ H Q R k =>
  wE.of (pe_un un_neg pe_w) (ha g σ H _ R fun x H1 s1 p1 => ⟨i, p1.int_inv, k _ _ s1 (.int _)⟩)
end
/-! ### == of data -/
def rEqP (K : PySem.W.Frag) : R2 := fun x y H Q => ∃ d e, Im K H x d ∧ Im K H y e ∧ d.depth ≤ 64 ∧ Q (.bl (PyData.eqv d e)) H
def rNeP (K : PySem.W.Frag) : R2 := fun x y H Q => ∃ d e, Im K H x d ∧ Im K H y e ∧ d.depth ≤ 64 ∧ Q (.bl (!PyData.eqv d e)) H
theorem op_eqP (hu : X.A.units + 64 < cLine) : OpR X (compareOp .Eq) (rEqP X.K) := by
  intro pins s σ H x y v u Q I rx ry h
  obtain ⟨d, e, hd, he, sd, q⟩ := h
  obtain ⟨as, r1⟩ := Dp.reads I d x v (hd.dp d x) rx
  obtain ⟨bs, r2⟩ := Dp.reads I e y u (he.dp e y) ry
  have : min d.depth e.depth ≤ d.depth := Nat.min_le_left _ _
  exact SeqAt.eq_plain r1 r2 (hd.plain d x) (he.plain e y) (by omega) ⟨.bl _, H, I, rfl, q⟩
theorem op_neP (hu : X.A.units + 64 < cLine) : OpR X (compareOp .NotEq) (rNeP X.K) := by
  intro pins s σ H x y v u Q I rx ry h
  obtain ⟨d, e, hd, he, sd, q⟩ := h
  obtain ⟨as, r1⟩ := Dp.reads I d x v (hd.dp d x) rx
  obtain ⟨bs, r2⟩ := Dp.reads I e y u (he.dp e y) ry
  have : min d.depth e.depth ≤ d.depth := Nat.min_le_left _ _
  exact SeqAt.ne_plain r1 r2 (hd.plain d x) (he.plain e y) (by omega) ⟨.bl _, H, I, rfl, q⟩
variable {k : Nat} {d d' : PyData}
theorem i_eq (hr : Room k X.A) (hd : d.depth ≤ 64) (ha : EI X H0 M Γ a d) (hb : EI X H0 M Γ b d') : EI X H0 M Γ (.Compare a [.Eq] [b] pos) (.bool (PyData.eqv d d')) :=
  e_cmp (op_eqP hr.units) ha hb (nomark _) fun H H1 H2 x y Q s1 s2 p1 p2 k => ⟨d, d', p1.same s2, p2, hd, k _ _ (Same.refl _) (.bl _)⟩
theorem i_ne (hr : Room k X.A) (hd : d.depth ≤ 64) (ha : EI X H0 M Γ a d) (hb : EI X H0 M Γ b d') : EI X H0 M Γ (.Compare a [.NotEq] [b] pos) (.bool (!PyData.eqv d d')) :=
  e_cmp (op_neP hr.units) ha hb (nomark _) fun H H1 H2 x y Q s1 s2 p1 p2 k => ⟨d, d', p1.same s2, p2, hd, k _ _ (Same.refl _) (.bl _)⟩
/-! ### arguments -/
theorem a_nil : AI X H0 M Γ [] [] := fun g σ H Q R k => wA.of pa_nil (k _ H (Same.refl H) .nil)
theorem a_cons {ds : List PyData} (he : EI X H0 M Γ e d) (ht : AI X H0 M Γ es ds) (hs : starEach (e :: es) X.env = (false, eval e X.env) :: starEach es X.env := by exact star1 rfl) : AI X H0 M Γ (e :: es) (d :: ds) := fun g σ H Q R k =>
  wA.of (pa_cons pe_w pa_w hs) (he g σ H _ R fun x H1 s1 p1 => ht g σ H1 _ (R.same s1) fun xs H2 s2 p2 => k _ H2 (s1.trans s2) (.cons (p1.same s2) p2))
theorem a_nilA : AA X H0 M Γ [] (fun _ vs _ => vs = []) := fun g σ H Q R k => wA.of pa_nil (k _ H (Same.refl H) rfl)
theorem a_consA {Pe : EK} {Ps : AK} (he : EE X H0 M Γ e Pe) (ht : AA X H0 M Γ es Ps) (hs : starEach (e :: es) X.env = (false, eval e X.env) :: starEach es X.env := by exact star1 rfl) :
    AA X H0 M Γ (e :: es) (fun H vs H' => ∃ v r H1, vs = v :: r ∧ Same H H1 ∧ Same H1 H' ∧ Pe H v H1 ∧ Ps H1 r H') := fun g σ H Q R k =>
  wA.of (pa_cons pe_w pa_w hs) (he g σ H _ R fun x H1 s1 p1 => ht g σ H1 _ (R.same s1) fun xs H2 s2 p2 => k _ H2 (s1.trans s2) ⟨x, xs, H1, rfl, s1, s2, p1, p2⟩)
/-! ### displays -/
theorem i_tup {ds : List PyData} {x1} (h : AI X H0 M Γ es ds) (hl : ds.length ≤ 100000 := by first | decide | exact Nat.le_of_ble_eq_true rfl) : EI X H0 M Γ (.Tuple es x1 pos) (.tuple ds) := fun g σ H Q R k =>
  wE.of (pe_tup pa_w) (h g σ H _ R fun xs H1 s1 p1 => ⟨by rw [p1.len]; exact Nat.le_trans hl (by decide), fun p hp => k _ _ (s1.trans (same_new hp)) (.tup (.inl (.inl upd_same)) (p1.same (same_new hp)))⟩)
theorem l_lst {ds : List PyData} (h : AI X H0 M Γ es ds) (hl : ds.length ≤ 100000 := by first | decide | exact Nat.le_of_ble_eq_true rfl) : EL X H0 M Γ (.List es pos) ds := fun g σ H Q R k =>
  wE.of (pe_lst pa_w) (h g σ H _ R fun xs H1 s1 p1 => ⟨by rw [p1.len]; exact Nat.le_trans hl (by decide), fun p hp => k _ _ (s1.trans (same_new hp)) ⟨p, xs, rfl, s1.free hp, upd_same, p1.same (same_new hp)⟩⟩)
/-! ### tuples: items, slices, + -/
theorem atI_im {K : PySem.W.Frag} {H : Hp} {vs : List V} {ds : List PyData} {i : Int} (h : ImAll K H vs ds) (e : atI ds i = some d) : ∃ v, atI vs i = some v ∧ Im K H v d := by
  unfold atI at e ⊢
  rw [h.len]
  cases q : ixN ds.length i with
  | none => rw [q] at e; cases e
  | some j =>
    rw [q] at e
    exact h.get (i := j) e
theorem i_ixT {ds : List PyData} {i : Int} (hi : atI ds i = some d) (ha : EI X H0 M Γ a (.tuple ds)) (hb : EI X H0 M Γ b (.int i)) (hs : PlainIx b := by exact fun _ _ => rfl) : EI X H0 M Γ (.Subscript a b pos) d := fun g σ H Q R k =>
  wE.of (pe_ix ix_tup pe_w pe_w hs) (ha g σ H _ R fun x H1 s1 p1 => hb g σ H1 _ (R.same s1) fun y H2 s2 p2 => by
    obtain ⟨q, xs, rfl, hq, hx⟩ := (p1.same s2).tup_inv
    obtain ⟨v, h1, h2⟩ := atI_im hx hi
    exact ⟨q, xs, i, v, rfl, p2.int_inv, hq, h1, k _ _ (s1.trans s2) h2⟩)
/-- an item of a list of one's own -/
theorem i_ixO {ds : List PyData} {i : Int} (hi : atI ds i = some d) (ha : EE X H0 M Γ a (kO X.K ds)) (hb : EI X H0 M Γ b (.int i)) (hs : PlainIx b := by exact fun _ _ => rfl) : EI X H0 M Γ (.Subscript a b pos) d := fun g σ H Q R k =>
  wE.of (pe_ix ix_list pe_w pe_w hs) (ha g σ H _ R fun x H1 s1 p1 => hb g σ H1 _ (R.same s1) fun y H2 s2 p2 => by
    obtain ⟨q, xs, rfl, hq, hx⟩ := p1
    obtain ⟨v, h1, h2⟩ := atI_im (hx.same s2) hi
    exact ⟨q, xs, i, v, rfl, p2.int_inv, SqL.of (s2 _ _ hq), h1, k _ _ (s1.trans s2) h2⟩)
def cutD (ds : List PyData) (lo hi : Option Int) : List PyData := (ds.drop (HT.sIx ds.length 0 lo)).take (HT.sIx ds.length ds.length hi - HT.sIx ds.length 0 lo)
theorem cutD_im {K : PySem.W.Frag} {H : Hp} {vs : List V} {ds : List PyData} {lo hi : Option Int} (h : ImAll K H vs ds) : ImAll K H (cutV vs lo hi) (cutD ds lo hi) := by
  unfold cutV cutD
  rw [h.len]
  exact (h.drop _).take _
def PartE (X : Cx) (H0 : Hp) (M : List Addr) (Γ : SC) (e : Option Expr) (o : Option Int) : Prop :=
  (e = none ∧ o = none) ∨ ∃ e' i, e = some e' ∧ o = some i ∧ EI X H0 M Γ e' (.int i)
theorem part_none : PartE X H0 M Γ none none := .inl ⟨rfl, rfl⟩
theorem part_some {i : Int} (h : EI X H0 M Γ e (.int i)) : PartE X H0 M Γ (some e) (some i) := .inr ⟨e, i, rfl, rfl, h⟩
def wO (X : Cx) (e : Option Expr) : TO := match e with | none => tNoPart | some e => tPart (wE X e)
theorem po_w {e : Option Expr} : PO X e (wO X e) := by
  cases e with
  | none => exact po_none
  | some e => exact po_some pe_w
theorem PartE.go {lo : Option Expr} {o : Option Int} (h : PartE X H0 M Γ lo o) {σ : St} {H : Hp} {Q : Option Int → Hp → Prop} {g : Gs} (R : R X.K H0 M g Γ σ H) (k : ∀ H', Same H H' → Q o H') : wO X lo σ H Q := by
  rcases h with ⟨rfl, rfl⟩ | ⟨e, i, rfl, rfl, h⟩
  · exact k H (Same.refl H)
  · exact h g σ H _ R fun x H1 s1 p1 => ⟨i, p1.int_inv, k H1 s1⟩
theorem i_slT {ds : List PyData} {lo hi : Option Expr} {l u : Option Int} {p2 : Pos} (ha : EI X H0 M Γ a (.tuple ds)) (hl : PartE X H0 M Γ lo l) (hh : PartE X H0 M Γ hi u) :
    EI X H0 M Γ (.Subscript a (.Slice lo hi none p2) pos) (.tuple (cutD ds l u)) := fun g σ H Q R k =>
  wE.of (pe_slice sl_tupA pe_w po_w po_w) (ha g σ H _ R fun x H1 s1 p1 => hl.go (R.same s1) fun H2 s2 => hh.go (R.same (s1.trans s2)) fun H3 s3 => by
    have p3 := (p1.same s2).same s3
    obtain ⟨q, xs, rfl, hq, hx⟩ := id p3.tup_inv
    refine ⟨q, xs, rfl, hq, fun hw => ?_, fun _ p hp => ?_⟩
    · have e : cutD ds l u = ds := by
        unfold cutD
        rw [hx.len] at hw
        rw [hw.1, hw.2]
        simp
      rw [e] at k
      exact k _ _ (s1.trans (s2.trans s3)) p3
    · exact k _ _ ((s1.trans (s2.trans s3)).trans (same_new hp)) (.tup (.inl (.inl upd_same)) ((cutD_im hx).same (same_new hp))))
theorem i_catT {ds es : List PyData} (hz : ds.length + es.length ≤ 100000) (ha : EI X H0 M Γ a (.tuple ds)) (hb : EI X H0 M Γ b (.tuple es)) : EI X H0 M Γ (.BinOp a .Add b pos) (.tuple (ds ++ es)) :=
  e_bin op_catA ha hb fun H H1 H2 x y Q s1 s2 p1 p2 k => by
    have p1' := p1.same s2
    obtain ⟨q, xs, rfl, hq, hx⟩ := id p1'.tup_inv
    obtain ⟨q', ys, rfl, hq', hy⟩ := id p2.tup_inv
    refine ⟨q, q', xs, ys, rfl, rfl, hq, hq', by rw [hx.len, hy.len]; exact Nat.le_trans hz (by decide), fun e => ?_, fun _ e => ?_, fun _ _ p hp => ?_⟩
    · subst e
      have : ds = [] := by cases hx; rfl
      subst this
      exact k _ _ (Same.refl _) p2
    · subst e
      have : es = [] := by cases hy; rfl
      subst this
      rw [List.append_nil] at k
      exact k _ _ (Same.refl _) p1'
    · exact k _ _ (same_new hp) (.tup (.inl (.inl upd_same)) ((hx.append hy).same (same_new hp)))
/-! ### calls of one's own defs -/
structure Has (P : Program) (w : World) (K : PySem.W.Frag) (mg : Str → Option Value) (base : Heap) (CX : CXT) (k : Nat) (x : Str) (ps : List Str) (sp : Sp) : Prop where
  ex : ∃ f fd, FnOk P w K mg base CX k f fd ps sp ∧ mg x = some (.ref f) ∧ PySem.W.keepIn K (.ref f) = true ∧ Binds K fd ps []
abbrev HasX (X : Cx) (CX : CXT) (k : Nat) (x : Str) (ps : List Str) (sp : Sp) : Prop := Has X.prog X.w X.K X.mg X.base CX k x ps sp
theorem e_call {x : Str} {ps : List Str} {sp : Sp} {CX : CXT} {Pa : AK} {n : Nat} (h : HasX X CX n x ps sp) (hr : Room k X.A) (hk : n ≤ k) (ha : AA X H0 M Γ (e :: es) Pa)
    (hsp : ∀ H H1 vs (Q : VK), Same H H1 → Pa H vs H1 → (∀ v H', Same H1 H' → P H v H' → Q v H') → sp vs H1 Q E0)
    (hg : Gl X x := by rfl) (hx : Passes CX X E0 := by first | exact pass0 | exact passL) (hdb : (x == ("__debug__" : Str)) = false := by decide)
    (he : starEach (e :: es) X.env = (false, eval e X.env) :: starEach es X.env := by exact star1 rfl) (hpl : (backTo pos (starEach es X.env)).any (·.1) = false := by rfl) : EE X H0 M Γ (.Call (.Name x p0) (e :: es) [] pos) P := fun g σ H Q R k => by
  obtain ⟨f, fd, F, hm, hk', hb⟩ := h.ex
  refine wE.of (pe_call F (hr.mono hk) hg hm hk' hb .nil hx pa_w hdb he hpl) (ha g σ H _ R fun vs H1 s1 p1 => ?_)
  rw [List.append_nil]
  exact hsp H H1 vs Q s1 p1 fun v H' s2 p2 => k v H' (s1.trans s2) p2
/-- a promise: data in, data out -/
def spI (K : PySem.W.Frag) (A : List PyData → PyData → Prop) : Sp := fun vs H Q _ => ∃ ds d, ImAll K H vs ds ∧ A ds d ∧ ∀ v H', Same H H' → Im K H' v d → Q v H'
/-- data in, a new list out -/
def spL (K : PySem.W.Frag) (A : List PyData → List PyData → Prop) : Sp := fun vs H Q _ => ∃ ds d, ImAll K H vs ds ∧ A ds d ∧ ∀ p us H', Same H H' → H p = none → H' p = some (.lst us) → ImAll K H' us d → Q (.ref p) H'
theorem i_call {x : Str} {ps : List Str} {A : List PyData → PyData → Prop} {CX : CXT} {ds : List PyData} {n : Nat} (h : HasX X CX n x ps (spI X.K A)) (hr : Room k X.A) (hk : n ≤ k) (hA : A ds d) (ha : AI X H0 M Γ (e :: es) ds)
    (hg : Gl X x := by rfl) (hx : Passes CX X E0 := by first | exact pass0 | exact passL) (hdb : (x == ("__debug__" : Str)) = false := by decide)
    (he : starEach (e :: es) X.env = (false, eval e X.env) :: starEach es X.env := by exact star1 rfl) (hpl : (backTo pos (starEach es X.env)).any (·.1) = false := by rfl) : EI X H0 M Γ (.Call (.Name x p0) (e :: es) [] pos) d :=
  e_call h hr hk ha (fun H H1 vs Q s1 p1 k => ⟨ds, d, p1, hA, fun v H' s2 q => k v H' s2 q⟩) hg hx hdb he hpl
theorem l_call {x : Str} {ps : List Str} {A : List PyData → List PyData → Prop} {CX : CXT} {ds rs : List PyData} {n : Nat} (h : HasX X CX n x ps (spL X.K A)) (hr : Room k X.A) (hk : n ≤ k) (hA : A ds rs) (ha : AI X H0 M Γ (e :: es) ds)
    (hg : Gl X x := by rfl) (hx : Passes CX X E0 := by first | exact pass0 | exact passL) (hdb : (x == ("__debug__" : Str)) = false := by decide)
    (he : starEach (e :: es) X.env = (false, eval e X.env) :: starEach es X.env := by exact star1 rfl) (hpl : (backTo pos (starEach es X.env)).any (·.1) = false := by rfl) : EL X H0 M Γ (.Call (.Name x p0) (e :: es) [] pos) rs :=
  e_call h hr hk ha (fun H H1 vs Q s1 p1 k => ⟨ds, rs, p1, hA, fun p us H' s2 n q m => k _ H' s2 ⟨p, us, rfl, s1.free n, q, m⟩⟩) hg hx hdb he hpl
/-! ### calls of built-ins -/
theorem e_callB {x id : Str} {idn : String} {r : List V → Hp → VK → Prop} {Pa : AK} (hc : CallR X (.builtin idn) r) (hm : X.mg x = none) (hv : bootBuiltins x = some (.builtin idn)) (ha : AA X H0 M Γ (e :: es) Pa)
    (hsp : ∀ H H1 vs (Q : VK), Same H H1 → Pa H vs H1 → (∀ v H', Same H1 H' → P H v H' → Q v H') → r vs H1 Q)
    (hg : Gl X x := by rfl) (hn : x ≠ "__name__" := by decide) (hdb : (x == ("__debug__" : Str)) = false := by decide)
    (he : starEach (e :: es) X.env = (false, eval e X.env) :: starEach es X.env := by exact star1 rfl) (hpl : (backTo pos (starEach es X.env)).any (·.1) = false := by rfl) : EE X H0 M Γ (.Call (.Name x p0) (e :: es) [] pos) P := fun g σ H Q R k =>
  wE.of (pe_callB hc hg hm hv pa_w hn hdb he hpl) (ha g σ H _ R fun vs H1 s1 p1 => hsp H H1 vs Q s1 p1 fun v H' s2 p2 => k v H' (s1.trans s2) p2)
theorem e_callTy {x : Str} {T : String} {r : List V → Hp → VK → Prop} {Pa : AK} (hc : CallR X (.type T) r) (hm : X.mg x = none) (hv : bootBuiltins x = some (.type T)) (ha : AA X H0 M Γ (e :: es) Pa)
    (hsp : ∀ H H1 vs (Q : VK), Same H H1 → Pa H vs H1 → (∀ v H', Same H1 H' → P H v H' → Q v H') → r vs H1 Q)
    (hg : Gl X x := by rfl) (hn : x ≠ "__name__" := by decide) (hdb : (x == ("__debug__" : Str)) = false := by decide)
    (he : starEach (e :: es) X.env = (false, eval e X.env) :: starEach es X.env := by exact star1 rfl) (hpl : (backTo pos (starEach es X.env)).any (·.1) = false := by rfl) : EE X H0 M Γ (.Call (.Name x p0) (e :: es) [] pos) P := fun g σ H Q R k =>
  wE.of (pe_callTy hc hg hm hv pa_w hn hdb he hpl) (ha g σ H _ R fun vs H1 s1 p1 => hsp H H1 vs Q s1 p1 fun v H' s2 p2 => k v H' (s1.trans s2) p2)
/-! ### tests -/
theorem t_val {k : Bool} (h : EI X H0 M Γ e (.bool k)) (he : ∀ whole, isTrue e X.env whole = (do let v ← whole; standAt e.pos; holding [v] (truthy v)) := by intro _; rfl) : ET X H0 M Γ e k := fun g σ H Q R q =>
  wT.of (pt_val pe_w he) (h g σ H _ R fun x H1 s1 p1 => ⟨k, p1.bl_inv, q H1 s1⟩)
theorem t_cmp {op : CmpOp} {r : R2} {k : Bool} (ho : OpR X (compareOp op) r) (ha : EE X H0 M Γ a Pa) (hb : EE X H0 M Γ b Pb) (hm : behindInMarks op b = false)
    (h : ∀ H H1 H2 x y (Q : VK), Same H H1 → Same H1 H2 → Pa H x H1 → Pb H1 y H2 → (∀ H', Same H2 H' → Q (.bl k) H') → r x y H2 Q) : ET X H0 M Γ (.Compare a [op] [b] pos) k := fun g σ H Q R q =>
  wT.of (pt_cmpR ho pe_w pe_w hm) (ha g σ H _ R fun x H1 s1 p1 => hb g σ H1 _ (R.same s1) fun y H2 s2 p2 => h H H1 H2 x y _ s1 s2 p1 p2 fun H' s3 => ⟨k, rfl, q H' (s1.trans (s2.trans s3))⟩)
section
variable {i j : Int}
theorem t_lt (ha : EI X H0 M Γ a (.int i)) (hb : EI X H0 M Γ b (.int j)) : ET X H0 M Γ (.Compare a [.Lt] [b] pos) (decide (i < j)) :=
  t_cmp op_lt ha hb (nomark _) fun H H1 H2 x y Q s1 s2 p1 p2 k => ⟨i, j, p1.int_inv, p2.int_inv, k _ (Same.refl _)⟩
theorem t_le (ha : EI X H0 M Γ a (.int i)) (hb : EI X H0 M Γ b (.int j)) : ET X H0 M Γ (.Compare a [.LtE] [b] pos) (decide (i ≤ j)) :=
  t_cmp op_le ha hb (nomark _) fun H H1 H2 x y Q s1 s2 p1 p2 k => ⟨i, j, p1.int_inv, p2.int_inv, k _ (Same.refl _)⟩
theorem t_gt (ha : EI X H0 M Γ a (.int i)) (hb : EI X H0 M Γ b (.int j)) : ET X H0 M Γ (.Compare a [.Gt] [b] pos) (decide (j < i)) :=
  t_cmp op_gt ha hb (nomark _) fun H H1 H2 x y Q s1 s2 p1 p2 k => ⟨i, j, p1.int_inv, p2.int_inv, k _ (Same.refl _)⟩
theorem t_ge (ha : EI X H0 M Γ a (.int i)) (hb : EI X H0 M Γ b (.int j)) : ET X H0 M Γ (.Compare a [.GtE] [b] pos) (decide (j ≤ i)) :=
  t_cmp op_ge ha hb (nomark _) fun H H1 H2 x y Q s1 s2 p1 p2 k => ⟨i, j, p1.int_inv, p2.int_inv, k _ (Same.refl _)⟩
end
theorem t_eq (hr : Room k X.A) (hd : d.depth ≤ 64) (ha : EI X H0 M Γ a d) (hb : EI X H0 M Γ b d') : ET X H0 M Γ (.Compare a [.Eq] [b] pos) (PyData.eqv d d') :=
  t_cmp (op_eqP hr.units) ha hb (nomark _) fun H H1 H2 x y Q s1 s2 p1 p2 k => ⟨d, d', p1.same s2, p2, hd, k _ (Same.refl _)⟩
theorem t_ne (hr : Room k X.A) (hd : d.depth ≤ 64) (ha : EI X H0 M Γ a d) (hb : EI X H0 M Γ b d') : ET X H0 M Γ (.Compare a [.NotEq] [b] pos) (!PyData.eqv d d') :=
  t_cmp (op_neP hr.units) ha hb (nomark _) fun H H1 H2 x y Q s1 s2 p1 p2 k => ⟨d, d', p1.same s2, p2, hd, k _ (Same.refl _)⟩
theorem t_not {x : Bool} (h : ET X H0 M Γ a x) : ET X H0 M Γ (.UnaryOp .Not a pos) (!x) := fun g σ H Q R q => wT.of (pt_not pt_w) (h g σ H _ R fun H1 s1 => q H1 s1)
def ETW (X : Cx) (H0 : Hp) (M : List Addr) (Γ : SC) (e : Expr) (b : Bool) : Prop := ∃ t, PW X e t ∧ ∀ g σ H Q, R X.K H0 M g Γ σ H → (∀ H', Same H H' → Q b H') → t σ H Q
theorem t_bool {x : Bool} (h : ETW X H0 M Γ e x) : ET X H0 M Γ e x := by
  obtain ⟨t, p, q⟩ := h
  exact fun g σ H Q R k => wT.of p.pt (q g σ H Q R k)
variable {rest : List Expr}
theorem tw_and1 {x : Bool} (h : ET X H0 M Γ a x) : ETW X H0 M Γ (.BoolOp .And [a] pos) x := ⟨_, pw_and1 pt_w, h⟩
theorem tw_or1 {x : Bool} (h : ET X H0 M Γ a x) : ETW X H0 M Γ (.BoolOp .Or [a] pos) x := ⟨_, pw_or1 pt_w, h⟩
theorem tw_and {x y : Bool} (h : ET X H0 M Γ a x) (g : x = true → ETW X H0 M Γ (.BoolOp .And (b :: rest) pos) y) : ETW X H0 M Γ (.BoolOp .And (a :: b :: rest) pos) (x && y) := by
  cases x with
  | true =>
    obtain ⟨t, p, q⟩ := g rfl
    exact ⟨_, pw_and pt_w p, fun g σ H Q R k => h g σ H _ R fun H1 s1 => q g σ H1 Q (R.same s1) fun H2 s2 => k H2 (s1.trans s2)⟩
  | false => exact ⟨_, pw_and (tB' := fun _ _ _ => False) pt_w ⟨fun wh pins s σ H Q I z => False.elim z⟩, fun g σ H Q R k => h g σ H _ R fun H1 s1 => k H1 s1⟩
theorem tw_or {x y : Bool} (h : ET X H0 M Γ a x) (g : x = false → ETW X H0 M Γ (.BoolOp .Or (b :: rest) pos) y) : ETW X H0 M Γ (.BoolOp .Or (a :: b :: rest) pos) (x || y) := by
  cases x with
  | false =>
    obtain ⟨t, p, q⟩ := g rfl
    exact ⟨_, pw_or pt_w p, fun g σ H Q R k => h g σ H _ R fun H1 s1 => q g σ H1 Q (R.same s1) fun H2 s2 => k H2 (s1.trans s2)⟩
  | true => exact ⟨_, pw_or (tB' := fun _ _ _ => False) pt_w ⟨fun wh pins s σ H Q I z => False.elim z⟩, fun g σ H Q R k => h g σ H _ R fun H1 s1 => k H1 s1⟩
end
end G

namespace G
open PySem PySem.Spec PyProof.Rows L2

/-! ### expressions that move the drawing state on -/
/-- e gives a value that P tells and leaves the slots as Γ' says -/
def EX (X : Cx) (H0 : Hp) (M : List Addr) (Γ : SC) (e : Expr) (Γ' : SC) (P : V → Hp → Prop) : Prop :=
  ∀ g σ H Q, R X.K H0 M g Γ σ H → (∀ v H', R X.K H0 M g Γ' σ H' → Gw H H' → P v H' → Q v H') → wE X e σ H Q
/-- some data that A tells -/
abbrev xI (K : PySem.W.Frag) (A : PyData → Prop) : V → Hp → Prop := fun v H' => ∃ d, A d ∧ Im K H' v d
def AX (X : Cx) (H0 : Hp) (M : List Addr) (Γ : SC) (es : List Expr) (Γ' : SC) (A : List PyData → Prop) : Prop :=
  ∀ g σ H Q, R X.K H0 M g Γ σ H → (∀ vs H' ds, R X.K H0 M g Γ' σ H' → Gw H H' → A ds → ImAll X.K H' vs ds → Q vs H') → wA X es σ H Q
def TX (X : Cx) (H0 : Hp) (M : List Addr) (Γ : SC) (e : Expr) (Γ' : SC) (A : Bool → Prop) : Prop :=
  ∀ g σ H Q, R X.K H0 M g Γ σ H → (∀ b H', R X.K H0 M g Γ' σ H' → Gw H H' → A b → Q b H') → wT X e σ H Q
section
variable {X : Cx} {H0 : Hp} {M : List Addr} {Γ Γ1 Γ2 : SC} {e a b c : Expr} {es : List Expr} {pos p0 : Pos}
theorem x_of {P : EK} (h : EE X H0 M Γ e P) : EX X H0 M Γ e Γ (fun v H' => ∃ H, P H v H') := fun g σ H Q r k => h g σ H Q r fun v H' s p => k v H' (r.same s) (Same.gw s) ⟨H, p⟩
theorem x_i {d : PyData} (h : EI X H0 M Γ e d) : EX X H0 M Γ e Γ (xI X.K (· = d)) := fun g σ H Q r k => h g σ H Q r fun v H' s p => k v H' (r.same s) (Same.gw s) ⟨d, rfl, p⟩
theorem EX.mono {A B : PyData → Prop} (h : EX X H0 M Γ e Γ1 (xI X.K A)) (q : ∀ d, A d → B d) : EX X H0 M Γ e Γ1 (xI X.K B) := fun g σ H Q r k =>
  h g σ H Q r fun v H' r' s ⟨d, p, m⟩ => k v H' r' s ⟨d, q d p, m⟩
theorem ax_of {ds : List PyData} (h : AI X H0 M Γ es ds) : AX X H0 M Γ es Γ (· = ds) := fun g σ H Q r k => h g σ H Q r fun v H' s p => k v H' ds (r.same s) (Same.gw s) rfl p
theorem ax_cons {A : PyData → Prop} {B : List PyData → Prop} (he : EX X H0 M Γ e Γ1 (xI X.K A)) (ht : AX X H0 M Γ1 es Γ2 B) (hs : starEach (e :: es) X.env = (false, eval e X.env) :: starEach es X.env := by exact star1 rfl) :
    AX X H0 M Γ (e :: es) Γ2 (fun ds => ∃ d r, ds = d :: r ∧ A d ∧ B r) := fun g σ H Q r k =>
  wA.of (pa_cons pe_w pa_w hs) (he g σ H _ r fun x H1 r1 s1 ⟨d, p1, m1⟩ => ht g σ H1 _ r1 fun xs H2 ds r2 s2 p2 m2 => k _ H2 _ r2 (s1.trans s2) ⟨d, ds, rfl, p1, p2⟩ (.cons (m1.gw s2 d x) m2))
theorem x_tup {A : List PyData → Prop} {x1} (h : AX X H0 M Γ es Γ1 A) (hl : ∀ ds, A ds → ds.length ≤ 100000) : EX X H0 M Γ (.Tuple es x1 pos) Γ1 (xI X.K fun d => ∃ ds, d = .tuple ds ∧ A ds) := fun g σ H Q r k =>
  wE.of (pe_tup pa_w) (h g σ H _ r fun xs H1 ds r1 s1 p1 m1 => ⟨by rw [m1.len]; exact Nat.le_trans (hl ds p1) (by decide), fun p hp =>
    k _ _ (r1.same (same_new hp)) (s1.trans (Same.gw (same_new hp))) ⟨_, ⟨ds, rfl, p1⟩, .tup (.inl (.inl upd_same)) (m1.same (same_new hp))⟩⟩)
theorem x_bin {op : Operator} {r : R2} {A B D : PyData → Prop} (ho : OpR X (binaryOp op) r) (ha : EX X H0 M Γ a Γ1 (xI X.K A)) (hb : EX X H0 M Γ1 b Γ2 (xI X.K B))
    (h : ∀ H x y dx dy (Q : VK), A dx → B dy → Im X.K H x dx → Im X.K H y dy → (∀ v H' d, Same H H' → D d → Im X.K H' v d → Q v H') → r x y H Q) : EX X H0 M Γ (.BinOp a op b pos) Γ2 (xI X.K D) := fun g σ H Q r k =>
  wE.of (pe_op ho pe_w pe_w) (ha g σ H _ r fun x H1 r1 s1 ⟨dx, p1, m1⟩ => hb g σ H1 _ r1 fun y H2 r2 s2 ⟨dy, p2, m2⟩ => h H2 x y dx dy Q p1 p2 (m1.gw s2 dx x) m2 fun v H' d s3 p3 m3 =>
    k v H' (r2.same s3) ((s1.trans s2).trans (Same.gw s3)) ⟨d, p3, m3⟩)
theorem x_cmp {op : CmpOp} {r : R2} {A B D : PyData → Prop} (ho : OpR X (compareOp op) r) (ha : EX X H0 M Γ a Γ1 (xI X.K A)) (hb : EX X H0 M Γ1 b Γ2 (xI X.K B)) (hm : behindInMarks op b = false)
    (h : ∀ H x y dx dy (Q : VK), A dx → B dy → Im X.K H x dx → Im X.K H y dy → (∀ v H' d, Same H H' → D d → Im X.K H' v d → Q v H') → r x y H Q) : EX X H0 M Γ (.Compare a [op] [b] pos) Γ2 (xI X.K D) := fun g σ H Q r k =>
  wE.of (pe_cmpR ho pe_w pe_w hm) (ha g σ H _ r fun x H1 r1 s1 ⟨dx, p1, m1⟩ => hb g σ H1 _ r1 fun y H2 r2 s2 ⟨dy, p2, m2⟩ => h H2 x y dx dy Q p1 p2 (m1.gw s2 dx x) m2 fun v H' d s3 p3 m3 =>
    k v H' (r2.same s3) ((s1.trans s2).trans (Same.gw s3)) ⟨d, p3, m3⟩)
/-- an item of a list of one's own, at a drawn place -/
theorem x_ixO {i : Nat} {x : Str} {px : Pos} {ds : List PyData} {B D : PyData → Prop} (hg : Γ.getD i .no = .ls ds) (hg1 : Γ1.getD i .no = .ls ds) (hb : EX X H0 M Γ b Γ1 (xI X.K B))
    (h : ∀ dy, B dy → ∃ j d, dy = .int j ∧ atI ds j = some d ∧ D d) (hN : X.N[i]? = some x := by rfl) (hv : Vis X.env.scope x := by first | exact Or.inl rfl | exact Or.inr (Or.inl rfl) | exact Or.inr (Or.inr rfl)) (hd : (x == ("__debug__" : Str)) = false := by decide)
    (hcd : (x == ("__classdict__" : Str)) = false := by decide) (hs : PlainIx b := by exact fun _ _ => rfl) : EX X H0 M Γ (.Subscript (.Name x px) b pos) Γ1 (xI X.K D) := fun g σ H Q r k => by
  obtain ⟨p, vs, e, m, q, _⟩ := r.ls hg
  refine wE.of (pe_ix ix_list (pe_var hN hv hd hcd) pe_w hs) ⟨_, e, hb g σ H _ r fun y H1 r1 s1 ⟨dy, p1, m1⟩ => ?_⟩
  obtain ⟨j, d, rfl, h1, h2⟩ := h dy p1
  obtain ⟨p', vs', e', m', q', _⟩ := r1.ls hg1
  rw [e] at e'
  have ep : p = p' := by
    injection e' with a; injection a with b; injection b
  subst ep
  obtain ⟨v, g1, g2⟩ := atI_im q' h1
  exact ⟨p, vs', j, v, rfl, m1.int_inv, SqL.of m', g1, k v H1 r1 s1 ⟨d, h2, g2⟩⟩
/-- an item of a tuple, at a drawn place -/
theorem x_ixT {A B D : PyData → Prop} (ha : EX X H0 M Γ a Γ1 (xI X.K A)) (hb : EX X H0 M Γ1 b Γ2 (xI X.K B)) (h : ∀ dx dy, A dx → B dy → ∃ ds j d, dx = .tuple ds ∧ dy = .int j ∧ atI ds j = some d ∧ D d) (hs : PlainIx b := by exact fun _ _ => rfl) :
    EX X H0 M Γ (.Subscript a b pos) Γ2 (xI X.K D) := fun g σ H Q r k =>
  wE.of (pe_ix ix_tup pe_w pe_w hs) (ha g σ H _ r fun x H1 r1 s1 ⟨dx, p1, m1⟩ => hb g σ H1 _ r1 fun y H2 r2 s2 ⟨dy, p2, m2⟩ => by
    obtain ⟨ds, j, d, rfl, rfl, h1, h2⟩ := h dx dy p1 p2
    obtain ⟨q, xs, rfl, hq, hx⟩ := (m1.gw s2 _ _).tup_inv
    obtain ⟨v, g1, g2⟩ := atI_im hx h1
    exact ⟨q, xs, j, v, rfl, m2.int_inv, hq, g1, k _ _ r2 (s1.trans s2) ⟨d, h2, g2⟩⟩)
/-- a promise of a def whose first argument is the drawing state: A: the other arguments and the bound; B: what it gives; c: by how much the bound grows -/
def spS (K : PySem.W.Frag) (A : List PyData → Nat → Prop) (c : List PyData → Nat) (B : List PyData → PyData → Prop) : Sp := fun vs H Q _ =>
  ∃ a q n ws ds, vs = .ref a :: ws ∧ StAt H a q n ∧ ImAll K H ws ds ∧ A ds n ∧ ∀ v d H', But [a] H H' → StAt H' a q (n + c ds) → B ds d → Im K H' v d → Q v H'
theorem x_call {i k n m : Nat} {x y : Str} {py : Pos} {ps : List Str} {A : List PyData → Nat → Prop} {c : List PyData → Nat} {B : List PyData → PyData → Prop} {CX : CXT} {ds : List PyData} {u q : Addr}
    (h : HasX X CX n x ps (spS X.K A c B)) (hr : Room k X.A) (hk : n ≤ k) (hst : Γ.getD i .no = .st u q m) (ha : AI X H0 M Γ es ds) (hA : A ds m)
    (hg : Gl X x := by rfl) (hx : Passes CX X E0 := by first | exact pass0 | exact passL) (hdb : (x == ("__debug__" : Str)) = false := by decide)
    (he : starEach (.Name y py :: es) X.env = (false, eval (.Name y py) X.env) :: starEach es X.env := by exact star1 rfl) (hpl : (backTo pos (starEach es X.env)).any (·.1) = false := by rfl)
    (hN : X.N[i]? = some y := by rfl) (hv : Vis X.env.scope y := by first | exact Or.inl rfl | exact Or.inr (Or.inl rfl) | exact Or.inr (Or.inr rfl)) (hd : (y == ("__debug__" : Str)) = false := by decide)
    (hcd : (y == ("__classdict__" : Str)) = false := by decide) : EX X H0 M Γ (.Call (.Name x p0) (.Name y py :: es) [] pos) (Γ.set i (.st u q (m + c ds))) (xI X.K (B ds)) := fun g σ H Q r k => by
  obtain ⟨f, fd, F, hm, hk', hb⟩ := h.ex
  obtain ⟨e, sa⟩ := r.st hst
  refine wE.of (pe_call F (hr.mono hk) hg hm hk' hb .nil hx (pa_cons (pe_var hN hv hd hcd) pa_w he) hdb he hpl) ⟨_, e, ha g σ H _ r fun vs H1 s1 p1 => ?_⟩
  show spS X.K A c B ((V.ref u :: vs) ++ []) H1 Q E0
  rw [List.append_nil]
  have r1 := r.same s1
  obtain ⟨_, sa1⟩ := r1.st hst
  refine ⟨u, q, m, vs, ds, rfl, sa1, p1, hA, fun v d H' b1 s2 p2 m2 => ?_⟩
  obtain ⟨s0, row, nn, sd, z1, z2, _⟩ := sa1
  have gg : Gw H1 H' := ⟨fun b xs z => b1 b _ (fun m => by
      have : b = u := by simpa using m
      subst this; rw [z1] at z; cases z) z, fun b o u' z => b1 b _ (fun m => by
      have : b = u := by simpa using m
      subst this; rw [z1] at z; cases z) z⟩
  exact k v H' (r1.updSt hst b1 s2) ((Same.gw s1).trans gg) ⟨d, p2, m2⟩
theorem tx_of {k : Bool} (h : ET X H0 M Γ e k) : TX X H0 M Γ e Γ (· = k) := fun g σ H Q r q => h g σ H Q r fun H1 s1 => q k H1 (r.same s1) (Same.gw s1) rfl
theorem tx_cmp {op : CmpOp} {r : R2} {A B : PyData → Prop} {D : Bool → Prop} (ho : OpR X (compareOp op) r) (ha : EX X H0 M Γ a Γ1 (xI X.K A)) (hb : EX X H0 M Γ1 b Γ2 (xI X.K B)) (hm : behindInMarks op b = false)
    (h : ∀ H x y dx dy (Q : VK), A dx → B dy → Im X.K H x dx → Im X.K H y dy → (∀ H' d, Same H H' → D d → Q (.bl d) H') → r x y H Q) : TX X H0 M Γ (.Compare a [op] [b] pos) Γ2 D := fun g σ H Q r k =>
  wT.of (pt_cmpR ho pe_w pe_w hm) (ha g σ H _ r fun x H1 r1 s1 ⟨dx, p1, m1⟩ => hb g σ H1 _ r1 fun y H2 r2 s2 ⟨dy, p2, m2⟩ => h H2 x y dx dy _ p1 p2 (m1.gw s2 dx x) m2 fun H' d s3 p3 =>
    ⟨d, rfl, k d H' (r2.same s3) ((s1.trans s2).trans (Same.gw s3)) p3⟩)
theorem tx_val {A : PyData → Prop} {D : Bool → Prop} (h : EX X H0 M Γ e Γ1 (xI X.K A)) (hD : ∀ d, A d → ∃ b, d = .bool b ∧ D b) (he : ∀ whole, isTrue e X.env whole = (do let v ← whole; standAt e.pos; holding [v] (truthy v)) := by intro _; rfl) : TX X H0 M Γ e Γ1 D := fun g σ H Q r q =>
  wT.of (pt_val pe_w he) (h g σ H _ r fun x H1 r1 s1 ⟨d, p, m⟩ => by
    obtain ⟨b, rfl, hb⟩ := hD d p
    exact ⟨b, m.bl_inv, q b H1 r1 s1 hb⟩)
end

/-! ### statements -/
/-- from where the ends D' are reached if D's are -/
structure Imp (g : Hp → Prop) (D D' : Ends) : Prop where
  nx : ∀ σ H, g H → D.nx σ H → D'.nx σ H
  rt : ∀ v H, g H → D.rt v H → D'.rt v H
  bk : ∀ σ H, g H → D.bk σ H → D'.bk σ H
  ct : ∀ σ H, g H → D.ct σ H → D'.ct σ H
abbrev Far (g : Gs) (H : Hp) : Hp → Prop := fun H' => Gw H H' ∧ Kept g H'
theorem Imp.go {g : Gs} {H H' : Hp} {D D' : Ends} (h : Imp (Far g H) D D') (s : Gw H H') : Imp (Far g H') D D' :=
  ⟨fun σ H1 f => h.nx σ H1 ⟨s.trans f.1, f.2⟩, fun σ H1 f => h.rt σ H1 ⟨s.trans f.1, f.2⟩, fun σ H1 f => h.bk σ H1 ⟨s.trans f.1, f.2⟩, fun σ H1 f => h.ct σ H1 ⟨s.trans f.1, f.2⟩⟩
structure DD where
  rt : VK
  nx : Gs → St → Hp → Prop := fun _ _ _ => False
  bk : Gs → St → Hp → Prop := fun _ _ _ => False
  ct : Gs → St → Hp → Prop := fun _ _ _ => False
abbrev DD.at (D : DD) (g : Gs) : Ends := { nx := D.nx g, rt := D.rt, bk := D.bk g, ct := D.ct g }
/-- from slots as Γ the statements reach D -/
def SG (X : Cx) (H0 : Hp) (M : List Addr) (Γ : SC) (sts : List Stmt) (D : DD) : Prop :=
  ∀ g σ H D', R X.K H0 M g Γ σ H → Imp (Far g H) (D.at g) D' → wSs X sts D' σ H
section
variable {X : Cx} {H0 : Hp} {M : List Addr} {Γ Γ1 Γ2 : SC} {e c : Expr} {es : List Expr} {pos p0 : Pos} {rest body orelse : List Stmt} {D : DD}
theorem g_nil (h : ∀ g σ H, R X.K H0 M g Γ σ H → D.nx g σ H) : SG X H0 M Γ [] D := fun g σ H D' r i => wSs.of pss_nil (i.nx σ H ⟨Gw.refl H, r.kept⟩ (h g σ H r))
theorem cons_w {s1 : Stmt} {D' : Ends} {σ : St} {H : Hp} (h : wS X s1 { D' with nx := fun σ' H' => wSs X rest D' σ' H' } σ H) : wSs X (s1 :: rest) D' σ H := wSs.of (pss_cons ps_w pss_w) h
theorem wS.of' {s1 : Stmt} {t : TS} {D' : Ends} {σ : St} {H : Hp} (h : PS X s1 t) (q : t { D' with nx := fun σ' H' => wSs X rest D' σ' H' } σ H) : wSs X (s1 :: rest) D' σ H := cons_w (wS.of h q)
/-- x = e -/
theorem g_set (i : Nat) {x : Str} {px : Pos} {d : PyData} (hN : X.N.Nodup) (hl : Γ.length = X.N.length) (he : EI X H0 M Γ e d) (hr : SG X H0 M (Γ.set i (.im d)) rest D) (hi : X.N[i]? = some x := by rfl) (hx : Loc X.env.scope x := by first | exact Or.inl rfl | exact Or.inr rfl)
    (hs : swapsWith e (some (.Name x px)) pos.line X.env = pure false := by rfl) (hf : X.fn x = true ∨ X.env.scope.names.lookup x = some .local := by first | exact .inl rfl | exact .inr rfl | assumption) : SG X H0 M Γ (.Assign [.Name x px] e pos :: rest) D := fun g σ H D' r im =>
  wS.of' (ps_set hN hi hx pe_w hs hf) (he g σ H _ r fun v H' s m => hr g _ _ D' (r.setIm s (by rw [hl]; exact (List.getElem?_eq_some_iff.mp hi).1) m) (im.go (Same.gw s)))
theorem g_setX (i : Nat) {x : Str} {px : Pos} {A : PyData → Prop} (hN : X.N.Nodup) (hl : Γ1.length = X.N.length) (he : EX X H0 M Γ e Γ1 (xI X.K A)) (hr : ∀ d, A d → SG X H0 M (Γ1.set i (.im d)) rest D) (hi : X.N[i]? = some x := by rfl) (hx : Loc X.env.scope x := by first | exact Or.inl rfl | exact Or.inr rfl)
    (hs : swapsWith e (some (.Name x px)) pos.line X.env = pure false := by rfl) (hf : X.fn x = true ∨ X.env.scope.names.lookup x = some .local := by first | exact .inl rfl | exact .inr rfl | assumption) : SG X H0 M Γ (.Assign [.Name x px] e pos :: rest) D := fun g σ H D' r im =>
  wS.of' (ps_set hN hi hx pe_w hs hf) (he g σ H _ r fun v H' r1 s ⟨d, p, m⟩ => hr d p g _ _ D' (r1.setIm (Same.refl H') (by rw [hl]; exact (List.getElem?_eq_some_iff.mp hi).1) m) (im.go s))
theorem g_setV (i : Nat) {x : Str} {px : Pos} {u : V} (hN : X.N.Nodup) (hl : Γ.length = X.N.length) (he : EV X H0 M Γ e u) (hr : SG X H0 M (Γ.set i (.va u)) rest D) (hi : X.N[i]? = some x := by rfl) (hx : Loc X.env.scope x := by first | exact Or.inl rfl | exact Or.inr rfl)
    (hs : swapsWith e (some (.Name x px)) pos.line X.env = pure false := by rfl) (hf : X.fn x = true ∨ X.env.scope.names.lookup x = some .local := by first | exact .inl rfl | exact .inr rfl | assumption) : SG X H0 M Γ (.Assign [.Name x px] e pos :: rest) D := fun g σ H D' r im =>
  wS.of' (ps_set hN hi hx pe_w hs hf) (he g σ H _ r fun v H' s m => by
    subst m
    exact hr g _ _ D' (r.setVa s (by rw [hl]; exact (List.getElem?_eq_some_iff.mp hi).1)) (im.go (Same.gw s)))
/-- M is still there -/
def MOk (X : Cx) (H0 : Hp) (M : List Addr) (Γ : SC) : Prop := ∀ g σ H, R X.K H0 M g Γ σ H → ∀ a ∈ M, H0 a ≠ none → H a ≠ none
theorem MOk.nil : MOk X H0 [] Γ := fun _ _ _ _ a h => nomatch h
theorem MOk.ofSt {i : Nat} {a q : Addr} {b : Nat} (h : Γ.getD i .no = .st a q b) : MOk X H0 [a] Γ := fun g σ H r c hc _ => by
  have : c = a := by simpa using hc
  subst this
  obtain ⟨_, _, row, n, sd, h1, _⟩ := r.st h
  rw [h1]
  exact fun z => nomatch z
theorem g_setL (i : Nat) {x : Str} {px : Pos} {ds : List PyData} (hM : MOk X H0 M Γ) (hN : X.N.Nodup) (hl : Γ.length = X.N.length) (he : EL X H0 M Γ e ds) (hr : SG X H0 M (Γ.set i (.ls ds)) rest D) (hi : X.N[i]? = some x := by rfl) (hx : Loc X.env.scope x := by first | exact Or.inl rfl | exact Or.inr rfl)
    (hs : swapsWith e (some (.Name x px)) pos.line X.env = pure false := by rfl) (hf : X.fn x = true ∨ X.env.scope.names.lookup x = some .local := by first | exact .inl rfl | exact .inr rfl | assumption) : SG X H0 M Γ (.Assign [.Name x px] e pos :: rest) D := fun g σ H D' r im =>
  wS.of' (ps_set hN hi hx pe_w hs hf) (he g σ H _ r fun v H' s ⟨p, vs, ev, hn, hp, m⟩ => by
    subst ev
    exact hr g _ _ D' (r.setLs s (by rw [hl]; exact (List.getElem?_eq_some_iff.mp hi).1) hn (r.fresh (hM g σ H r) hn) hp m) (im.go (Same.gw s)))
/-- return e -/
theorem g_ret {P : EK} (he : EE X H0 M Γ e P) (h : ∀ g σ H v H', R X.K H0 M g Γ σ H → Same H H' → P H v H' → D.rt v H') : SG X H0 M Γ (.Return (some e) pos :: rest) D := fun g σ H D' r im =>
  wS.of' (ps_ret pe_w) (he g σ H _ r fun v H' s p => im.rt v H' ⟨Same.gw s, (r.same s).kept⟩ (h g σ H v H' r s p))
theorem g_retX {P : V → Hp → Prop} (he : EX X H0 M Γ e Γ1 P) (h : ∀ g σ v H', R X.K H0 M g Γ1 σ H' → P v H' → D.rt v H') : SG X H0 M Γ (.Return (some e) pos :: rest) D := fun g σ H D' r im =>
  wS.of' (ps_ret pe_w) (he g σ H _ r fun v H' r1 s p => im.rt v H' ⟨s, r1.kept⟩ (h g σ v H' r1 p))
/-- if c: body else: orelse -/
theorem g_if {k : Bool} (hc : ET X H0 M Γ c k) (ht : k = true → SG X H0 M Γ body { D with nx := fun g σ H => ∀ D', Imp (Far g H) (D.at g) D' → wSs X rest D' σ H })
    (hf : k = false → SG X H0 M Γ orelse { D with nx := fun g σ H => ∀ D', Imp (Far g H) (D.at g) D' → wSs X rest D' σ H }) : SG X H0 M Γ (.If c body orelse pos :: rest) D := fun g σ H D' r im => by
  refine wS.of' (ps_if pt_w pss_w pss_w) (hc g σ H _ r fun H' s => ?_)
  have im' := im.go (Same.gw s)
  have im2 : Imp (Far g H') (({ D with nx := fun g σ H => ∀ D', Imp (Far g H) (D.at g) D' → wSs X rest D' σ H } : DD).at g) { D' with nx := fun σ' H' => wSs X rest D' σ' H' } :=
    ⟨fun σ1 H1 f q => q D' (im'.go f.1), im'.rt, im'.bk, im'.ct⟩
  cases k with
  | true => exact ht rfl g σ H' _ (r.same s) im2
  | false => exact hf rfl g σ H' _ (r.same s) im2
theorem g_ifX {A : Bool → Prop} (hc : TX X H0 M Γ c Γ1 A) (ht : A true → SG X H0 M Γ1 body { D with nx := fun g σ H => ∀ D', Imp (Far g H) (D.at g) D' → wSs X rest D' σ H })
    (hf : A false → SG X H0 M Γ1 orelse { D with nx := fun g σ H => ∀ D', Imp (Far g H) (D.at g) D' → wSs X rest D' σ H }) : SG X H0 M Γ (.If c body orelse pos :: rest) D := fun g σ H D' r im => by
  refine wS.of' (ps_if pt_w pss_w pss_w) (hc g σ H _ r fun k H' r1 s p => ?_)
  have im' := im.go s
  have im2 : Imp (Far g H') (({ D with nx := fun g σ H => ∀ D', Imp (Far g H) (D.at g) D' → wSs X rest D' σ H } : DD).at g) { D' with nx := fun σ' H' => wSs X rest D' σ' H' } :=
    ⟨fun σ1 H1 f q => q D' (im'.go f.1), im'.rt, im'.bk, im'.ct⟩
  cases k with
  | true => exact ht p g σ H' _ r1 im2
  | false => exact hf p g σ H' _ r1 im2
/-- a branch's end: on with what follows the if -/
theorem g_on (h : SG X H0 M Γ rest D) : SG X H0 M Γ [] { D with nx := fun g σ H => ∀ D', Imp (Far g H) (D.at g) D' → wSs X rest D' σ H } := g_nil fun g σ H r D' im => h g σ H D' r im
/-- .append of data to a list of one's own in slot i -/
theorem g_append (i : Nat) {x : Str} {px pa : Pos} {d : PyData} {ds : List PyData} (hls : Γ.getD i .no = .ls ds) (hz : ds.length < 100000) (he : EI X H0 M Γ e d) (hr : SG X H0 M (Γ.set i (.ls (ds ++ [d]))) rest D)
    (hN : X.N[i]? = some x := by rfl) (hv : Vis X.env.scope x := by first | exact Or.inl rfl | exact Or.inr (Or.inl rfl) | exact Or.inr (Or.inr rfl)) (hd : (x == ("__debug__" : Str)) = false := by decide)
    (hcd : (x == ("__classdict__" : Str)) = false := by decide)
    (hp : ∀ {to : TE} {t : TA}, PE X (.Name x px) to → PA X [e] t → PE X (.Call (.Attribute (.Name x px) "append" pa) [e] [] p0) (tBM X.K "list" rAppend to t) := by
      intro to t h1 h2; exact pe_bm PySem.F.plainAttrs_list PySem.F.slot_list_append PySem.F.type_list_append mt_append h1 h2)
    (hs : swapsWith (.Call (.Attribute (.Name x px) "append" pa) [e] [] p0) none pos.line X.env = pure false := by rfl) (hs1 : starEach [e] X.env = (false, eval e X.env) :: starEach [] X.env := by rfl) : SG X H0 M Γ (.Expr (.Call (.Attribute (.Name x px) "append" pa) [e] [] p0) pos :: rest) D := fun g σ H D' r im => by
  obtain ⟨p, vs, ex, hp0, hm, _⟩ := r.ls hls
  refine wS.of' (ps_expr (hp (pe_var hN hv hd hcd) (pa_cons pe_w pa_nil hs1)) hs) ⟨_, ex, .inl ⟨rfl, vs, SqL.of hp0⟩, he g σ H _ r fun v H' s m => ?_⟩
  have r1 := r.same s
  have hm1 := hm.same s
  refine ⟨p, vs, v, rfl, rfl, s _ _ hp0, by rw [hm.len]; exact Nat.lt_of_lt_of_le hz (by decide), ?_⟩
  refine hr g _ _ D' (r1.updLs (es := ds ++ [d]) ex hls (hm1.append (.cons m .nil))) (im.go ((Same.gw s).trans (gw_mut ?_)))
  rw [s _ _ hp0]
  trivial
/-- .extend by a new list -/
theorem g_extend (i : Nat) {x : Str} {px pa : Pos} {es' ds : List PyData} (hls : Γ.getD i .no = .ls ds) (hz : ds.length + es'.length ≤ 100000) (he : EL X H0 M Γ e es') (hr : SG X H0 M (Γ.set i (.ls (ds ++ es'))) rest D)
    (hN : X.N[i]? = some x := by rfl) (hv : Vis X.env.scope x := by first | exact Or.inl rfl | exact Or.inr (Or.inl rfl) | exact Or.inr (Or.inr rfl)) (hd : (x == ("__debug__" : Str)) = false := by decide)
    (hcd : (x == ("__classdict__" : Str)) = false := by decide)
    (hp : ∀ {to : TE} {t : TA}, PE X (.Name x px) to → PA X [e] t → PE X (.Call (.Attribute (.Name x px) "extend" pa) [e] [] p0) (tBM X.K "list" rExtend to t) := by
      intro to t h1 h2; exact pe_bm PySem.F.plainAttrs_list PySem.F.slot_list_extend PySem.F.type_list_extend mt_extend h1 h2)
    (hs : swapsWith (.Call (.Attribute (.Name x px) "extend" pa) [e] [] p0) none pos.line X.env = pure false := by rfl) (hs1 : starEach [e] X.env = (false, eval e X.env) :: starEach [] X.env := by rfl) : SG X H0 M Γ (.Expr (.Call (.Attribute (.Name x px) "extend" pa) [e] [] p0) pos :: rest) D := fun g σ H D' r im => by
  obtain ⟨p, vs, ex, hp0, hm, _⟩ := r.ls hls
  refine wS.of' (ps_expr (hp (pe_var hN hv hd hcd) (pa_cons pe_w pa_nil hs1)) hs) ⟨_, ex, .inl ⟨rfl, vs, SqL.of hp0⟩, he g σ H _ r fun v H' s ⟨q, us, ev, hn, hq, m⟩ => ?_⟩
  subst ev
  have r1 := r.same s
  have hm1 := hm.same s
  refine ⟨p, q, vs, us, rfl, rfl, s _ _ hp0, hq, by rw [hm.len, m.len]; exact Nat.le_trans hz (by decide), ?_⟩
  refine hr g _ _ D' (r1.updLs (es := ds ++ es') ex hls (hm1.append m)) (im.go ((Same.gw s).trans (gw_mut ?_)))
  rw [s _ _ hp0]
  trivial
end
end G

/-! G: for i, x in enumerate(a tuple), out of the library's GoesN. -/
namespace G
open PySem PySem.Spec PyProof.Rows L2

theorem made_enum {v : Value} {ob : Obj} {Z : Heap → Prop} (B : Begins v ob Z) : Meets (Builtin.«enumerate.__new__» ⟨[.type "enumerate", v], []⟩) (fun _ R s =>
    Z s.heap ∧ R (.ok (.ret (.ref (s.heap.push ob).objs.size)))
      { s with heap := (s.heap.push ob).push { cls := .type "enumerate", data := .fields #[.none, .bool false, .ref s.heap.objs.size, rawInt 0, .none, .none] } }) :=
  .of_wp fun prog w A R ⟨hp, ge, dr, tk, os⟩ ⟨hz, hR⟩ => by
    have subE := sub_enumerate
    have it : ∀ {A' : Around} {E Q : Value → Shared → Prop}, Q (.ref hp.objs.size) ⟨hp.push ob, ge, dr, tk, os⟩ → wpAny (model prog w) A' (pyIter v) Q E ⟨hp, ge, dr, tk, os⟩ := fun q => B.iter prog w _ _ ⟨hp, ge, dr, tk, os⟩ _ hz q
    wp_walk using it
    refine wpAny_stack_any fun _ => wpAny_pure ?_
    split
    · rename_i k _ _ _ _ _
      cases (k == Value.type "enumerate") <;> (wp_walk using it; exact ⟨_, rfl, hR⟩)
    · wp_walk using it; exact ⟨_, rfl, hR⟩
/-- the tuple at a, each item in a new pair with its place -/
def Iteu (K : PySem.W.Frag) (a : Addr) : It where
  go i H := ∃ xs x, SqT K H a xs ∧ xs[i]? = some x
  yld i H v H' := ∃ T x, v = .ref T ∧ H T = none ∧ H' = upd H T (.tup [.int (i : Nat), x]) ∧ ∀ xs, SqT K H a xs → xs[i]? = some x
  stop i H := ∃ xs, SqT K H a xs ∧ xs.length = i
abbrev EnumAt (e it a : Addr) (i : Nat) (h : Heap) : Prop := (∃ old, IsEnum h e it (0 + (i : Int)) old) ∧ h.IsTupleIter it a i
theorem EnumAt.there {e it a b : Addr} {i : Nat} {h : Heap} (st : EnumAt e it a i h) (hb : b = e ∨ b = it) : ∃ o, h.get? b = some o ∧ (∀ v, o.data ≠ .cell v) ∧ o.cls ≠ .type "tuple" := by
  obtain ⟨⟨old, he⟩, o, ho, hc, hd⟩ := st
  rcases hb with rfl | rfl
  · exact ⟨_, he, (by intro v q; cases q), fun q => absurd (show Value.type "enumerate" = Value.type "tuple" from q) (by decide)⟩
  · exact ⟨o, ho, (by intro v q; rw [hd] at q; cases q), fun q => absurd (show Value.type "tuple_iterator" = Value.type "tuple" from hc.symm.trans q) (by decide)⟩
theorem EnumAt.goes {X : Cx} {elts : List Expr} {kk : Nat} {tpos : Pos} {e it a : Addr} {i : Nat} {pins : List (Addr × Obj)} {σ : St} {H : Hp} {s : Shared} {xs : List V} (I : Inv X pins σ H s) (hc : X.calm = true) (ne : e ≠ it) (st : EnumAt e it a i s.heap) (hq : SqT X.K H a xs) :
    ∃ its : List Value, Vals xs its ∧ s.heap.IsTuple a its.toArray ∧ GoesN X.prog X.w X.A (.Tuple elts kk tpos) e (e :: [it, a]) [e, it] its.toArray.size
      (fun i h₀ v h => ∃ T t x, v = .ref T ∧ its.toArray[i]? = some x ∧ h.IsTuple T #[.int (0 + (i : Int)) t, x] ∧ h₀.objs.size ≤ T) (fun i h => (∃ old, IsEnum h e it (0 + (i : Int)) old) ∧ h.IsTupleIter it a i ∧ h.IsTuple a its.toArray) := by
  obtain ⟨its, rv, p, _⟩ := I.tuple hq
  obtain ⟨oa, ha, ca, _⟩ := id p
  have away : ∀ b, b = e ∨ b = it → b ≠ a := fun b hb z => by
    obtain ⟨o, ho, _, hn⟩ := st.there hb
    rw [z, ha] at ho
    exact hn (Option.some.inj ho ▸ ca)
  have D := Draws.tuple (prog := X.prog) (w := X.w) (A := X.A.in1) (I.ok.hd hc) it a (Ne.symm (away it (.inr rfl))) its.toArray
  exact ⟨its, rv, p, (GoesN.enumFrom 0 D e ne (by simp [ne, away e (.inl rfl)]) (by simp)).mono fun i h₀ v h _ ⟨T, t, x, y1, y2, y3, y4⟩ => ⟨T, t, x, y1, y3, y4, y2⟩⟩
theorem turn_enumT {P : Program} {w : World} {K : PySem.W.Frag} {elts : List Expr} {kk : Nat} {tpos : Pos} (a e it : Addr) (ne : e ≠ it) : Turn P w K (.Tuple elts kk tpos) (Iteu K a) [e, it] e (EnumAt e it a) where
  mem := List.mem_cons_self
  obj i h st b hb := by
    obtain ⟨o, h1, h2, _⟩ := st.there (b := b) (by simpa using hb)
    exact ⟨o, h1, h2⟩
  keep i h h' st k := by
    obtain ⟨⟨old, he⟩, hi⟩ := st
    exact ⟨⟨old, k e (by simp) _ he⟩, hi.at fun o q => k it (by simp) o q⟩
  item := by
    rintro X rfl rfl rfl hc i pins s σ H E I hf st ⟨xs, x, hq, hx⟩
    obtain ⟨its, rv, p, W⟩ := st.goes (elts := elts) (kk := kk) (tpos := tpos) I hc ne hq
    obtain ⟨u, hu, ru⟩ := rv.get hx
    have lt : ∀ b, b ∈ [e, it] → b < s.heap.objs.size := fun b hb => by
      obtain ⟨o, h1, _⟩ := st.there (b := b) (by simpa using hb)
      exact Heap.lt_size h1
    refine W.goes i s _ E (by have := (List.getElem?_eq_some_iff.mp hu).1; simpa using this) ⟨st.1, st.2, p⟩ fun v h' tk y st' kept _ => ?_
    obtain ⟨T, t, z, rfl, hz, ⟨oT, hT, cT, nT, dT⟩, new⟩ := y
    have ez : z = u := Option.some.inj ((show its.toArray[i]? = some z from hz).symm.trans (by simpa using hu))
    subst ez
    have ei : (0 : Int) + (i : Int) = ((i : Nat) : Int) := by omega
    rw [ei] at dT
    have obj : ObjOk X.prog X.w (upd H T (.tup [.int (i : Nat), x])) h' T (.tup [.int (i : Nat), x]) := ⟨by show 2 ≤ sizeLine; decide, [.int i t, z], .cons ⟨t, rfl⟩ (.cons ru .nil), oT, hT, cT, nT, dT⟩
    refine ⟨.ref T, _, I.turnedNew (ch := [e, it]) kept hf new obj, rfl, ⟨T, x, rfl, I.hok.fresh new, rfl, fun ys hy => (I.tuple_inj hy hq) ▸ hx⟩, ⟨st'.1, st'.2.1⟩, fun b hb => ?_⟩
    rw [upd_ne (Nat.ne_of_lt (Nat.lt_of_lt_of_le (lt b hb) new))]
    exact (hf b hb).1
  done := by
    rintro X rfl rfl rfl hc i pins s σ H E I hf st ⟨xs, hq, hx⟩
    obtain ⟨its, rv, p, W⟩ := st.goes (elts := elts) (kk := kk) (tpos := tpos) I hc ne hq
    have li : its.toArray.size = i := by rw [← hx, rv.length]; simp
    subst li
    obtain ⟨f0, f1, f2, f3, f4, f5⟩ := hf it (by simp)
    refine W.stops s _ E ⟨st.1, st.2, p⟩ fun h' tk kept _ => I.turnedL kept hf
  self A i s Q E st h := by
    obtain ⟨⟨old, he⟩, _⟩ := st
    exact wpAny_pyIter_enum he h
theorem pi_enumT {X : Cx} {e : Expr} {ta : TA} {p pos tpos : Pos} {elts : List Expr} {kk : Nat} (hg : Gl X "enumerate") (hm : X.mg "enumerate" = none) (ha : PA X [e] ta) (hs : starEach [e] X.env = [(false, eval e X.env)] := by rfl) :
    PI X (.Tuple elts kk tpos) (.Call (.Name "enumerate" p) [e] [] pos) (fun σ H R => ta σ H fun vs H1 => ∃ a xs, vs = [.ref a] ∧ SqT X.K H1 a xs ∧ R (Iteu X.K a) H1) where
  run pins s σ H R I h := by
    refine Call_ (ld_blt I hg hm boot_enumerate (PyProof.Rows.callWith_type1 (thn (ha.run pos pins s σ H _ I h) ?_) hs rfl))
    rintro us ⟨hp, ge, dr, tk, os⟩ ⟨vs, H1, J, r1, a, xs, rfl, hq, q⟩
    obtain ⟨u, rfl, ru⟩ := vals1 r1
    obtain rfl : u = Value.ref a := ru
    obtain ⟨its, _, tup, _⟩ := J.tuple hq
    have szI : ∀ o : Obj, (hp.push o).objs.size = hp.objs.size + 1 := fun o => Heap.size_push ..
    refine callType_new F.called_enumerate (by decide) (F.typeCall_enumerate_1 _) (F.newCall_enumerate_1 _) (fun o => F.args_object_init_2 o _) F.entry_enumerate_new (made_enum (begins_tuple a its.toArray)) ⟨tup, ?_⟩
    generalize hI : (hp.push { cls := .type "tuple_iterator", data := .fields #[.ref a, .int 0 0] }) = hi
    have sI : hi.objs.size = hp.objs.size + 1 := by rw [← hI]; exact szI _
    have eI : hi.get? hp.objs.size = some { cls := .type "tuple_iterator", data := .fields #[.ref a, .int 0 0] } := by rw [← hI]; exact Heap.get?_push_size _ rfl
    have kI' : ∀ b o, hp.get? b = some o → hi.get? b = some o := fun b o z => by rw [← hI]; exact Heap.get?_push_of_some _ z
    have eE := Heap.get?_push_size hi (o := { cls := .type "enumerate", data := .fields #[.none, .bool false, .ref hp.objs.size, rawInt 0, .none, .none] }) rfl
    refine ⟨⟨_, eE, rfl⟩, wpAny_pyIter_enum eE ?_⟩
    have ne : hi.objs.size ≠ hp.objs.size := by rw [sI]; exact Nat.succ_ne_self _
    refine ⟨hi.objs.size, [hi.objs.size, hp.objs.size], _, Iteu X.K a, H1, rfl, J.kept (t' := tk) (fun b o z => Heap.get?_push_of_some _ (kI' b o z)), turn_enumT a hi.objs.size hp.objs.size ne, ⟨⟨.none, eE⟩, _, Heap.get?_push_of_some _ eI, rfl, rfl⟩, fun b hb => ?_, q⟩
    have ge' : hp.objs.size ≤ b := by
      have z : b = hi.objs.size ∨ b = hp.objs.size := by simpa using hb
      rcases z with z | z
      · rw [z, sI]; exact Nat.le_succ _
      · rw [z]; exact Nat.le_refl _
    exact J.fpOk ge' (J.hok.fresh ge')
theorem walk_enumT {K : PySem.W.Frag} {a : Addr} {xs : List V} : Walk (Iteu K a) xs.length (fun H => SqT K H a xs) (YPair (fun i => some (.int (i : Nat))) (fun i => xs[i]?)) where
  goes i H hi q := ⟨xs, xs[i], q, List.getElem?_eq_getElem hi⟩
  stops H q := ⟨xs, q, rfl⟩
  yields i H v H' _ q y := by
    obtain ⟨T, x, h1, h2, h3, h4⟩ := y
    exact ⟨T, .int (i : Nat), x, h1, h2, h3, rfl, h4 xs q⟩
end G

namespace G
open PySem PySem.Spec PyProof.Rows L2

/-! ### fewer slots known -/
inductive Sub : SC → SC → Prop
  | nil : Sub [] []
  | k {x : SD} {Γ Γ' : SC} : Sub Γ Γ' → Sub (x :: Γ) (x :: Γ')
  | n {x : SD} {Γ Γ' : SC} : Sub Γ Γ' → Sub (x :: Γ) (.no :: Γ')
theorem Sub.e {x y : SD} {Γ Γ' : SC} (h : x = y) (s : Sub Γ Γ') : Sub (x :: Γ) (y :: Γ') := h ▸ .k s
theorem Sub.refl : ∀ Γ : SC, Sub Γ Γ
  | [] => .nil
  | _ :: r => .k (Sub.refl r)
theorem Sub.len : ∀ {Γ Γ' : SC}, Sub Γ Γ' → Γ'.length = Γ.length
  | _, _, .nil => rfl
  | _, _, .k h => congrArg (· + 1) h.len
  | _, _, .n h => congrArg (· + 1) h.len
theorem Sub.at : ∀ {Γ Γ' : SC}, Sub Γ Γ' → ∀ i, Γ'.getD i .no = Γ.getD i .no ∨ Γ'.getD i .no = .no
  | _, _, .nil, i => .inl rfl
  | _, _, .k h, 0 => .inl rfl
  | _, _, .k h, i + 1 => h.at i
  | _, _, .n h, 0 => .inr rfl
  | _, _, .n h, i + 1 => h.at i
theorem R.sub {K : PySem.W.Frag} {H0 H : Hp} {M : List Addr} {g : Gs} {Γ Γ' : SC} {σ : St} (r : R K H0 M g Γ σ H) (s : Sub Γ Γ') : R K H0 M g Γ' σ H := r.weak s.len s.at
theorem g_sub {X : Cx} {H0 : Hp} {M : List Addr} {Γ Γ' : SC} {sts : List Stmt} {D : DD} (s : Sub Γ Γ') (h : SG X H0 M Γ' sts D) : SG X H0 M Γ sts D := fun g σ H D' r im => h g σ H D' (r.sub s) im

/-! ### for -/
def loopD (X : Cx) (H0 : Hp) (M : List Addr) (Γ' : SC) (B : SC → Prop) (D : DD) : DD :=
  { rt := D.rt, nx := fun g σ H => R X.K H0 M g Γ' σ H, ct := fun g σ H => R X.K H0 M g Γ' σ H, bk := fun g σ H => ∃ Γ', B Γ' ∧ R X.K H0 M g Γ' σ H }
section
variable {X : Cx} {H0 : Hp} {M : List Addr} {Γ Γ1 Γ2 : SC} {e c iter : Expr} {es : List Expr} {pos p0 : Pos} {rest body : List Stmt} {D : DD} {B : SC → Prop}
theorem Imp.refl (g : Hp → Prop) (D : Ends) : Imp g D D := ⟨fun _ _ _ h => h, fun _ _ _ h => h, fun _ _ _ h => h, fun _ _ _ h => h⟩
/-- the body's end at turn i + 1 -/
def PvD (X : Cx) (H0 : Hp) (M : List Addr) (g : Gs) (Γs : Nat → SC) (H1 : Hp) (i : Nat) (σ : St) (H : Hp) : Prop := R X.K H0 M g (Γs i) σ H ∧ Gw H1 H
theorem body_ok {Γs : Nat → SC} {Γb : SC} {i : Nat} {g : Gs} {σ : St} {H H1 : Hp} {rt : VK} {bk : St → Hp → Prop} (hb : SG X H0 M Γb body (loopD X H0 M (Γs (i + 1)) B D)) (r : R X.K H0 M g Γb σ H) (s : Gw H1 H)
    (hrt : ∀ v H, Gw H1 H → Kept g H → D.rt v H → rt v H) (hbk : ∀ Γ' σ H, B Γ' → R X.K H0 M g Γ' σ H → Gw H1 H → bk σ H) :
    wSs X body { nx := PvD X H0 M g Γs H1 (i + 1), rt := rt, ct := PvD X H0 M g Γs H1 (i + 1), bk := bk } σ H :=
  hb g σ H _ r ⟨fun σ' H' f q => ⟨q, s.trans f.1⟩, fun v H' f q => hrt v H' (s.trans f.1) f.2 q, fun σ' H' f ⟨Γ', b, q⟩ => hbk Γ' σ' H' b q (s.trans f.1), fun σ' H' f q => ⟨q, s.trans f.1⟩⟩
/-- for x in a tuple, x in slot t -/
theorem g_forT (t : Nat) {x : Str} {px : Pos} {ds : List PyData} (Γs : Nat → SC) (B : SC → Prop) (hN : X.N.Nodup) (hl : ∀ i, (Γs i).length = X.N.length) (hp : PassesOwn (model X.prog X.w) X.A X.env X.xe) (hc : X.calm = true) (he : EI X H0 M Γ iter (.tuple ds)) (h0 : Sub Γ (Γs 0))
    (hb : ∀ i d, ds[i]? = some d → SG X H0 M ((Γs i).set t (.im d)) body (loopD X H0 M (Γs (i + 1)) B D)) (hr : SG X H0 M (Γs ds.length) rest D) (hbk : ∀ Γ', B Γ' → SG X H0 M Γ' rest D)
    (hi : X.N[t]? = some x := by rfl) (hx : Loc X.env.scope x := by first | exact Or.inl rfl | exact Or.inr rfl) (hf : X.fn x = true ∨ X.env.scope.names.lookup x = some .local := by first | exact .inl rfl | exact .inr rfl | assumption)
    (hs : ∀ x, foldedSetIterable iter X.env x = pure x := by intro _; rfl) : SG X H0 M Γ (.For (.Name x px) iter body [] pos :: rest) D := fun g σ H D' r im => by
  refine wS.of' (ps_for hp hc (pi_tup pe_w) (pg_name hN hi hx hf) pss_w hs) (he g σ H _ r fun v H1 s m => ?_)
  obtain ⟨a, xs, rfl, hq, hxs⟩ := m.tup_inv
  refine ⟨a, rfl, ⟨xs, hq⟩, ?_⟩
  have im1 := im.go (Same.gw s)
  have ht : t < X.N.length := (List.getElem?_eq_some_iff.mp hi).1
  refine for_it walk_tup (PvD X H0 M g Γs H1) ⟨(r.same s).sub h0, Gw.refl H1⟩ (fun i σ H hi p => p.2.sqt hq) (fun i v σ2 H2 H' hi p y => ?_) (fun σ2 H2 p => ?_)
  · obtain ⟨rfl, y⟩ := y
    obtain ⟨d, hd, md⟩ := hxs.get' y
    show wSs X body _ _ _
    refine body_ok (Γs := Γs) (i := i) (hb i d hd) (p.1.setIm (Same.refl _) (by rw [hl]; exact ht) (md.gw p.2 d v)) p.2 (fun v H3 s3 k3 q => im1.rt v H3 ⟨s3, k3⟩ q) (fun Γ' σ3 H3 b r3 s3 => hbk Γ' b g σ3 H3 D' r3 (im1.go s3))
  · have e : xs.length = ds.length := hxs.len
    rw [e] at p
    exact hr g σ2 H2 D' p.1 (im1.go p.2)
/-- for x in range(..), x in slot t -/
theorem g_forR1 (t : Nat) {x : Str} {px pr : Pos} {n : Int} {ea : Expr} (Γs : Nat → SC) (B : SC → Prop) (hN : X.N.Nodup) (hl : ∀ i, (Γs i).length = X.N.length) (hp : PassesOwn (model X.prog X.w) X.A X.env X.xe) (hc : X.calm = true) (hm : X.mg "range" = none) (he : EI X H0 M Γ ea (.int n)) (hn0 : -(2 ^ 62) ≤ n) (hn1 : n < 2 ^ 62) (h0 : Sub Γ (Γs 0))
    (hb : ∀ i : Nat, i < n.toNat → SG X H0 M ((Γs i).set t (.im (.int (i : Nat)))) body (loopD X H0 M (Γs (i + 1)) B D)) (hr : SG X H0 M (Γs n.toNat) rest D) (hbk : ∀ Γ', B Γ' → SG X H0 M Γ' rest D)
    (hg : Gl X "range" := by rfl) (hi : X.N[t]? = some x := by rfl) (hx : Loc X.env.scope x := by first | exact Or.inl rfl | exact Or.inr rfl) (hf : X.fn x = true ∨ X.env.scope.names.lookup x = some .local := by first | exact .inl rfl | exact .inr rfl | assumption)
    (hs1 : starEach [ea] X.env = [(false, eval ea X.env)] := by rfl) (hs : ∀ x, foldedSetIterable (.Call (.Name "range" pr) [ea] [] p0) X.env x = pure x := by intro _; rfl) : SG X H0 M Γ (.For (.Name x px) (.Call (.Name "range" pr) [ea] [] p0) body [] pos :: rest) D := fun g σ H D' r im => by
  refine wS.of' (ps_for hp hc (pi_range1 hg hm (pa_cons pe_w pa_nil hs1) hs1) (pg_name hN hi hx hf) pss_w hs) (he g σ H _ r fun v H1 s m => ?_)
  refine ⟨n, by rw [m.int_inv], hn0, hn1, ?_⟩
  have im1 := im.go (Same.gw s)
  have ht : t < X.N.length := (List.getElem?_eq_some_iff.mp hi).1
  refine for_it walk_range (PvD X H0 M g Γs H1) ⟨(r.same s).sub h0, Gw.refl H1⟩ (fun i σ H hi p => trivial) (fun i v σ2 H2 H' hi p y => ?_) (fun σ2 H2 p => hr g σ2 H2 D' p.1 (im1.go p.2))
  obtain ⟨rfl, y⟩ := y
  have ev : v = V.int ((i : Nat) : Int) := by rw [y]; exact congrArg V.int (by omega)
  subst ev
  show wSs X body _ _ _
  exact body_ok (Γs := Γs) (i := i) (hb i hi) (p.1.setIm (Same.refl _) (by rw [hl]; exact ht) (.int _)) p.2 (fun v H3 s3 k3 q => im1.rt v H3 ⟨s3, k3⟩ q) (fun Γ' σ3 H3 b r3 s3 => hbk Γ' b g σ3 H3 D' r3 (im1.go s3))
/-- for x in range(a, b) -/
theorem g_forR2 (t : Nat) {x : Str} {px pr : Pos} {lo n : Int} {ea eb : Expr} (Γs : Nat → SC) (B : SC → Prop) (hN : X.N.Nodup) (hl : ∀ i, (Γs i).length = X.N.length) (hp : PassesOwn (model X.prog X.w) X.A X.env X.xe) (hc : X.calm = true) (hm : X.mg "range" = none) (ha : EI X H0 M Γ ea (.int lo)) (he : EI X H0 M Γ eb (.int n)) (hn : -(2 ^ 62) ≤ lo ∧ lo < 2 ^ 62 ∧ -(2 ^ 62) ≤ n ∧ n < 2 ^ 62) (h0 : Sub Γ (Γs 0))
    (hb : ∀ i : Nat, i < (n - lo).toNat → SG X H0 M ((Γs i).set t (.im (.int (lo + (i : Nat))))) body (loopD X H0 M (Γs (i + 1)) B D)) (hr : SG X H0 M (Γs (n - lo).toNat) rest D) (hbk : ∀ Γ', B Γ' → SG X H0 M Γ' rest D)
    (hg : Gl X "range" := by rfl) (hi : X.N[t]? = some x := by rfl) (hx : Loc X.env.scope x := by first | exact Or.inl rfl | exact Or.inr rfl) (hf : X.fn x = true ∨ X.env.scope.names.lookup x = some .local := by first | exact .inl rfl | exact .inr rfl | assumption)
    (hs1 : starEach [ea, eb] X.env = [(false, eval ea X.env), (false, eval eb X.env)] := by rfl) (hs2 : starEach [eb] X.env = [(false, eval eb X.env)] := by rfl) (hs : ∀ x, foldedSetIterable (.Call (.Name "range" pr) [ea, eb] [] p0) X.env x = pure x := by intro _; rfl) : SG X H0 M Γ (.For (.Name x px) (.Call (.Name "range" pr) [ea, eb] [] p0) body [] pos :: rest) D := fun g σ H D' r im => by
  refine wS.of' (ps_for hp hc (pi_range2 hg hm (pa_cons pe_w (pa_cons pe_w pa_nil hs2) (by rw [hs1, hs2])) hs1 hs2) (pg_name hN hi hx hf) pss_w hs) (ha g σ H _ r fun v0 H0' s0 m0 => he g σ H0' _ (r.same s0) fun v H1 s m => ?_)
  refine ⟨lo, n, by rw [m.int_inv, m0.int_inv], hn, ?_⟩
  have im1 := im.go ((Same.gw s0).trans (Same.gw s))
  have ht : t < X.N.length := (List.getElem?_eq_some_iff.mp hi).1
  refine for_it walk_range (PvD X H0 M g Γs H1) ⟨((r.same s0).same s).sub h0, Gw.refl H1⟩ (fun i σ H hi p => trivial) (fun i v σ2 H2 H' hi p y => ?_) (fun σ2 H2 p => hr g σ2 H2 D' p.1 (im1.go p.2))
  obtain ⟨rfl, y⟩ := y
  subst y
  show wSs X body _ _ _
  exact body_ok (Γs := Γs) (i := i) (hb i hi) (p.1.setIm (Same.refl _) (by rw [hl]; exact ht) (.int _)) p.2 (fun v H3 s3 k3 q => im1.rt v H3 ⟨s3, k3⟩ q) (fun Γ' σ3 H3 b r3 s3 => hbk Γ' b g σ3 H3 D' r3 (im1.go s3))
/-- for i, x in enumerate(a tuple), in slots t and u -/
theorem g_forET (t u : Nat) {x y : Str} {px py pr pt : Pos} {kk : Nat} {ds : List PyData} {ea : Expr} (Γs : Nat → SC) (B : SC → Prop) (hN : X.N.Nodup) (hl : ∀ i, (Γs i).length = X.N.length) (hp : PassesOwn (model X.prog X.w) X.A X.env X.xe) (hc : X.calm = true) (hm : X.mg "enumerate" = none) (he : EI X H0 M Γ ea (.tuple ds)) (h0 : Sub Γ (Γs 0))
    (hb : ∀ i d, ds[i]? = some d → SG X H0 M (((Γs i).set t (.im (.int (i : Nat)))).set u (.im d)) body (loopD X H0 M (Γs (i + 1)) B D)) (hr : SG X H0 M (Γs ds.length) rest D) (hbk : ∀ Γ', B Γ' → SG X H0 M Γ' rest D)
    (hg : Gl X "enumerate" := by rfl) (hi : X.N[t]? = some x := by rfl) (hx : Loc X.env.scope x := by first | exact Or.inl rfl | exact Or.inr rfl) (hf : X.fn x = true ∨ X.env.scope.names.lookup x = some .local := by first | exact .inl rfl | exact .inr rfl | assumption)
    (hj : X.N[u]? = some y := by rfl) (hy : Loc X.env.scope y := by first | exact Or.inl rfl | exact Or.inr rfl) (hfy : X.fn y = true ∨ X.env.scope.names.lookup y = some .local := by first | exact .inl rfl | exact .inr rfl | assumption)
    (hs1 : starEach [ea] X.env = [(false, eval ea X.env)] := by rfl) (hs : ∀ x, foldedSetIterable (.Call (.Name "enumerate" pr) [ea] [] p0) X.env x = pure x := by intro _; rfl)
    (h1 : (assignEach [.Name x px, .Name y py] X.env).map (·.2) = assign (.Name x px) X.env :: (assignEach [.Name y py] X.env).map (·.2) := by rfl) (h2 : (assignEach [.Name y py] X.env).map (·.2) = assign (.Name y py) X.env :: (assignEach [] X.env).map (·.2) := by rfl)
    (h3 : (assignEach [.Name x px, .Name y py] X.env).length = 2 := by rfl) (h4 : (assignEach [.Name x px, .Name y py] X.env).findIdx? (·.1) = none := by rfl) :
    SG X H0 M Γ (.For (.Tuple [.Name x px, .Name y py] kk pt) (.Call (.Name "enumerate" pr) [ea] [] p0) body [] pos :: rest) D := fun g σ H D' r im => by
  refine wS.of' (ps_for hp hc (pi_enumT hg hm (pa_cons pe_w pa_nil hs1) hs1) (pg_tup hc (pgs_cons (pg_name hN hi hx hf) (pgs_cons (pg_name hN hj hy hfy) pgs_nil h2) h1) h3 h4) pss_w hs) (he g σ H _ r fun v H1 s m => ?_)
  obtain ⟨a, xs, rfl, hq, hxs⟩ := m.tup_inv
  refine ⟨a, xs, rfl, hq, ?_⟩
  have im1 := im.go (Same.gw s)
  have ht : t < X.N.length := (List.getElem?_eq_some_iff.mp hi).1
  have hu : u < X.N.length := (List.getElem?_eq_some_iff.mp hj).1
  refine for_it walk_enumT (PvD X H0 M g Γs H1) ⟨(r.same s).sub h0, Gw.refl H1⟩ (fun i σ H hi p => p.2.sqt hq) (fun i v σ2 H2 H' hi p y => ?_) (fun σ2 H2 p => ?_)
  · obtain ⟨T, z, w, rfl, hT, rfl, e1, e2⟩ := y
    have ez : z = .int ((i : Nat) : Int) := (Option.some.inj e1).symm
    subst ez
    obtain ⟨d, hd, md⟩ := hxs.get' e2
    have sT : Same H2 (upd H2 T (.tup [.int (i : Nat), w])) := same_new hT
    refine ⟨T, _, rfl, .inl (.inl upd_same), rfl, _, _, rfl, _, _, rfl, rfl, ?_⟩
    show wSs X body _ _ _
    have r2 := (p.1.setIm (i := t) (v := .int ((i : Nat) : Int)) sT (by rw [hl]; exact ht) (.int _)).setIm (i := u) (v := w) (Same.refl _) (by rw [List.length_set, hl]; exact hu) ((md.gw p.2 d w).same sT)
    exact body_ok (Γs := Γs) (i := i) (hb i d hd) r2 (p.2.trans (Same.gw sT)) (fun v H3 s3 k3 q => im1.rt v H3 ⟨s3, k3⟩ q) (fun Γ' σ3 H3 b r3 s3 => hbk Γ' b g σ3 H3 D' r3 (im1.go s3))
  · have e : xs.length = ds.length := hxs.len
    rw [e] at p
    exact hr g σ2 H2 D' p.1 (im1.go p.2)
/-- for x in a new list -/
theorem g_forL (t : Nat) {x : Str} {px : Pos} {ds : List PyData} (Γs : Nat → SC) (B : SC → Prop) (hN : X.N.Nodup) (hl : ∀ i, (Γs i).length = X.N.length) (hp : PassesOwn (model X.prog X.w) X.A X.env X.xe) (hc : X.calm = true) (he : EL X H0 M Γ iter ds) (h0 : Sub Γ (Γs 0))
    (hb : ∀ i d, ds[i]? = some d → SG X H0 M ((Γs i).set t (.im d)) body (loopD X H0 M (Γs (i + 1)) B D)) (hr : SG X H0 M (Γs ds.length) rest D) (hrl : (Γs ds.length).all (fun x => !isRl x) = true) (hbk : ∀ Γ', B Γ' → Γ'.all (fun x => !isRl x) = true ∧ SG X H0 M Γ' rest D)
    (hi : X.N[t]? = some x := by rfl) (hx : Loc X.env.scope x := by first | exact Or.inl rfl | exact Or.inr rfl) (hf : X.fn x = true ∨ X.env.scope.names.lookup x = some .local := by first | exact .inl rfl | exact .inr rfl | assumption)
    (hs : ∀ x, foldedSetIterable iter X.env x = pure x := by intro _; rfl) : SG X H0 M Γ (.For (.Name x px) iter body [] pos :: rest) D := fun g σ H D' r im => by
  refine wS.of' (ps_for hp hc (pi_list pe_w) (pg_name hN hi hx hf) pss_w hs) (he g σ H _ r fun v H1 s m => ?_)
  obtain ⟨a, xs, rfl, hn, hq, hxs⟩ := m
  refine ⟨a, rfl, ⟨xs, SqL.of hq⟩, ?_⟩
  have im1 := im.go (Same.gw s)
  have ht : t < X.N.length := (List.getElem?_eq_some_iff.mp hi).1
  refine for_it walk_list (PvD X H0 M ((a, xs) :: g) Γs H1) ⟨(r.ghost s hn hq).sub h0, Gw.refl H1⟩ (fun i σ H hi p => SqL.of (p.1.kept _ List.mem_cons_self)) (fun i v σ2 H2 H' hi p y => ?_) (fun σ2 H2 p => ?_)
  · obtain ⟨rfl, y⟩ := y
    obtain ⟨d, hd, md⟩ := hxs.get' y
    show wSs X body _ _ _
    refine body_ok (Γs := Γs) (i := i) (hb i d hd) (p.1.setIm (Same.refl _) (by rw [hl]; exact ht) (md.gw p.2 d v)) p.2 (fun v H3 s3 k3 q => im1.rt v H3 ⟨s3, fun q hq => k3 q (List.mem_cons_of_mem _ hq)⟩ q) (fun Γ' σ3 H3 b r3 s3 => (hbk Γ' b).2 g σ3 H3 D' (r3.unghost (hbk Γ' b).1) (im1.go s3))
  · have e : xs.length = ds.length := hxs.len
    rw [e] at p
    exact hr g σ2 H2 D' (p.1.unghost hrl) (im1.go p.2)
/-- for x in a list of one's own in slot k, which is only read meanwhile -/
theorem g_forO (t k : Nat) {x y : Str} {px py : Pos} {ds : List PyData} (Γs : Addr → Nat → SC) (B : Addr → SC → Prop) (hN : X.N.Nodup) (hl : ∀ p i, (Γs p i).length = X.N.length) (hp : PassesOwn (model X.prog X.w) X.A X.env X.xe) (hc : X.calm = true) (hk : Γ.getD k .no = .ls ds) (h0 : ∀ p, Sub (Γ.set k (.rl p ds)) (Γs p 0))
    (hb : ∀ p i d, ds[i]? = some d → SG X H0 M ((Γs p i).set t (.im d)) body (loopD X H0 M (Γs p (i + 1)) (B p) D)) (hkn : ∀ p, (Γs p ds.length).getD k .no = .rl p ds) (hrl : ∀ p, ((Γs p ds.length).set k .no).all (fun x => !isRl x) = true) (hr : ∀ p, SG X H0 M ((Γs p ds.length).set k (.ls ds)) rest D)
    (hbk : ∀ p Γ', B p Γ' → Γ'.getD k .no = .rl p ds ∧ (Γ'.set k .no).all (fun x => !isRl x) = true ∧ SG X H0 M (Γ'.set k (.ls ds)) rest D)
    (hi : X.N[t]? = some x := by rfl) (hx : Loc X.env.scope x := by first | exact Or.inl rfl | exact Or.inr rfl) (hf : X.fn x = true ∨ X.env.scope.names.lookup x = some .local := by first | exact .inl rfl | exact .inr rfl | assumption)
    (hNy : X.N[k]? = some y := by rfl) (hv : Vis X.env.scope y := by first | exact Or.inl rfl | exact Or.inr (Or.inl rfl) | exact Or.inr (Or.inr rfl)) (hd : (y == ("__debug__" : Str)) = false := by decide)
    (hcd : (y == ("__classdict__" : Str)) = false := by decide)
    (hs : ∀ x, foldedSetIterable (.Name y py) X.env x = pure x := by intro _; rfl) : SG X H0 M Γ (.For (.Name x px) (.Name y py) body [] pos :: rest) D := fun g σ H D' r im => by
  obtain ⟨a, xs, e, hq, hxs, _⟩ := r.ls hk
  obtain ⟨p, vs, hp0, hnin, r1⟩ := r.freeze hk
  have hil : k < Γ.length := by rw [← r.len]; exact (List.getElem?_eq_some_iff.mp e).1
  have hrl1 : (Γ.set k (.rl p ds)).getD k .no = .rl p ds := by rw [getD_set, if_pos rfl, if_pos hil]
  obtain ⟨e', us, hq', hxs'⟩ := r1.rl hrl1
  have ep : a = p := by
    rw [e] at e'
    injection e' with a; injection a with b; injection b
  subst ep
  have hvs : vs = us := by
    have := r1.kept (a, vs) List.mem_cons_self
    rw [show H a = some (.lst vs) from this] at hq'
    injection hq' with z; injection z
  subst hvs
  refine wS.of' (ps_for hp hc (pi_list (pe_var hNy hv hd hcd)) (pg_name hN hi hx hf) pss_w hs) ⟨_, e, a, rfl, ⟨vs, SqL.of hq'⟩, ?_⟩
  have ht : t < X.N.length := (List.getElem?_eq_some_iff.mp hi).1
  refine for_it walk_list (PvD X H0 M ((a, vs) :: g) (Γs a) H) ⟨r1.sub (h0 a), Gw.refl H⟩ (fun i σ H hi p => SqL.of (p.1.kept _ List.mem_cons_self)) (fun i v σ2 H2 H' hi p y => ?_) (fun σ2 H2 p => ?_)
  · obtain ⟨rfl, y⟩ := y
    obtain ⟨d, hd, md⟩ := hxs'.get' y
    show wSs X body _ _ _
    refine body_ok (Γs := Γs a) (i := i) (hb a i d hd) (p.1.setIm (Same.refl _) (by rw [hl]; exact ht) (md.gw p.2 d v)) p.2 (fun v H3 s3 k3 q => im.rt v H3 ⟨s3, fun q hq => k3 q (List.mem_cons_of_mem _ hq)⟩ q) (fun Γ' σ3 H3 b r3 s3 => ?_)
    obtain ⟨b1, b2, b3⟩ := hbk a Γ' b
    exact b3 g σ3 H3 D' (r3.thaw hnin b1 b2) (im.go s3)
  · have e : vs.length = ds.length := hxs'.len
    rw [e] at p
    exact hr a g σ2 H2 D' (p.1.thaw hnin (hkn a) (hrl a)) (im.go p.2)
end
end G

namespace G
open PySem PySem.Spec PyProof.Rows L2

/-! ### comprehensions -/
/-- the slots in a comprehension's block -/
def wipeC (Γ : SC) : List Nat → SC
  | [] => Γ
  | v :: vs => (wipeC Γ vs).set v .no
theorem wipeC_len (Γ : SC) : ∀ vs, (wipeC Γ vs).length = Γ.length
  | [] => rfl
  | v :: vs => by show ((wipeC Γ vs).set v .no).length = _; rw [List.length_set, wipeC_len Γ vs]
theorem R.wipe {K : PySem.W.Frag} {H0 H : Hp} {M : List Addr} {g : Gs} {Γ : SC} {σ : St} (r : R K H0 M g Γ σ H) : ∀ vs : List Nat, R K H0 M g (wipeC Γ vs) (wipe σ vs) H
  | [] => r
  | v :: vs => by
    have ih := R.wipe r vs
    obtain ⟨own, h1, h2, h3⟩ := ih.slots
    refine ⟨ih.but, by show ((L2.wipe σ vs).set v none).length = ((wipeC Γ vs).set v .no).length; rw [List.length_set, List.length_set, ih.len], fun j => if j = v then [] else own j, fun j => ?_, fun i j hij p hp => ?_, fun q hq => ⟨(h3 q hq).1, fun i z => ?_⟩⟩
    · show SlotOk K H0 M g H (if j = v then [] else own j) (((L2.wipe σ vs).set v none).getD j none) (((wipeC Γ vs).set v .no).getD j .no)
      rw [getD_set, getD_set]
      by_cases hj : v = j
      · subst hj
        simp only [if_true]
        have e : (if v < (wipeC Γ vs).length then SD.no else SD.no) = SD.no := by split <;> rfl
        rw [e]; rfl
      · rw [if_neg hj, if_neg hj, if_neg (Ne.symm hj)]
        exact h1 j
    · have hp' : p ∈ (if i = v then [] else own i) := hp
      show p ∉ (if j = v then [] else own j)
      by_cases hi : i = v
      · rw [if_pos hi] at hp'; cases hp'
      · rw [if_neg hi] at hp'
        by_cases hj : j = v
        · rw [if_pos hj]; exact fun z => nomatch z
        · rw [if_neg hj]; exact h2 i j hij p hp'
    · have z' : q.1 ∈ (if i = v then [] else own i) := z
      by_cases hi : i = v
      · rw [if_pos hi] at z'; cases z'
      · rw [if_neg hi] at z'; exact (h3 q hq).2 i z'
/-- a list that no name holds grows -/
theorem R.ghostUpd {K : PySem.W.Frag} {H0 H : Hp} {M : List Addr} {g : Gs} {Γ : SC} {σ : St} {D : Addr} {vs us : List V} (r : R K H0 M ((D, vs) :: g) Γ σ H) (h0 : H0 D = none) (hn : ∀ us, (D, us) ∈ g → False) (hrl : Γ.all (fun x => !isRl x) = true ∨ ∀ i ds, Γ.getD i .no ≠ .rl D ds) : R K H0 M ((D, us) :: g) Γ σ (upd H D (.lst us)) := by
  obtain ⟨own, h1, h2, h3⟩ := r.slots
  have hD := h3 (D, vs) List.mem_cons_self
  have gw : Gw H (upd H D (.lst us)) := gw_mut (by rw [show H D = some (.lst vs) from hD.1]; trivial)
  refine ⟨fun b o hb hq => ?_, r.len, own, fun i => ?_, h2, fun q hq => ?_⟩
  · rw [upd_ne (fun z => by subst z; rw [h0] at hq; cases hq)]
    exact r.but b o hb hq
  · have k1 := (h1 i).keep gw fun p hp => upd_ne (fun z => hD.2 i (z ▸ hp))
    have hne : ∀ ds, Γ.getD i .no ≠ .rl D ds := by
      rcases hrl with h | h
      · intro ds z
        have := noRl (i := i) h
        rw [z] at this; cases this
      · exact h i
    cases hx : Γ.getD i .no with
    | rl p ds =>
      rw [hx] at k1 hne
      obtain ⟨e, e1, e2, ws, e3, e4⟩ := k1
      refine ⟨e, e1, e2, ws, ?_, e4⟩
      rcases List.mem_cons.mp e3 with z | z
      · exact absurd (by rw [(Prod.mk.inj z).1]) (hne ds)
      · exact List.mem_cons_of_mem _ z
    | no => rw [hx] at k1; exact k1
    | im d => rw [hx] at k1; exact k1
    | va v => rw [hx] at k1; exact k1
    | ls ds => rw [hx] at k1; exact k1
    | pl p ds => rw [hx] at k1; exact k1
    | dk ds => rw [hx] at k1; exact k1
    | st a r b => rw [hx] at k1; exact k1
  · rcases List.mem_cons.mp hq with z | z
    · subst z
      exact ⟨upd_same, hD.2⟩
    · refine ⟨?_, (h3 q (List.mem_cons_of_mem _ z)).2⟩
      rw [upd_ne (fun e => hn q.2 (by rw [← e]; exact z))]
      exact (h3 q (List.mem_cons_of_mem _ z)).1
section
variable {X : Cx} {H0 : Hp} {M : List Addr} {Γ Γ1 Γ2 : SC} {e c iter elt : Expr} {es : List Expr} {pos p0 : Pos}
/-- the contexts of a comprehension's block -/
abbrev Blk (X : Cx) (scope : Scope) (φ : Cx → Prop) : Prop := ∀ (s : Shared) (H : Hp) (C : Addr) (cl : List (Str × Addr)) (fp : List Addr), φ (X.blk s H scope (compEnvC scope cl C X.env) fp)
def wEB (X : Cx) (scope : Scope) (e : Expr) : TE := fun σ H Q => Blk X scope fun Y => wE Y e σ H Q
def wTB (X : Cx) (scope : Scope) (e : Expr) : TT := fun σ H Q => Blk X scope fun Y => wT Y e σ H Q
/-- what a comprehension walks: data whose i-th item is told -/
structure Src (X : Cx) (H0 : Hp) (M : List Addr) (Γ : SC) (iter tg : Expr) (wi : TI) (ds : List PyData) : Prop where
  run : ∀ g σ H (Rr : It → Hp → Prop), R X.K H0 M g Γ σ H → (∀ J g' H1, Same H H1 → R X.K H0 M g' Γ σ H1 → (∀ q, q ∈ g → q ∈ g') → (∀ p, H1 p = none → ∀ us, (p, us) ∈ g' → False) →
    Walk J ds.length (fun H' => Gw H1 H' ∧ Kept g' H') (fun i H x H' => H' = H ∧ ∃ d, ds[i]? = some d ∧ (∀ H2, Gw H1 H2 → Im X.K H2 x d)) → Rr J H1) → wi σ H Rr
theorem src_tup {tg : Expr} {ds : List PyData} (he : EI X H0 M Γ iter (.tuple ds)) : Src X H0 M Γ iter tg (iTup X.K (wE X iter)) ds := ⟨fun g σ H Rr r k => he g σ H _ r fun v H1 s m => by
  obtain ⟨a, xs, rfl, hq, hxs⟩ := m.tup_inv
  refine ⟨a, rfl, ⟨xs, hq⟩, k _ g H1 s (r.same s) (fun q hq => hq) (fun p hp us hu => ?_) ?_⟩
  · have := (r.same s).kept _ hu
    rw [show H1 p = some (.lst us) from this] at hp; cases hp
  · have w := walk_tup (K := X.K) (a := a) (xs := xs)
    rw [hxs.len] at w
    refine w.mono (fun H' g' => g'.1.sqt hq) fun i H2 x H' hi g' y => ?_
    obtain ⟨rfl, y⟩ := y
    obtain ⟨d, hd, md⟩ := hxs.get' y
    exact ⟨rfl, d, hd, fun H3 g3 => md.gw g3 d x⟩⟩
theorem src_new {tg : Expr} {ds : List PyData} (he : EL X H0 M Γ iter ds) : Src X H0 M Γ iter tg (iList X.K (wE X iter)) ds := ⟨fun g σ H Rr r k => he g σ H _ r fun v H1 s m => by
  obtain ⟨a, xs, rfl, hn, hq, hxs⟩ := m
  have r1 := r.ghost s hn hq
  refine ⟨a, rfl, ⟨xs, SqL.of hq⟩, k _ ((a, xs) :: g) H1 s r1 (fun q hq => List.mem_cons_of_mem _ hq) (fun p hp us hu => ?_) ?_⟩
  · have := r1.kept _ hu
    rw [show H1 p = some (.lst us) from this] at hp; cases hp
  · have w := walk_list (K := X.K) (a := a) (xs := xs)
    rw [hxs.len] at w
    refine w.mono (fun H' g' => SqL.of (g'.2 _ List.mem_cons_self)) fun i H2 x H' hi g' y => ?_
    obtain ⟨rfl, y⟩ := y
    obtain ⟨d, hd, md⟩ := hxs.get' y
    exact ⟨rfl, d, hd, fun H3 g3 => md.gw g3 d x⟩⟩
theorem lc_w {x : Str} {px : Pos} {scope : Scope} {ds : List PyData} {fs : List PyData} {wi : TI} {i : Nat} (hc : X.calm = true) (hN : X.N.Nodup) (hsrc : Src X H0 M Γ iter (.Name x px) wi ds) (hlen : fs.length = ds.length) (hmax : ds.length < 100000)
    (hM : MOk X H0 M Γ)
    (he : ∀ (k : Nat) (d f : PyData), ds[k]? = some d → fs[k]? = some f → Blk X scope fun Y => EI Y H0 M ((wipeC Γ [i]).set i (.im d)) elt f)
    (hiN : i < X.N.length) (hl : Γ.length = X.N.length) {g : Gs} {σ : St} {H : Hp} {Q : VK} (r : R X.K H0 M g Γ σ H) (k : ∀ v H', Same H H' → kL X.K fs H v H' → Q v H') : tLc wi (gName i) tYes (wEB X scope elt) [i] σ H Q := by
  refine hsrc.run g σ H _ r fun J g' H1 s1 r1 sub nog w => ?_
  intro Dd hD
  have h0 : H0 Dd = none := r1.fresh (hM g' σ H1 r1) hD
  have hn : ∀ us, (Dd, us) ∈ g' → False := nog Dd hD
  have r2 : R X.K H0 M ((Dd, []) :: g') Γ σ (upd H1 Dd (.lst [])) := r1.ghost (same_new hD) hD upd_same
  have gw2 : Gw H1 (upd H1 Dd (.lst [])) := Same.gw (same_new hD)
  have nrl : ∀ {vs : List V} {H' : Hp}, R X.K H0 M ((Dd, vs) :: g') Γ σ H' → ∀ j es, Γ.getD j .no ≠ .rl Dd es := fun {vs H'} rr j es z => by
    obtain ⟨own, q1, _, q3⟩ := r1.slots
    have qj := q1 j
    rw [z] at qj
    obtain ⟨_, _, _, ws, m, _⟩ := qj
    exact hn ws m
  refine lc_it w (fun k H' => Same H1 H' ∧ ∃ vs, vs.length = k ∧ ImAll X.K H' vs (fs.take k) ∧ R X.K H0 M ((Dd, vs) :: g') Γ σ H') ⟨same_new hD, [], rfl, .nil, r2⟩ (fun k H' hk p => ?_) (fun k v H2 H' hk p y => ?_) (fun H' p => ?_)
  · obtain ⟨p1, vs, _, _, rr⟩ := p
    exact ⟨Same.gw p1, fun q hq => rr.kept q (List.mem_cons_of_mem _ hq)⟩
  · obtain ⟨p1, vs, lv, mv, rr⟩ := p
    obtain ⟨rfl, d, hd, md⟩ := y
    have hkf : k < fs.length := by omega
    have hf : fs[k]? = some fs[k] := List.getElem?_eq_getElem hkf
    refine ⟨?_, ?_⟩
    · show L2.wipe ((L2.wipe σ [i]).set i (some v)) [i] = L2.wipe σ [i]
      show ((σ.set i none).set i (some v)).set i none = σ.set i none
      rw [List.set_set, List.set_set]
    · unfold tYes
      dsimp only
      rw [if_pos rfl]
      intro s H C cl fp
      have rw1 : R X.K H0 M ((Dd, vs) :: g') ((wipeC Γ [i]).set i (.im d)) ((L2.wipe σ [i]).set i (some v)) H' := (rr.wipe [i]).setIm (Same.refl _) (by rw [wipeC_len, hl]; exact hiN) (md H' (Same.gw p1))
      refine he k d fs[k] hd hf s H C cl fp ((Dd, vs) :: g') _ H' _ rw1 fun u H4 s4 m4 => ?_
      have rr4 := rr.same s4
      have hDd : H4 Dd = some (.lst vs) := rr4.kept (Dd, vs) List.mem_cons_self
      refine ⟨vs, hDd, by rw [lv]; exact Nat.lt_of_lt_of_le (Nat.lt_trans hk hmax) (by decide), fun b o hb => ?_, vs ++ [u], by simp [lv], ?_, rr4.ghostUpd h0 hn (.inr (nrl rr4))⟩
      · rw [upd_ne (fun z => by subst z; rw [hD] at hb; cases hb)]
        exact s4 _ _ (p1 _ _ hb)
      have ge : Gw H4 (upd H4 Dd (.lst (vs ++ [u]))) := gw_mut (by rw [hDd]; trivial)
      have e : fs.take (k + 1) = fs.take k ++ [fs[k]] := by rw [List.take_add_one, hf]; rfl
      rw [e]
      exact ((mv.same s4).gw ge _ _).append (.cons (m4.gw ge _ _) .nil)
  · obtain ⟨p1, vs, lv, mv, rr⟩ := p
    have e : fs.take ds.length = fs := List.take_of_length_le (by omega)
    rw [e] at mv
    exact k _ H' (s1.trans p1) ⟨Dd, vs, rfl, s1.free hD, rr.kept (Dd, vs) List.mem_cons_self, mv⟩
theorem l_lc {x : Str} {px : Pos} {scope : Scope} {ds : List PyData} {fs : List PyData} {wi : TI} {i : Nat} (hc : X.calm = true) (hN : X.N.Nodup) (hpi : PI X (.Name x px) iter wi) (hsrc : Src X H0 M Γ iter (.Name x px) wi ds) (hlen : fs.length = ds.length) (hmax : ds.length < 100000)
    (hM : MOk X H0 M Γ)
    (he : ∀ (k : Nat) (d f : PyData), ds[k]? = some d → fs[k]? = some f → Blk X scope fun Y => EI Y H0 M ((wipeC Γ [i]).set i (.im d)) elt f)
    (ok : BlkOk X.N X.env.scope scope [(x, i)])
    (hg : Blk X scope fun Y => PG Y (.Name x px) (gName i)) (hiN : i < X.N.length) (hl : Γ.length = X.N.length)
    (hs : ∀ x, foldedSetIterable iter X.env x = pure x := by intro _; rfl) : EL X H0 M Γ (.ListComp elt [⟨.Name x px, iter, [], 0⟩] scope pos) fs := fun g σ H Q r k =>
  wE.of (pe_lc (te := wEB X scope elt) (tt := tYes) hc hN hpi ok hg (fun _ _ _ _ _ => pts_nil) (fun s H C cl fp => ⟨fun pins s' σ' H' Q' I q => (q s H C cl fp).go pins s' I⟩) hs) (lc_w hc hN hsrc hlen hmax hM he hiN hl r k)
/-- y = [..] on one line -/
theorem g_setLC (j : Nat) {y x : Str} {py px : Pos} {scope : Scope} {ds : List PyData} {fs : List PyData} {wi : TI} {i : Nat} {rest : List Stmt} {D : DD} (hc : X.calm = true) (hN : X.N.Nodup) (hpi : PI X (.Name x px) iter wi) (hsrc : Src X H0 M Γ iter (.Name x px) wi ds) (hlen : fs.length = ds.length) (hmax : ds.length < 100000)
    (hM : MOk X H0 M Γ)
    (he : ∀ (k : Nat) (d f : PyData), ds[k]? = some d → fs[k]? = some f → Blk X scope fun Y => EI Y H0 M ((wipeC Γ [i]).set i (.im d)) elt f)
    (ok : BlkOk X.N X.env.scope scope [(x, i)])
    (hg : Blk X scope fun Y => PG Y (.Name x px) (gName i)) (hiN : i < X.N.length) (hl : Γ.length = X.N.length) (hr : SG X H0 M (Γ.set j (.ls fs)) rest D)
    (hj : X.N[j]? = some y := by rfl) (hyl : X.env.scope.names.lookup y = some .local := by rfl) (hk : X.env.scope.kind = .function := by rfl) (hpl : (py.line == p0.line) = true := by rfl) (hyn : (scope.names.any fun (n, k) => n == y && (k == .local || k == .cell)) = false := by decide +kernel)
    (hs : ∀ x, foldedSetIterable iter X.env x = pure x := by intro _; rfl) : SG X H0 M Γ (.Assign [.Name y py] (.ListComp elt [⟨.Name x px, iter, [], 0⟩] scope p0) pos :: rest) D := fun g σ H D' r im =>
  wS.of' (ps_setLc (te := wEB X scope elt) (tt := tYes) hc hN hj hyl (sw_true hk hyl hpl hyn) hpi ok hg (fun _ _ _ _ _ => pts_nil) (fun s H C cl fp => ⟨fun pins s' σ' H' Q' I q => (q s H C cl fp).go pins s' I⟩) hs) (lc_w hc hN hsrc hlen hmax hM he hiN hl r fun v H' s ⟨p, vs, ev, hn, hp, m⟩ => by
    subst ev
    exact hr g _ _ D' (r.setLs s (by rw [hl]; exact (List.getElem?_eq_some_iff.mp hj).1) hn (r.fresh (hM g σ H r) hn) hp m) (im.go (Same.gw s)))
end
end G

namespace G
open PySem PySem.Spec PyProof.Rows L2
section
variable {X : Cx} {H0 : Hp} {M : List Addr} {Γ Γ1 Γ2 : SC} {e a b c iter elt : Expr} {es : List Expr} {pos p0 : Pos} {rest body : List Stmt} {D : DD}
/-! ### isinstance -/
def tyD : PyData → String
  | .none => "NoneType"
  | .bool _ => "bool"
  | .int _ => "int"
  | .str _ => "str"
  | .list _ => "list"
  | .tuple _ => "tuple"
  | .dict _ => "dict"
theorem Im.ty {K : PySem.W.Frag} {H : Hp} : ∀ {d : PyData} {v : V}, Im K H v d → TyX K H v (.type (tyD d))
  | .none, _, h => by cases h; exact .base .non
  | .bool b, _, h => by cases h; exact .base (.bl b)
  | .int i, _, h => by cases h; exact .base (.int i)
  | .str x, _, h => by cases h; exact .base (.str x)
  | .tuple ds, _, h => by
    cases h with
    | tup a b =>
      rcases a with (a | ⟨o, a⟩) | ⟨o, its, n, hk, hc, _⟩
      · exact .base (.tup a)
      · exact .fTuple a
      · exact .kTuple hk hc
  | .list _, _, h => by cases h
  | .dict _, _, h => by cases h
theorem v_bltn {x : Str} {v : V} {u : Value} (hm : X.mg x = none) (hv : bootBuiltins x = some u) (r : RelV v u) (hg : Gl X x := by rfl) (hn : x ≠ "__name__" := by decide) (hd : (x == ("__debug__" : Str)) = false := by decide) : EV X H0 M Γ (.Name x pos) v := fun g σ H Q R k =>
  wE.of (pe_bltn hg hm hv r hn hd) (k _ H (Same.refl H) rfl)
/-- isinstance(x, T), T a built-in class -/
theorem i_isi {d : PyData} {T : String} {k : Bool} (hm : X.mg "isinstance" = none) (hT : EV X H0 M Γ b (.ty T)) (he : EI X H0 M Γ e d) (hk : kitB (tyD d) T = some k) (hg : Gl X "isinstance" := by rfl)
    (h1 : starEach (e :: [b]) X.env = (false, eval e X.env) :: starEach [b] X.env := by exact star1 rfl) (h2 : starEach (b :: []) X.env = (false, eval b X.env) :: starEach [] X.env := by exact star1 rfl) (hpl : (backTo pos (starEach [b] X.env)).any (·.1) = false := by rfl) :
    EI X H0 M Γ (.Call (.Name "isinstance" p0) [e, b] [] pos) (.bool k) :=
  e_callB (id := "isinstance") call_isi hm (by decide +kernel) (a_consA he (a_consA hT a_nilA h2) h1) (fun H H1 vs Q s1 p k' => by
    obtain ⟨v, r, H2, rfl, s2, s3, m, v', r', H3, rfl, s4, s5, rfl, rfl⟩ := p
    exact ⟨v, .ty T, _, .type T, k, rfl, .ty T, (m.same s3).ty, kit_ty hk, k' _ _ (Same.refl _) (.bl k)⟩) hg (by decide) (by decide) h1 hpl
theorem cutD_from (ds : List PyData) (k : Nat) : cutD ds (some (k : Int)) none = ds.drop k := by
  unfold cutD
  rw [HT.sIx_nat, HT.sIx_none]
  by_cases h : k ≤ ds.length
  · rw [Nat.min_eq_left h, List.take_of_length_le (by rw [List.length_drop]; omega)]
  · rw [Nat.min_eq_right (by omega), List.drop_of_length_le (Nat.le_refl _), List.drop_of_length_le (by omega)]
    exact List.take_nil
theorem cutD_to (ds : List PyData) (k : Nat) : cutD ds none (some (k : Int)) = ds.take k := by
  unfold cutD
  rw [HT.sIx_nat, HT.sIx_none, List.drop_zero, Nat.sub_zero]
  by_cases h : k ≤ ds.length
  · rw [Nat.min_eq_left h]
  · rw [Nat.min_eq_right (by omega), List.take_of_length_le (Nat.le_refl _), List.take_of_length_le (by omega)]
/-! ### len -/
theorem i_lenT {ds : List PyData} (hm : X.mg "len" = none) (he : EI X H0 M Γ e (.tuple ds)) (hg : Gl X "len" := by rfl) (h1 : starEach (e :: []) X.env = (false, eval e X.env) :: starEach [] X.env := by exact star1 rfl) (hpl : (backTo pos (starEach [] X.env)).any (·.1) = false := by rfl) :
    EI X H0 M Γ (.Call (.Name "len" p0) [e] [] pos) (.int ds.length) :=
  e_callB (id := "len") call_len_seq hm PySem.boot_len (a_consA he a_nilA h1) (fun H H1 vs Q s1 p k' => by
    obtain ⟨v, r, H2, rfl, s2, s3, m, rfl⟩ := p
    obtain ⟨q, xs, rfl, hq, hxs⟩ := (m.same s3).tup_inv
    refine ⟨q, xs, rfl, .inr hq, k' _ _ (Same.refl _) ?_⟩
    rw [hxs.len]; exact .int _) hg (by decide) (by decide) h1 hpl
theorem i_lenO {ds : List PyData} (hm : X.mg "len" = none) (he : EE X H0 M Γ e (kO X.K ds)) (hg : Gl X "len" := by rfl) (h1 : starEach (e :: []) X.env = (false, eval e X.env) :: starEach [] X.env := by exact star1 rfl) (hpl : (backTo pos (starEach [] X.env)).any (·.1) = false := by rfl) :
    EI X H0 M Γ (.Call (.Name "len" p0) [e] [] pos) (.int ds.length) :=
  e_callB (id := "len") call_len_seq hm PySem.boot_len (a_consA he a_nilA h1) (fun H H1 vs Q s1 p k' => by
    obtain ⟨v, r, H2, rfl, s2, s3, ⟨q, xs, rfl, hq, hxs⟩, rfl⟩ := p
    refine ⟨q, xs, rfl, .inl (SqL.of (s3 _ _ hq)), k' _ _ (Same.refl _) ?_⟩
    rw [hxs.len]; exact .int _) hg (by decide) (by decide) h1 hpl
theorem i_lenS {z : Str} (hz : z.length ≤ 100000) (hm : X.mg "len" = none) (he : EI X H0 M Γ e (.str z)) (hg : Gl X "len" := by rfl) (h1 : starEach (e :: []) X.env = (false, eval e X.env) :: starEach [] X.env := by exact star1 rfl) (hpl : (backTo pos (starEach [] X.env)).any (·.1) = false := by rfl) :
    EI X H0 M Γ (.Call (.Name "len" p0) [e] [] pos) (.int z.length) :=
  e_callB (id := "len") call_len_str hm PySem.boot_len (a_consA he a_nilA h1) (fun H H1 vs Q s1 p k' => by
    obtain ⟨v, r, H2, rfl, s2, s3, m, rfl⟩ := p
    exact ⟨z, by rw [m.str_inv], Nat.le_trans hz (by decide), k' _ _ (Same.refl _) (.int _)⟩) hg (by decide) (by decide) h1 hpl
/-- a new list is a list -/
theorem EL.o {ds : List PyData} (h : EL X H0 M Γ e ds) : EE X H0 M Γ e (kO X.K ds) := h.mono fun H v H' s ⟨p, vs, e, _, q, m⟩ => ⟨p, vs, e, q, m⟩
/-! ### abs, int -/
theorem i_abs {i : Int} (hm : X.mg "abs" = none) (he : EI X H0 M Γ e (.int i)) (hg : Gl X "abs" := by rfl) (h1 : starEach (e :: []) X.env = (false, eval e X.env) :: starEach [] X.env := by exact star1 rfl) (hpl : (backTo pos (starEach [] X.env)).any (·.1) = false := by rfl) :
    EI X H0 M Γ (.Call (.Name "abs" p0) [e] [] pos) (.int (if i < 0 then -i else i)) :=
  e_callB (id := "abs") call_abs hm (by decide +kernel) (a_consA he a_nilA h1) (fun H H1 vs Q s1 p k' => by
    obtain ⟨v, r, H2, rfl, s2, s3, m, rfl⟩ := p
    exact ⟨i, by rw [m.int_inv], k' _ _ (Same.refl _) (.int _)⟩) hg (by decide) (by decide) h1 hpl
theorem i_int1 {i : Int} (hm : X.mg "int" = none) (he : EI X H0 M Γ e (.int i)) (hg : Gl X "int" := by rfl) (h1 : starEach (e :: []) X.env = (false, eval e X.env) :: starEach [] X.env := by exact star1 rfl) (hpl : (backTo pos (starEach [] X.env)).any (·.1) = false := by rfl) :
    EI X H0 M Γ (.Call (.Name "int" p0) [e] [] pos) (.int i) :=
  e_callTy call_int1 hm (by decide +kernel) (a_consA he a_nilA h1) (fun H H1 vs Q s1 p k' => by
    obtain ⟨v, r, H2, rfl, s2, s3, m, rfl⟩ := p
    exact .inl ⟨i, by rw [m.int_inv], k' _ _ (Same.refl _) (.int _)⟩) hg (by decide) (by decide) h1 hpl
/-! ### list(..), tuple(..) -/
theorem l_ofT {ds : List PyData} (hm : X.mg "list" = none) (he : EI X H0 M Γ e (.tuple ds)) (hg : Gl X "list" := by rfl) (h1 : starEach (e :: []) X.env = (false, eval e X.env) :: starEach [] X.env := by exact star1 rfl) (hpl : (backTo pos (starEach [] X.env)).any (·.1) = false := by rfl) :
    EL X H0 M Γ (.Call (.Name "list" p0) [e] [] pos) ds :=
  e_callTy call_list_of hm (by decide +kernel) (a_consA he a_nilA h1) (fun H H1 vs Q s1 p k' => by
    obtain ⟨v, r, H2, rfl, s2, s3, m, rfl⟩ := p
    obtain ⟨q, xs, rfl, hq, hxs⟩ := (m.same s3).tup_inv
    exact ⟨q, xs, rfl, .inr hq, fun l hl => k' _ _ (same_new hl) ⟨l, xs, rfl, s1.free hl, upd_same, hxs.same (same_new hl)⟩⟩) hg (by decide) (by decide) h1 hpl
theorem l_ofO {ds : List PyData} (hm : X.mg "list" = none) (he : EE X H0 M Γ e (kO X.K ds)) (hg : Gl X "list" := by rfl) (h1 : starEach (e :: []) X.env = (false, eval e X.env) :: starEach [] X.env := by exact star1 rfl) (hpl : (backTo pos (starEach [] X.env)).any (·.1) = false := by rfl) :
    EL X H0 M Γ (.Call (.Name "list" p0) [e] [] pos) ds :=
  e_callTy call_list_of hm (by decide +kernel) (a_consA he a_nilA h1) (fun H H1 vs Q s1 p k' => by
    obtain ⟨v, r, H2, rfl, s2, s3, ⟨q, xs, rfl, hq, hxs⟩, rfl⟩ := p
    exact ⟨q, xs, rfl, .inl (SqL.of (s3 _ _ hq)), fun l hl => k' _ _ (same_new hl) ⟨l, xs, rfl, s1.free hl, upd_same, (hxs.same s3).same (same_new hl)⟩⟩) hg (by decide) (by decide) h1 hpl
theorem i_tupO {ds : List PyData} (hm : X.mg "tuple" = none) (he : EE X H0 M Γ e (kO X.K ds)) (hg : Gl X "tuple" := by rfl) (h1 : starEach (e :: []) X.env = (false, eval e X.env) :: starEach [] X.env := by exact star1 rfl) (hpl : (backTo pos (starEach [] X.env)).any (·.1) = false := by rfl) :
    EI X H0 M Γ (.Call (.Name "tuple" p0) [e] [] pos) (.tuple ds) :=
  e_callTy call_tuple_of hm (by decide +kernel) (a_consA he a_nilA h1) (fun H H1 vs Q s1 p k' => by
    obtain ⟨v, r, H2, rfl, s2, s3, ⟨q, xs, rfl, hq, hxs⟩, rfl⟩ := p
    exact ⟨q, xs, rfl, .inl ⟨SqL.of (s3 _ _ hq), fun l hl => k' _ _ (same_new hl) (.tup (.inl (.inl upd_same)) ((hxs.same s3).same (same_new hl)))⟩⟩) hg (by decide) (by decide) h1 hpl
/-- the keys of a dict of one's own, in a new list -/
def keyD : Key → PyData
  | .inl i => .int i
  | .inr x => .str x
theorem ImKv.keys {K : PySem.W.Frag} {H : Hp} : ∀ {vs : List (Key × V)} {ds : List (Key × PyData)}, ImKv K H vs ds → ImAll K H (vs.map fun kv => L2.kV kv.1) (ds.map fun kv => keyD kv.1)
  | _, _, .nil => .nil
  | (k, v) :: vs, (k', d) :: ds, .cons h t => by
    obtain ⟨h1, _⟩ := h
    have h1' : k = k' := h1
    subst h1'
    refine .cons ?_ (ImKv.keys t)
    cases k with
    | inl i => exact .int i
    | inr x => exact .str x
abbrev kD (K : PySem.W.Frag) (ds : List (Key × PyData)) : EK := fun _ v H' => ∃ p vs, v = .ref p ∧ H' p = some (.dK vs) ∧ ImKv K H' vs ds
theorem d_var (i : Nat) {x : Str} {ds : List (Key × PyData)} (h : Γ.getD i .no = .dk ds) (hN : X.N[i]? = some x := by rfl) (hv : Vis X.env.scope x := by first | exact Or.inl rfl | exact Or.inr (Or.inl rfl) | exact Or.inr (Or.inr rfl)) (hd : (x == ("__debug__" : Str)) = false := by decide)
    (hcd : (x == ("__classdict__" : Str)) = false := by decide) : EE X H0 M Γ (.Name x pos) (kD X.K ds) := fun g σ H Q r k => by
  obtain ⟨p, vs, e, m, q, _⟩ := r.dk h
  exact wE.of (pe_var hN hv hd hcd) ⟨_, e, k _ H (Same.refl H) ⟨p, vs, rfl, m, q⟩⟩
theorem l_ofD {ds : List (Key × PyData)} (hc : X.calm = true) (hm : X.mg "list" = none) (he : EE X H0 M Γ e (kD X.K ds)) (hg : Gl X "list" := by rfl) (h1 : starEach (e :: []) X.env = (false, eval e X.env) :: starEach [] X.env := by exact star1 rfl) (hpl : (backTo pos (starEach [] X.env)).any (·.1) = false := by rfl) :
    EL X H0 M Γ (.Call (.Name "list" p0) [e] [] pos) (ds.map fun kv => keyD kv.1) :=
  e_callTy (call_list_dK hc) hm (by decide +kernel) (a_consA he a_nilA h1) (fun H H1 vs Q s1 p k' => by
    obtain ⟨v, r, H2, rfl, s2, s3, ⟨q, xs, rfl, hq, hxs⟩, rfl⟩ := p
    exact ⟨q, xs, rfl, s3 _ _ hq, fun l hl => k' _ _ (same_new hl) ⟨l, _, rfl, s1.free hl, upd_same, (hxs.keys.same s3).same (same_new hl)⟩⟩) hg (by decide) (by decide) h1 hpl
/-! ### list + list -/
theorem l_cat {ds es : List PyData} (hz : ds.length + es.length ≤ 100000) (ha : EE X H0 M Γ a (kO X.K ds)) (hb : EE X H0 M Γ b (kO X.K es)) : EL X H0 M Γ (.BinOp a .Add b pos) (ds ++ es) :=
  fun g σ H Q R k => wE.of (pe_op op_cat pe_w pe_w) (ha g σ H _ R fun x H1 s1 ⟨p, xs, e1, h1, m1⟩ => hb g σ H1 _ (R.same s1) fun y H2 s2 ⟨q, ys, e2, h2, m2⟩ =>
    ⟨p, q, xs, ys, e1, e2, s2 _ _ h1, h2, by rw [m1.len, m2.len]; exact Nat.le_trans hz (by decide), fun r hr => k _ _ ((s1.trans s2).trans (same_new hr)) ⟨r, _, rfl, (s1.trans s2).free hr, upd_same, ((m1.same s2).append m2).same (same_new hr)⟩⟩)
/-! ### == of lists -/
def rEqL (K : PySem.W.Frag) : R2 := fun x y H Q => ∃ p q xs ys ds es, x = .ref p ∧ y = .ref q ∧ SqL K H p xs ∧ SqL K H q ys ∧ ImAll K H xs ds ∧ ImAll K H ys es ∧ PyData.depthAll ds < 64 ∧ Q (.bl (PyData.eqvAll ds es)) H
theorem op_eqL (hu : X.A.units + 64 < cLine) : OpR X (compareOp .Eq) (rEqL X.K) := by
  intro pins s σ H x y v u Q I rx ry h
  obtain ⟨p, q, xs, ys, ds, es, rfl, rfl, hp, hq, hd, he, sd, k⟩ := h
  obtain ⟨as, r1⟩ := Dp.reads I (.list ds) _ v (.lst hp (hd.dp ds xs)) rx
  obtain ⟨bs, r2⟩ := Dp.reads I (.list es) _ u (.lst hq (he.dp es ys)) ry
  have h1 : PyData.depth (.list ds) = PyData.depthAll ds + 1 := by first | rfl | simp [PyData.depth] | (simp [PyData.depth]; omega)
  have : min (PyData.depth (.list ds)) (PyData.depth (.list es)) ≤ PyData.depth (.list ds) := Nat.min_le_left _ _
  refine SeqAt.eq_plain r1 r2 (hd.plain ds xs) (he.plain es ys) (by omega) ⟨.bl _, H, I, ?_, k⟩
  show Value.bool (PyData.eqv (.list ds) (.list es)) = Value.bool (PyData.eqvAll ds es)
  rw [PyData.eqv]
theorem i_eqL {k : Nat} {ds es : List PyData} (hr : Room k X.A) (hd : PyData.depthAll ds < 64) (ha : EE X H0 M Γ a (kO X.K ds)) (hb : EE X H0 M Γ b (kO X.K es)) : EI X H0 M Γ (.Compare a [.Eq] [b] pos) (.bool (PyData.eqvAll ds es)) :=
  e_cmp (op_eqL hr.units) ha hb (nomark _) fun H H1 H2 x y Q s1 s2 ⟨p, xs, e1, h1, m1⟩ ⟨q, ys, e2, h2, m2⟩ k => ⟨p, q, xs, ys, ds, es, e1, e2, SqL.of (s2 _ _ h1), SqL.of h2, m1.same s2, m2, hd, k _ _ (Same.refl _) (.bl _)⟩
/-! ### in a list -/
def rInP (K : PySem.W.Frag) (neg : Bool) : R2 := fun x y H Q => ∃ d p xs ds, Im K H x d ∧ y = .ref p ∧ SqL K H p xs ∧ ImAll K H xs ds ∧ d.depth ≤ 64 ∧ Q (.bl (if neg then !(ds.any fun z => PyData.eqv z d) else ds.any fun z => PyData.eqv z d)) H
theorem op_inP (hu : X.A.units + 66 < cLine) : OpR X (compareOp .In) (rInP X.K false) := by
  intro pins s σ H x y v u Q I rx ry h
  obtain ⟨d, p, xs, ds, hd, rfl, hp, hds, sd, k⟩ := h
  obtain ⟨as, r1⟩ := Dp.reads I d x v (hd.dp d x) rx
  obtain ⟨bs, r2⟩ := Dp.reads I (.list ds) _ u (.lst hp (hds.dp ds xs)) ry
  have : min (PyData.depthAll ds) d.depth ≤ d.depth := Nat.min_le_right _ _
  exact SeqAt.in_list_data r2 r1 (hds.plain ds xs) (hd.plain d x) (by omega) ⟨.bl _, H, I, rfl, k⟩
theorem op_niP (hu : X.A.units + 66 < cLine) : OpR X (compareOp .NotIn) (rInP X.K true) := by
  intro pins s σ H x y v u Q I rx ry h
  obtain ⟨d, p, xs, ds, hd, rfl, hp, hds, sd, k⟩ := h
  obtain ⟨as, r1⟩ := Dp.reads I d x v (hd.dp d x) rx
  obtain ⟨bs, r2⟩ := Dp.reads I (.list ds) _ u (.lst hp (hds.dp ds xs)) ry
  have : min (PyData.depthAll ds) d.depth ≤ d.depth := Nat.min_le_right _ _
  exact SeqAt.notIn_list_data r2 r1 (hds.plain ds xs) (hd.plain d x) (by omega) ⟨.bl _, H, I, rfl, k⟩
theorem units66 {k : Nat} {A : Around} (r : Room k A) : A.units + 66 < cLine := by have := r.un; omega
theorem t_notIn {k : Nat} {d : PyData} {ds : List PyData} (hr : Room k X.A) (hd : d.depth ≤ 64) (ha : EI X H0 M Γ a d) (hb : EE X H0 M Γ b (kO X.K ds)) (hm : behindInMarks .NotIn b = false := by rfl) : ET X H0 M Γ (.Compare a [.NotIn] [b] pos) (!(ds.any fun z => PyData.eqv z d)) :=
  t_cmp (op_niP (units66 hr)) ha hb hm fun H H1 H2 x y Q s1 s2 p1 ⟨p, xs, e1, h1, m1⟩ k => ⟨d, p, xs, ds, p1.same s2, e1, SqL.of h1, m1, hd, k _ (Same.refl _)⟩
theorem t_in {k : Nat} {d : PyData} {ds : List PyData} (hr : Room k X.A) (hd : d.depth ≤ 64) (ha : EI X H0 M Γ a d) (hb : EE X H0 M Γ b (kO X.K ds)) (hm : behindInMarks .In b = false := by rfl) : ET X H0 M Γ (.Compare a [.In] [b] pos) (ds.any fun z => PyData.eqv z d) :=
  t_cmp (op_inP (units66 hr)) ha hb hm fun H H1 H2 x y Q s1 s2 p1 ⟨p, xs, e1, h1, m1⟩ k => ⟨d, p, xs, ds, p1.same s2, e1, SqL.of h1, m1, hd, k _ (Same.refl _)⟩
/-! ### 0 <= i < n -/
theorem t_chain {i j l : Int} {op op' : CmpOp} {f f' : Int → Int → Bool} (ho : OpR X (compareOp op) (rI0 fun i j => .bl (f i j))) (ho' : OpR X (compareOp op') (rI0 fun i j => .bl (f' i j))) (ha : EI X H0 M Γ a (.int i)) (hb : EI X H0 M Γ b (.int j)) (hc : EI X H0 M Γ c (.int l))
    (hm : lastMarks [op, op'] [b, c] = false := by with_unfolding_all rfl) : ET X H0 M Γ (.Compare a [op, op'] [b, c] pos) (f i j && f' j l) := fun g σ H Q R k =>
  wT.of (pt_chain ho ho' pe_w pe_w pe_w hm) (ha g σ H _ R fun x H1 s1 p1 => hb g σ H1 _ (R.same s1) fun y H2 s2 p2 => ⟨i, j, p1.int_inv, p2.int_inv, f i j, rfl, by
    cases hf : f i j with
    | false =>
      rw [if_neg (by decide)]
      rw [hf] at k
      exact ⟨_, rfl, k H2 (s1.trans s2)⟩
    | true =>
      rw [if_pos rfl]
      rw [hf] at k
      exact hc g σ H2 _ (R.same (s1.trans s2)) fun z H3 s3 p3 => ⟨j, l, p2.int_inv, p3.int_inv, _, rfl, k H3 ((s1.trans s2).trans s3)⟩⟩)
/-! ### stores -/
/-- xs[i] = e -/
theorem g_item (i : Nat) {x : Str} {px pa : Pos} {d : PyData} {ds : List PyData} {j : Int} {n : Nat} (hls : Γ.getD i .no = .ls ds) (hj : ixN ds.length j = some n) (he : EI X H0 M Γ e d) (hix : EI X H0 M Γ b (.int j)) (hr : SG X H0 M (Γ.set i (.ls (ds.set n d))) rest D)
    (hN : X.N[i]? = some x := by rfl) (hv : Vis X.env.scope x := by first | exact Or.inl rfl | exact Or.inr (Or.inl rfl) | exact Or.inr (Or.inr rfl)) (hd : (x == ("__debug__" : Str)) = false := by decide)
    (hcd : (x == ("__classdict__" : Str)) = false := by decide)
    (hp : ∀ {to ti te : TE}, PE X (.Name x px) to → PE X b ti → PE X e te → PS X (.Assign [.Subscript (.Name x px) b pa] e pos) (tAsg te (gSub to ti rSetL)) := by
      intro to ti te h1 h2 h3; exact ps_asg h3 (pg_sub h1 h2 set_list)) : SG X H0 M Γ (.Assign [.Subscript (.Name x px) b pa] e pos :: rest) D := fun g σ H D' r im => by
  refine wS.of' (hp (pe_var hN hv hd hcd) pe_w pe_w) (he g σ H _ r fun v H1 s1 m1 => ?_)
  have r1 := r.same s1
  obtain ⟨p, vs, ex, hp0, hm, _⟩ := r1.ls hls
  refine ⟨_, ex, hix g σ H1 _ r1 fun u H2 s2 m2 => ?_⟩
  refine ⟨p, vs, j, n, rfl, m2.int_inv, s2 _ _ hp0, by rw [hm.len]; exact hj, ?_⟩
  refine hr g _ _ D' ((r1.same s2).updLs ex hls ((hm.same s2).set n (m1.same s2))) (im.go (((Same.gw s1).trans (Same.gw s2)).trans (gw_mut ?_)))
  rw [s2 _ _ hp0]; trivial
/-- x = {} -/
theorem g_dict (i : Nat) {x : Str} {px pd : Pos} (hM : MOk X H0 M Γ) (hN : X.N.Nodup) (hl : Γ.length = X.N.length) (hr : SG X H0 M (Γ.set i (.dk [])) rest D) (hi : X.N[i]? = some x := by rfl) (hx : Loc X.env.scope x := by first | exact Or.inl rfl | exact Or.inr rfl)
    (hs : swapsWith (.Dict [] [] pd) (some (.Name x px)) pos.line X.env = pure false := by rfl) (hf : X.fn x = true ∨ X.env.scope.names.lookup x = some .local := by first | exact .inl rfl | exact .inr rfl | assumption) : SG X H0 M Γ (.Assign [.Name x px] (.Dict [] [] pd) pos :: rest) D := fun g σ H D' r im =>
  wS.of' (ps_set hN hi hx pe_dnewK hs hf) (fun p hp => hr g _ _ D' (r.setDk (same_new hp) (by rw [hl]; exact (List.getElem?_eq_some_iff.mp hi).1) hp (r.fresh (hM g σ H r) hp) upd_same .nil) (im.go (Same.gw (same_new hp))))
def putD (kvs : List (Key × PyData)) (k : Key) (v : PyData) : List (Key × PyData) :=
  if (kvs.any fun kv => decide (kv.1 = k)) = true then kvs.map (fun kv => if kv.1 = k then (kv.1, v) else kv) else kvs ++ [(k, v)]
theorem ImKv.any {K : PySem.W.Frag} {H : Hp} (k : Key) : ∀ {vs : List (Key × V)} {ds : List (Key × PyData)}, ImKv K H vs ds → (vs.any fun kv => decide (kv.1 = k)) = (ds.any fun kv => decide (kv.1 = k))
  | _, _, .nil => rfl
  | _, _, .cons h t => by
    rw [List.any_cons, List.any_cons, ImKv.any k t, h.1]
theorem ImKv.map {K : PySem.W.Frag} {H : Hp} {k : Key} {v : V} {d : PyData} (m : Im K H v d) : ∀ {vs : List (Key × V)} {ds : List (Key × PyData)}, ImKv K H vs ds → ImKv K H (vs.map fun kv => if kv.1 = k then (kv.1, v) else kv) (ds.map fun kv => if kv.1 = k then (kv.1, d) else kv)
  | _, _, .nil => .nil
  | p :: _, q :: _, .cons h t => by
    refine .cons ?_ (ImKv.map m t)
    by_cases e : p.1 = k
    · dsimp only; rw [if_pos e, if_pos (h.1 ▸ e)]; exact ⟨h.1, m⟩
    · dsimp only; rw [if_neg e, if_neg (h.1 ▸ e)]; exact h
theorem ImKv.app {K : PySem.W.Frag} {H : Hp} {k : Key} {v : V} {d : PyData} (m : Im K H v d) : ∀ {vs : List (Key × V)} {ds : List (Key × PyData)}, ImKv K H vs ds → ImKv K H (vs ++ [(k, v)]) (ds ++ [(k, d)])
  | _, _, .nil => .cons ⟨rfl, m⟩ .nil
  | _, _, .cons h t => .cons h (ImKv.app m t)
theorem ImKv.put {K : PySem.W.Frag} {H : Hp} {k : Key} {v : V} {d : PyData} {vs : List (Key × V)} {ds : List (Key × PyData)} (m : Im K H v d) (h : ImKv K H vs ds) : ImKv K H (putK vs k v) (putD ds k d) := by
  unfold putK putD
  rw [h.any k]
  split
  · exact h.map m
  · exact h.app m
theorem ImKv.len {K : PySem.W.Frag} {H : Hp} : ∀ {vs : List (Key × V)} {ds : List (Key × PyData)}, ImKv K H vs ds → vs.length = ds.length
  | _, _, .nil => rfl
  | _, _, .cons _ t => congrArg (· + 1) (ImKv.len t)
/-- d[k] = e, the key a text or an int -/
theorem g_dput (i : Nat) {k n : Nat} {x : Str} {px pa : Pos} {d : PyData} {kk : Key} {ds : List (Key × PyData)} (hr0 : Room k X.A) (hls : Γ.getD i .no = .dk ds) (hz : ds.length < 100000) (he : EI X H0 M Γ e d) (hix : EI X H0 M Γ b (keyD kk)) (hr : SG X H0 M (Γ.set i (.dk (putD ds kk d))) rest D)
    (hN : X.N[i]? = some x := by rfl) (hv : Vis X.env.scope x := by first | exact Or.inl rfl | exact Or.inr (Or.inl rfl) | exact Or.inr (Or.inr rfl)) (hd : (x == ("__debug__" : Str)) = false := by decide)
    (hcd : (x == ("__classdict__" : Str)) = false := by decide)
    (hs : swapsWith e (some (.Subscript (.Name x px) b pa)) pos.line X.env = pure false := by rfl) : SG X H0 M Γ (.Assign [.Subscript (.Name x px) b pa] e pos :: rest) D := fun g σ H D' r im => by
  have hu : X.A.units + 1 < cLine := by have := hr0.un; omega
  refine wS.of' (ps_dput hu (pe_var hN hv hd hcd) pe_w pe_w hs) (he g σ H _ r fun v H1 s1 m1 => ?_)
  have r1 := r.same s1
  obtain ⟨p, vs, ex, hp0, hm, _⟩ := r1.dk hls
  refine ⟨_, ex, hix g σ H1 _ r1 fun u H2 s2 m2 => ?_⟩
  have eu : u = L2.kV kk := by
    cases kk with
    | inl i => exact m2.int_inv
    | inr x => exact m2.str_inv
  subst eu
  refine ⟨p, _, rfl, DPut.k (k := kk) (s2 _ _ hp0) (by rw [hm.len]; exact Nat.lt_of_lt_of_le hz (by decide)), ?_⟩
  refine hr g _ _ D' ((r1.same s2).updDk ex hls ((hm.gw (Same.gw s2)).put (m1.same s2))) (im.go (((Same.gw s1).trans (Same.gw s2)).trans (gw_mut ?_)))
  rw [s2 _ _ hp0]; trivial
/-- the end of a loop's turn -/
theorem g_loop {Γ' : SC} {B : SC → Prop} (s : Sub Γ Γ') : SG X H0 M Γ [] (loopD X H0 M Γ' B D) := g_nil fun g σ H r => r.sub s
/-- e alone, whose value is dropped -/
theorem g_expr {P : EK} (he : EE X H0 M Γ e P) (hr : SG X H0 M Γ rest D) (hs : swapsWith e none pos.line X.env = pure false := by rfl) : SG X H0 M Γ (.Expr e pos :: rest) D := fun g σ H D' r im =>
  wS.of' (ps_expr pe_w hs) (he g σ H _ r fun v H' s p => hr g σ H' D' (r.same s) (im.go (Same.gw s)))
/-- return a list of one's own -/
theorem g_retO (i : Nat) {x : Str} {px : Pos} {ds : List PyData} (h : Γ.getD i .no = .ls ds) (k : ∀ H p vs, But M H0 H → H0 p = none → H p = some (.lst vs) → ImAll X.K H vs ds → D.rt (.ref p) H)
    (hN : X.N[i]? = some x := by rfl) (hv : Vis X.env.scope x := by first | exact Or.inl rfl | exact Or.inr (Or.inl rfl) | exact Or.inr (Or.inr rfl)) (hd : (x == ("__debug__" : Str)) = false := by decide)
    (hcd : (x == ("__classdict__" : Str)) = false := by decide) : SG X H0 M Γ (.Return (some (.Name x px)) pos :: rest) D := fun g σ H D' r im => by
  obtain ⟨p, vs, e, m, q, n⟩ := r.ls h
  exact wS.of' (ps_ret (pe_var hN hv hd hcd)) ⟨_, e, im.rt _ _ ⟨Gw.refl H, r.kept⟩ (k H p vs r.but n m q)⟩
/-- return data, a new list -/
theorem g_retI {d : PyData} (he : EI X H0 M Γ e d) (k : ∀ v H', But M H0 H' → Im X.K H' v d → D.rt v H') : SG X H0 M Γ (.Return (some e) pos :: rest) D := g_ret he fun g σ H v H' r s m => k v H' (r.but.same s) m
theorem g_retL {ds : List PyData} (hM : MOk X H0 M Γ) (he : EL X H0 M Γ e ds) (k : ∀ p vs H', But M H0 H' → H0 p = none → H' p = some (.lst vs) → ImAll X.K H' vs ds → D.rt (.ref p) H') : SG X H0 M Γ (.Return (some e) pos :: rest) D :=
  g_ret he fun g σ H v H' r s ⟨p, vs, ev, n, q, m⟩ => by subst ev; exact k p vs H' (r.but.same s) (r.fresh (hM g σ H r) n) q m
theorem g_retXI {A : PyData → Prop} (he : EX X H0 M Γ e Γ1 (xI X.K A)) (k : ∀ g σ v H' d, R X.K H0 M g Γ1 σ H' → A d → Im X.K H' v d → D.rt v H') : SG X H0 M Γ (.Return (some e) pos :: rest) D := g_retX he fun g σ v H' r ⟨d, p, m⟩ => k g σ v H' d r p m
end
/-! ### defs -/
section
variable {P : Program} {w : World} {K : PySem.W.Frag} {mg : Str → Option Value} {base : Heap} {x qual : Str} {st : Stmt} {f : Addr} {fd : FuncData} {N ps : List Str} {k : Nat} {sp : Sp}
/-- the context of a body that lets nothing out -/
abbrev CxN (P : Program) (w : World) (K : PySem.W.Frag) (mg : Str → Option Value) (base : Heap) (N : List Str) (qual : Str) (st : Stmt) (f : Addr) (cdv : Value) (A : Around) (outer : List Env) (s : Shared) (H : Hp) (E : XK) : Cx :=
  (cxOf CX0 P w K mg base N qual (defScope st) f cdv A outer s H E).nox
theorem mk_fn (F : Fun K x qual st f fd) (S : FnScope N ps (defScope st)) (len : ∀ vs H Q E, sp vs H Q E → vs.length = ps.length)
    (body : ∀ cdv A outer s H vs Q E, Room k (A.deeper (envOfC qual (defScope st) s.heap.objs.size f cdv)) → sp vs H Q E →
      ∃ M Γ, R K H M [] Γ (L2.start N vs) H ∧ SG (CxN P w K mg base N qual st f cdv A outer s H E) H M Γ (defBody st) { rt := Q, nx := fun _ _ H' => Q .non H' }) : FnOk P w K mg base CX0 (k + 1) f fd ps sp :=
  F.ok S len fun cdv A outer s H vs Q E hr h => ⟨wSs _ _, pss_w, by
    obtain ⟨M, Γ, r, sg⟩ := body cdv A outer s H vs Q E hr h
    exact sg [] _ H _ r ⟨fun _ _ _ q => q, fun _ _ _ q => q, fun _ _ _ q => q, fun _ _ _ q => q⟩⟩
theorem mk_has {n : Nat} (F : Fun K x qual st f fd) (G : FnOk P w K mg base CX0 n f fd ps sp) (hm : mg x = some (.ref f)) (b : L2.Binds K fd ps []) : Has P w K mg base CX0 n x ps sp := ⟨f, fd, G, hm, F.kp, b⟩
end
end G

/-! G: errors. -/
namespace G
open PySem PySem.Spec PyProof.Rows L2

/-- the ends of a suite behind «except x as n»: slot i is empty -/
def Ends.gone (D : Ends) (i : Nat) : Ends where
  nx σ H := D.nx (σ.set i none) H
  rt := D.rt
  bk σ H := D.bk (σ.set i none) H
  ct σ H := D.ct (σ.set i none) H
section
variable {X : Cx} {x n : Str} {c : Value} {i : Nat} {body suite orelse : List Stmt} {b₀ : Stmt} {np pos pos' : Pos} {tb : WX → TS} {ts : Addr → Value → Option Addr → TS} {Wout : WX} {u : TS}
/-- what an error that the clause takes comes to -/
theorem caught_as (hs : X.stack = X.env :: X.outer) (hf : X.env.frame = some X.env.locals) (hN : X.N.Nodup) (hi : X.N[i]? = some n) (hln : X.env.kindOf n = some .local) (hc : Names X x c)
    (hsu : ∀ (a : Addr) (oe : Obj) (cls : Value) (d : Option Addr) (pn : List (Addr × Obj)), Zc cls d oe → (∃ vs, oe.data = .fields vs) → PSs (X.suite a ((a, oe) :: pn)) (b₀ :: suite) (ts a cls d))
    {pins : List (Addr × Obj)} {D : Ends} {xe : Value → Shared → Prop} {cls : Value} {d : Option Addr} {a : Addr} {B : Heap} {sI s' : Shared} {pins' : List (Addr × Obj)} {σ' : St} {H' : Hp} (J' : Inv (X.tr (X.pn ++ pins) xe) pins' σ' H' sI) (ok : X.Ok)
    (nb : ∀ b o, sI.heap.get? b = some o → b ∉ frs X.stack → B.get? b = some o) (up : sI.heap.UpToSlots s'.heap) (sky : Sky B X.stack a (Zc cls d) X.env.locals s'.heap) (na : H' a = none) (os : s'.os = sI.os) (ag : AllBare s'.gens)
    (hex : PySem.W.exmOne X.K cls c = some true) (hyes : ts a cls d (Ends.gone D i) (σ'.set i (some (.ref a))) H') :
    wpAny (model X.prog X.w) X.A (noteFrame (.ref a) X.env) (fun _ s₂ => wpAny (model X.prog X.w) X.A (setFlight (.ref a) none) (fun _ s₃ =>
      wpAny (model X.prog X.w) X.A (handleBy (.ref a) X.env [.ExceptHandler (some (.Name x np)) (some n) (b₀ :: suite) pos']) (SP X pins D) X.xe s₃) X.xe s₂) X.xe s' := by
  have fr : X.A.frames = some (X.env :: X.outer) := hs ▸ ok.frames
  have home := Inv.ofTry J' ok
  refine Sky.land Zc.steady fr hf (hs ▸ sky) fun hA flA upA => ?_
  obtain ⟨oA, vA, eA, zA, dA⟩ := flA.there
  have off : a ∉ frs (X.env :: X.outer) := fun m => by
    obtain ⟨_, o, e, no⟩ := flA.2.2.1.mem m
    exact no _ (Option.some.inj (eA.symm.trans e) ▸ dA)
  have offL : a ≠ X.env.locals := fun z => off (List.mem_filterMap.mpr ⟨X.env, List.mem_cons_self, z ▸ hf⟩)
  have offF : a ∉ X.fs := fun m => by
    obtain ⟨e, he, q⟩ := List.mem_filterMap.mp m
    exact off (List.mem_filterMap.mpr ⟨e, List.mem_cons_of_mem _ he, q⟩)
  have JA := home.landed (s' := { s' with heap := hA }) nb flA.1 (up.trans upA) os ag
  have SA := JA.suite eA dA na offL offF
  refine wpAny_handleBy_cons (codeAny_handlers_test ?_) (fun q => nomatch q)
  have typ : PySem.W.Looks (model X.prog X.w) hA (typeOf (.ref a)) cls := fun _ _ _ s k q => wpAny_typeOf_ref (k _ _ eA) (by rw [zA.1]; exact q)
  have look := PySem.W.exm_one (M := model X.prog X.w) JA.kIn typ hex
  have named : ∀ {Q E : Value → Shared → Prop}, Q c { s' with heap := hA } → wpAny (model X.prog X.w) (X.A.mark (some (.ref a))) (eval (.Name x np) X.env) Q E { s' with heap := hA } := fun q => by
    rcases hc with ⟨g1, g2, m | ⟨m, v, ne⟩⟩
    · exact ld_glob (X := X.suite a _) SA g1 m q g2
    · exact ld_blt (X := X.suite a _) SA g1 m v q ne g2
  refine named (look.here ?_)
  refine codeAny_handlers_suite_as (HandSPX.lands_againZ flA fun hB flB upB => ?_)
  obtain ⟨oB, vB, eB, zB, dB⟩ := flB.there
  have SB := (home.landed (s' := { s' with heap := hB }) nb flB.1 ((up.trans upA).trans upB) os ag).suite eB dB na offL offF
  refine store_ok (X := X.suite a ((a, oB) :: (X.pn ++ pins))) (v := .ref a) SB hN hi (.inl hln) rfl (fun sC SC => ?_) (.inr hln)
  refine wpAny_mono ((hsu a oB cls d (X.pn ++ pins) zB ⟨vB, dB⟩).run [] sC _ H' _ SC hyes) (fun f sD q => ?_) (fun _ _ z => z.elim)
  have out : ∀ {σD : St} {HD : Hp} {Q : Shared → Prop}, Inv (X.suite a ((a, oB) :: (X.pn ++ pins))) [] σD HD sD → (∀ sE, Inv X pins (σD.set i none) HD sE → Q sE) →
      wpAny (model X.prog X.w) X.A (do bindName X.env n .none; unbindBehindTheSuite X.env n pos') (fun _ sE => Q sE) X.xe sD := fun S q => gone_ok (S.unsuite ok) hN hi hln q
  cases f with
  | ret w =>
    obtain ⟨v, σD, HD, S, r, q⟩ := q
    exact out S fun _ J => ⟨_, _, _, J, r, q⟩
  | next => obtain ⟨σD, HD, S, q⟩ := q; exact out S fun _ J => ⟨_, _, J, q⟩
  | brk => obtain ⟨σD, HD, S, q⟩ := q; exact out S fun _ J => ⟨_, _, J, q⟩
  | cont => obtain ⟨σD, HD, S, q⟩ := q; exact out S fun _ J => ⟨_, _, J, q⟩
/-- try: body / except x as n: suite / else: orelse; every error that the body lets out is the clause's -/
theorem ps_try_asE (ho : PSs X orelse u) (hs : X.stack = X.env :: X.outer) (hf : X.env.frame = some X.env.locals) (hN : X.N.Nodup) (hi : X.N[i]? = some n) (hln : X.env.kindOf n = some .local) (hc : Names X x c)
    (hb : ∀ (W : WX) (pn : List (Addr × Obj)) (xe : Value → Shared → Prop), Takes (X.tr pn xe) W → PassesOwn (model X.prog X.w) X.A X.env xe → PSs (X.tr pn xe) body (tb W))
    (hsu : ∀ (a : Addr) (oe : Obj) (cls : Value) (d : Option Addr) (pn : List (Addr × Obj)), Zc cls d oe → (∃ vs, oe.data = .fields vs) → PSs (X.suite a ((a, oe) :: pn)) (b₀ :: suite) (ts a cls d)) :
    PS X (.Try body [.ExceptHandler (some (.Name x np)) (some n) (b₀ :: suite) pos'] orelse [] pos) (fun D σ H =>
      tb (fun cls d σ H => PySem.W.exmOne X.K cls c = some true ∧ ∀ a, H a = none → ts a cls d (Ends.gone D i) (σ.set i (some (.ref a))) H) { D with nx := u D } σ H) := by
  refine ⟨fun pins s σ H D I h => wpAny_Try_except ?_⟩
  refine wpAny_mono ((hb _ (X.pn ++ pins) _ (fun e s' q => ?_) PassesOwn.looking).run [] s σ H _ (I.toTry _) h) (fun f s' q => ?_) (fun _ _ q => q)
  · obtain ⟨a, B, sI, pins', σ', H', cls, d, rfl, J', nb, up, sky, na, os, ag, w1, w2⟩ := q
    exact caught_as hs hf hN hi hln hc hsu J' I.ok nb up sky na os ag w1 (w2 a na)
  · cases f with
    | next =>
      obtain ⟨σ', H', J, q⟩ := q
      exact ho.run pins s' σ' H' D (J.ofTry I.ok) q
    | ret w =>
      obtain ⟨v, σ', H', J, r, q⟩ := q
      exact ⟨v, σ', H', J.ofTry I.ok, r, q⟩
    | brk => obtain ⟨σ', H', J, q⟩ := q; exact ⟨σ', H', J.ofTry I.ok, q⟩
    | cont => obtain ⟨σ', H', J, q⟩ := q; exact ⟨σ', H', J.ofTry I.ok, q⟩
end
end G

/-! G: errors over slots. -/
namespace G
open PySem PySem.Spec PyProof.Rows L2

abbrev veMro : List Value := [.type "ValueError", .type "Exception", .type "BaseException", .type "object"]
/-- an error class of one's own under ValueError, without an __init__ -/
structure ExcF (K : PySem.W.Frag) (mg : Str → Option Value) (x : Str) (C : Addr) : Prop where
  q : PySem.W.excIn K C veMro "ValueError.__new__" = true
  g : mg x = some (.ref C)
  k : PySem.W.keepIn K (.ref C) = true
  b : PySem.W.subIn K (.ref C) (.type "BaseException") = some true
  t : PySem.W.typeIn K (.ref C) = some (.type "type")
  i : PySem.W.hasDictIn K C = true
/-- an error class caught by name, and what it says of the class D -/
theorem ExcF.caught {K : PySem.W.Frag} {mg : Str → Option Value} {x : Str} {C D : Addr} {r : Bool} (F : ExcF K mg x C) (s : PySem.W.subIn K (.ref D) (.ref C) = some r) : PySem.W.exmOne K (.ref D) (.ref C) = some r := PySem.W.exm_ref F.b F.i F.t s
theorem ExcF.caught' {K : PySem.W.Frag} {mg : Str → Option Value} {x : Str} {C : Addr} {cls : Value} {r : Bool} (F : ExcF K mg x C) (s : PySem.W.subIn K cls (.ref C) = some r) : PySem.W.exmOne K cls (.ref C) = some r := PySem.W.exm_ref F.b F.i F.t s
section
variable {X : Cx} {H0 : Hp} {M : List Addr} {Γ Γ1 Γ2 : SC} {e a b c : Expr} {es : List Expr} {pos p0 : Pos} {rest body orelse suite : List Stmt} {b₀ : Stmt} {D : DD} {P : EK} {W : WX}
/-- raise X('..') -/
theorem g_raise {x m : Str} {C : Addr} {j : Nat} {p p2 pos' : Pos} (F : ExcF X.K X.mg x C) (hc : X.calm = true) (tk : Takes X W) (h : ∀ g σ H, R X.K H0 M g Γ σ H → W (.ref C) none σ H) (hg : Gl X x := by rfl) (hdb : (x == ("__debug__" : Str)) = false := by decide) :
    SG X H0 M Γ (.Raise (some (.Call (.Name x p) [.Constant (.str m) j p2] [] pos')) none pos :: rest) D := fun g σ H D' r im =>
  wS.of' (ps_raise hc tk (pmk_own PySem.F.excBase_ValueError F.q F.g F.k (raises_own F.b F.t) hg hdb)) (h g σ H r)
/-- a call that may raise -/
theorem w_callS {x : Str} {ps : List Str} {sp : Sp} {n k : Nat} {g : Gs} {σ : St} {H : Hp} {Q : VK} {Pa : AK} (r : R X.K H0 M g Γ σ H) (tk : Takes X W) (h : HasX X (L2.CX X.prog X.w) n x ps sp) (hr : Room k X.A) (hk : n ≤ k) (ha : AA X H0 M Γ (e :: es) Pa)
    (hsp : ∀ H1 vs, Same H H1 → Pa H vs H1 → sp vs H1 Q (fun cls d H' => W cls d σ H'))
    (hg : Gl X x := by rfl) (hdb : (x == ("__debug__" : Str)) = false := by decide) (he : starEach (e :: es) X.env = (false, eval e X.env) :: starEach es X.env := by exact star1 rfl) (hpl : (backTo pos (starEach es X.env)).any (·.1) = false := by rfl) : wE X (.Call (.Name x p0) (e :: es) [] pos) σ H Q := by
  obtain ⟨f, fd, F, hm, hk', hb⟩ := h.ex
  refine wE.of (pe_callS (E := WE W) F (hr.mono hk) hg hm hk' hb (fun σ => passAt tk σ) pa_w hdb he hpl) (ha g σ H _ r fun vs H1 s1 p1 => hsp H1 vs s1 p1)
theorem e_callS {x : Str} {ps : List Str} {sp : Sp} {n k : Nat} {Pa : AK} (tk : Takes X W) (h : HasX X (L2.CX X.prog X.w) n x ps sp) (hr : Room k X.A) (hk : n ≤ k) (ha : AA X H0 M Γ (e :: es) Pa)
    (hsp : ∀ g σ H H1 vs (Q : VK), R X.K H0 M g Γ σ H → Same H H1 → Pa H vs H1 → (∀ v H', Same H1 H' → P H v H' → Q v H') → sp vs H1 Q (fun cls d H' => W cls d σ H'))
    (hg : Gl X x := by rfl) (hdb : (x == ("__debug__" : Str)) = false := by decide) (he : starEach (e :: es) X.env = (false, eval e X.env) :: starEach es X.env := by exact star1 rfl) (hpl : (backTo pos (starEach es X.env)).any (·.1) = false := by rfl) : EE X H0 M Γ (.Call (.Name x p0) (e :: es) [] pos) P := fun g σ H Q r k =>
  w_callS r tk h hr hk ha (fun H1 vs s1 p1 => hsp g σ H H1 vs Q r s1 p1 fun v H' s2 p2 => k v H' (s1.trans s2) p2) hg hdb he hpl
/-- behind a suite «except .. as n» -/
abbrev goneD (X : Cx) (rest : List Stmt) (D : DD) (i : Nat) : DD := { rt := D.rt, nx := fun g σ H => ∀ D', Imp (Far g H) (D.at g) D' → wSs X rest D' (σ.set i none) H }
theorem g_gone {Y : Cx} {i : Nat} (hK : Y.K = X.K) (h : SG X H0 M (Γ.set i .no) rest D) : SG Y H0 M Γ [] (goneD X rest D i) := g_nil fun g σ H r D' im => h g _ H D' (by
  rw [hK] at r
  exact r.wipe [i]) im
/-- try: f(..) / except x as n: suite / else: orelse -/
theorem g_tryE (i : Nat) {x n f : Str} {ps : List Str} {sp : Sp} {C : Addr} {np pos' pe pf : Pos} {k m : Nat} {Pa : AK} (XP : Value → Option Addr → Prop) (hs : X.stack = X.env :: X.outer) (hf : X.env.frame = some X.env.locals) (hN : X.N.Nodup) (hl : Γ.length = X.N.length) (F : ExcF X.K X.mg x C)
    (hx : ∀ cls d, XP cls d → PySem.W.subIn X.K cls (.ref C) = some true)
    (h : HasX X (L2.CX X.prog X.w) m f ps sp) (hr : Room k X.A) (hk : m ≤ k) (ha : ∀ pn xe, AA (X.tr pn xe) H0 M Γ (e :: es) Pa)
    (hsp : ∀ g σ H H1 vs (Q : VK) (E : XK), R X.K H0 M g Γ σ H → Same H H1 → Pa H vs H1 → (∀ v H', Same H1 H' → P H v H' → Q v H') → (∀ cls d H', XP cls d → Same H1 H' → E cls d H') → sp vs H1 Q E)
    (ho : (∃ H v H', P H v H') → SG X H0 M Γ orelse { D with nx := fun g σ H => ∀ D', Imp (Far g H) (D.at g) D' → wSs X rest D' σ H })
    (hsu : ∀ (u : Addr) (oe : Obj) (cls : Value) (d : Option Addr) (pn : List (Addr × Obj)), XP cls d → Zc cls d oe → (∃ vs, oe.data = .fields vs) → SG (X.suite u ((u, oe) :: pn)) H0 M (Γ.set i (.va (.ref u))) (b₀ :: suite) (goneD X rest D i))
    (hi : X.N[i]? = some n := by rfl) (hln : X.env.kindOf n = some .local := by rfl) (hgx : Gl X x := by rfl) (hdx : (x == ("__debug__" : Str)) = false := by decide)
    (hg : Gl X f := by rfl) (hdb : (f == ("__debug__" : Str)) = false := by decide) (he : starEach (e :: es) X.env = (false, eval e X.env) :: starEach es X.env := by exact star1 rfl) (hpl : (backTo pos (starEach es X.env)).any (·.1) = false := by rfl)
    (hsw : swapsWith (.Call (.Name f pf) (e :: es) [] pos) none pe.line X.env = pure false := by rfl) :
    SG X H0 M Γ (.Try [.Expr (.Call (.Name f pf) (e :: es) [] pos) pe] [.ExceptHandler (some (.Name x np)) (some n) (b₀ :: suite) pos'] orelse [] p0 :: rest) D := fun g σ H D' r im => by
  refine wS.of' (ps_try_asE (tb := fun W => tDrop (tCallS sp (WE W) (fun σ H Q => ∀ pn xe, wA (X.tr pn xe) (e :: es) σ H Q))) (ts := fun u cls d D σ H => ∀ oe pn, Zc cls d oe → (∃ vs, oe.data = .fields vs) → wSs (X.suite u ((u, oe) :: pn)) (b₀ :: suite) D σ H) pss_w hs hf hN hi hln ⟨hgx, hdx, .inl F.g⟩ (fun W pn xe tk hp => ?_)
    (fun u oe cls d pn z q => ⟨fun pins s σ H D I w => (w oe pn z q).go pins s I⟩)) ?_
  · obtain ⟨fa, fd, G, hm, hk', hb⟩ := h.ex
    exact pss_one (ps_expr (pe_callS (X := X.tr pn xe) G (hr.mono hk) hg hm hk' hb (fun σ => passAt tk σ) ⟨fun pos pins s σ H Q I w => (w pn xe).go pos pins s I⟩ hdb he hpl) hsw)
  · intro pn xe
    refine ha pn xe g σ H _ r fun vs H1 s1 p1 => ?_
    refine hsp g σ H H1 vs _ _ r s1 p1 (fun v H' s2 p2 => ?_) (fun cls d H' xp s2 => ?_)
    · have s3 := s1.trans s2
      have im3 := im.go (Same.gw s3)
      exact ho ⟨_, _, _, p2⟩ g σ H' _ (r.same s3) ⟨fun σ4 H4 f4 q4 => q4 D' (im3.go f4.1), im3.rt, im3.bk, im3.ct⟩
    · have s3 := s1.trans s2
      have im3 := im.go (Same.gw s3)
      refine ⟨F.caught' (hx cls d xp), fun u hu oe pn z q => ?_⟩
      exact hsu u oe cls d pn xp z q g _ H' _ ((r.same s3).setVa (i := i) (v := .ref u) (Same.refl _) (by rw [hl]; exact (List.getElem?_eq_some_iff.mp hi).1))
        ⟨fun σ4 H4 f4 q4 => q4 D' (im3.go f4.1), im3.rt, fun _ _ _ q => q.elim, fun _ _ _ q => q.elim⟩
/-- isinstance(the caught error, X) -/
theorem i_isE {Y : Cx} {u C D : Addr} {i : Nat} {x n : Str} {px : Pos} {oe : Obj} {pn : List (Addr × Obj)} {k : Bool} (hY : Y = X.suite u ((u, oe) :: pn)) (E : ExcC X.K C) (hz : Zc (.ref C) none oe) (hf : ∃ vs, oe.data = .fields vs) (hm : Y.mg "isinstance" = none) (hx : Y.mg x = some (.ref D)) (hk : PySem.W.kitOne X.K (.ref C) (.ref D) = some k) (hv : Γ.getD i .no = .va (.ref u))
    (hN : Y.N[i]? = some n := by rfl) (hvi : Vis Y.env.scope n := by first | exact Or.inl rfl | exact Or.inr (Or.inl rfl) | exact Or.inr (Or.inr rfl)) (hd : (n == ("__debug__" : Str)) = false := by decide) (hcd : (n == ("__classdict__" : Str)) = false := by decide)
    (hg : Gl Y "isinstance" := by rfl) (hgx : Gl Y x := by rfl) (hdx : (x == ("__debug__" : Str)) = false := by decide)
    (h1 : starEach [.Name n px, .Name x p0] Y.env = (false, eval (.Name n px) Y.env) :: starEach [.Name x p0] Y.env := by rfl) (h2 : starEach [.Name x p0] Y.env = (false, eval (.Name x p0) Y.env) :: starEach [] Y.env := by rfl) (hpl : (backTo pos (starEach [.Name x p0] Y.env)).any (·.1) = false := by rfl) {p1 : Pos} :
    EI Y H0 M Γ (.Call (.Name "isinstance" p1) [.Name n px, .Name x p0] [] pos) (.bool k) := fun g σ H Q R q => by
  subst hY
  refine wE.of (pe_callB (call_isE E hz hf) hg hm (by decide +kernel) (pa_cons (pe_var hN hvi hd hcd) (pa_cons (pe_glob (v := .ref D) hgx hx rfl hdx) pa_nil h2) h1) (by decide) (by decide) h1 hpl) ⟨_, R.va hv, ?_⟩
  exact ⟨.ref D, .ref D, k, rfl, fun u r => r, hk, q _ H (Same.refl H) (.bl k)⟩
/-! ### defs that may raise -/
variable {Pr : Program} {w : World} {K : PySem.W.Frag} {mg : Str → Option Value} {base : Heap} {x qual : Str} {st : Stmt} {f : Addr} {fd : FuncData} {N ps : List Str} {k : Nat} {sp : Sp}
abbrev CxX (P : Program) (w : World) (K : PySem.W.Frag) (mg : Str → Option Value) (base : Heap) (N : List Str) (qual : Str) (st : Stmt) (f : Addr) (cdv : Value) (A : Around) (outer : List Env) (s : Shared) (H : Hp) (E : XK) : Cx :=
  cxOf (L2.CX P w) P w K mg base N qual (defScope st) f cdv A outer s H E
theorem mk_fnX (F : Fun K x qual st f fd) (S : FnScope N ps (defScope st)) (len : ∀ vs H Q E, sp vs H Q E → vs.length = ps.length)
    (body : ∀ cdv A outer s H vs Q E, Room k (A.deeper (envOfC qual (defScope st) s.heap.objs.size f cdv)) → sp vs H Q E →
      ∃ M Γ, R K H M [] Γ (L2.start N vs) H ∧ SG (CxX Pr w K mg base N qual st f cdv A outer s H E) H M Γ (defBody st) { rt := Q, nx := fun _ _ H' => Q .non H' }) : FnOk Pr w K mg base (L2.CX Pr w) (k + 1) f fd ps sp :=
  F.okX S len fun cdv A outer s H vs Q E hr h => ⟨wSs _ _, pss_w, by
    obtain ⟨M, Γ, r, sg⟩ := body cdv A outer s H vs Q E hr h
    exact sg [] _ H _ r ⟨fun _ _ _ q => q, fun _ _ _ q => q, fun _ _ _ q => q, fun _ _ _ q => q⟩⟩
end
end G

/-! F: a program as plain functions over values and a heap of numbered objects; what they say holds of the run. -/
namespace F
open PySem PySem.Spec PyProof.Rows L2 G
abbrev St := L2.St

/-! ### values -/
inductive FV where
  | non | bl (b : Bool) | int (i : Int) | str (x : Str) | tup (xs : List FV) | ref (n : Nat) | fl (xs : List FV)
/-- objects that can change, by number -/
inductive FO where
  | lst (xs : List FV) | dK (kvs : List (Key × FV)) | dT (kvs : List (List Key × FV)) | ins (c : Str) (fs : List (Str × FV)) | lk (kvs : List (Key × FV))
abbrev FH := List FO

/-- a list that never changes -/
def SqF (K : PySem.W.Frag) (H : Hp) (a : Addr) (xs : List V) : Prop :=
  (∃ o, H a = some (.frz o (.lst xs))) ∨
    ∃ (o : Obj) (its : Array Value) (n : Nat), K.lookup a = some o ∧ o.cls = .type "list" ∧ o.dict = none ∧ o.data = .seq its n ∧ its.size ≤ sizeLine ∧ Vals xs its.toList
theorem SqF.sqL {K : PySem.W.Frag} {H : Hp} {a : Addr} {xs : List V} (h : SqF K H a xs) : SqL K H a xs := by
  rcases h with ⟨o, h⟩ | h
  · exact .inl (.inr ⟨o, h⟩)
  · exact .inr h
theorem SqF.gw {K : PySem.W.Frag} {H H' : Hp} {a : Addr} {xs : List V} (e : Gw H H') (h : SqF K H a xs) : SqF K H' a xs := by
  rcases h with ⟨o, h⟩ | h
  · exact .inl ⟨o, e.2 _ _ _ h⟩
  · exact .inr h

/-! a value of the run is as the value told; objects stand where μ says, below n -/
mutual
inductive VR (K : PySem.W.Frag) (H : Hp) (μ : Nat → Addr) (n : Nat) : FV → V → Prop
  | non : VR K H μ n .non .non
  | bl (b : Bool) : VR K H μ n (.bl b) (.bl b)
  | int (i : Int) : VR K H μ n (.int i) (.int i)
  | str (x : Str) : VR K H μ n (.str x) (.str x)
  | tup {a : Addr} {xs : List V} {ds : List FV} : SqT K H a xs → VRs K H μ n ds xs → VR K H μ n (.tup ds) (.ref a)
  | ref {i : Nat} : i < n → VR K H μ n (.ref i) (.ref (μ i))
  | fl {a : Addr} {xs : List V} {ds : List FV} : SqF K H a xs → VRs K H μ n ds xs → VR K H μ n (.fl ds) (.ref a)
inductive VRs (K : PySem.W.Frag) (H : Hp) (μ : Nat → Addr) (n : Nat) : List FV → List V → Prop
  | nil : VRs K H μ n [] []
  | cons {d : FV} {ds : List FV} {v : V} {vs : List V} : VR K H μ n d v → VRs K H μ n ds vs → VRs K H μ n (d :: ds) (v :: vs)
end
section
variable {K : PySem.W.Frag} {H H' : Hp} {μ μ' : Nat → Addr} {n n' : Nat}
mutual
theorem VR.mono (g : Gw H H') (e : ∀ i, i < n → μ' i = μ i) (l : n ≤ n') : ∀ (d : FV) (v : V), VR K H μ n d v → VR K H' μ' n' d v
  | .non, _, h => by cases h; exact .non
  | .bl b, _, h => by cases h; exact .bl b
  | .int i, _, h => by cases h; exact .int i
  | .str x, _, h => by cases h; exact .str x
  | .tup ds, _, h => by
    cases h with
    | tup a b => exact .tup (g.sqt a) (VRs.mono g e l ds _ b)
  | .ref i, _, h => by
    cases h with
    | ref a => rw [← e i a]; exact .ref (Nat.lt_of_lt_of_le a l)
  | .fl ds, _, h => by
    cases h with
    | fl a b => exact .fl (a.gw g) (VRs.mono g e l ds _ b)
theorem VRs.mono (g : Gw H H') (e : ∀ i, i < n → μ' i = μ i) (l : n ≤ n') : ∀ (ds : List FV) (vs : List V), VRs K H μ n ds vs → VRs K H' μ' n' ds vs
  | [], _, h => by cases h; exact .nil
  | d :: ds, _, h => by
    cases h with
    | cons a b => exact .cons (VR.mono g e l d _ a) (VRs.mono g e l ds _ b)
end
theorem VRs.len : ∀ {ds : List FV} {vs : List V}, VRs K H μ n ds vs → vs.length = ds.length
  | [], _, h => by cases h; rfl
  | d :: ds, _, h => by
    cases h with
    | cons a b => show _ + 1 = _ + 1; rw [VRs.len b]
theorem VRs.get : ∀ {ds : List FV} {vs : List V} {i : Nat} {d : FV}, VRs K H μ n ds vs → ds[i]? = some d → ∃ v, vs[i]? = some v ∧ VR K H μ n d v
  | [], _, i, d, h, e => by simp at e
  | d :: ds, _, 0, d', h, e => by
    cases h with
    | cons a b =>
      have e' : d = d' := Option.some.inj e
      subst e'
      exact ⟨_, rfl, a⟩
  | d :: ds, _, i + 1, d', h, e => by
    cases h with
    | cons a b => exact VRs.get (i := i) b (by simpa using e)
theorem VRs.get' : ∀ {ds : List FV} {vs : List V} {i : Nat} {v : V}, VRs K H μ n ds vs → vs[i]? = some v → ∃ d, ds[i]? = some d ∧ VR K H μ n d v
  | [], _, i, d, h, e => by cases h; simp at e
  | d :: ds, _, 0, d', h, e => by
    cases h with
    | cons a b =>
      have e' := Option.some.inj e
      subst e'
      exact ⟨_, rfl, a⟩
  | d :: ds, _, i + 1, d', h, e => by
    cases h with
    | cons a b => exact VRs.get' (i := i) b (by simpa using e)
theorem VRs.append : ∀ {ds es : List FV} {vs us : List V}, VRs K H μ n ds vs → VRs K H μ n es us → VRs K H μ n (ds ++ es) (vs ++ us)
  | [], _, _, _, h, g => by cases h; exact g
  | d :: ds, _, _, _, h, g => by
    cases h with
    | cons a b => exact .cons a (VRs.append b g)
theorem VRs.drop : ∀ {ds : List FV} {vs : List V} (k : Nat), VRs K H μ n ds vs → VRs K H μ n (ds.drop k) (vs.drop k)
  | _, _, 0, h => h
  | [], _, k + 1, h => by cases h; exact .nil
  | d :: ds, _, k + 1, h => by
    cases h with
    | cons a b => exact VRs.drop k b
theorem VRs.take : ∀ {ds : List FV} {vs : List V} (k : Nat), VRs K H μ n ds vs → VRs K H μ n (ds.take k) (vs.take k)
  | _, _, 0, h => .nil
  | [], _, k + 1, h => by cases h; exact .nil
  | d :: ds, _, k + 1, h => by
    cases h with
    | cons a b => exact .cons a (VRs.take k b)
theorem VRs.set : ∀ {ds : List FV} {vs : List V} {v : V} {d : FV} (k : Nat), VR K H μ n d v → VRs K H μ n ds vs → VRs K H μ n (ds.set k d) (vs.set k v)
  | [], _, _, _, k, a, h => by cases h; exact .nil
  | e :: ds, _, _, _, 0, a, h => by
    cases h with
    | cons _ b => exact .cons a b
  | e :: ds, _, _, _, k + 1, a, h => by
    cases h with
    | cons c b => exact .cons c (VRs.set k a b)
theorem VRs.rev : ∀ {ds : List FV} {vs : List V}, VRs K H μ n ds vs → VRs K H μ n ds.reverse vs.reverse
  | [], _, h => by cases h; exact .nil
  | d :: ds, _, h => by
    cases h with
    | cons a b => rw [List.reverse_cons, List.reverse_cons]; exact (VRs.rev b).append (.cons a .nil)
end

/-! no object at n or above is named -/
mutual
def FV.low (n : Nat) : FV → Prop
  | .ref i => i < n
  | .tup xs => FV.lows n xs
  | .fl xs => FV.lows n xs
  | _ => True
def FV.lows (n : Nat) : List FV → Prop
  | [] => True
  | x :: xs => x.low n ∧ FV.lows n xs
end
section
variable {K : PySem.W.Frag} {H : Hp} {μ μ' : Nat → Addr} {n m : Nat}
mutual
theorem VR.low : ∀ {d : FV} {v : V}, d.low m → VR K H μ n d v → VR K H μ m d v
  | .non, _, l, h => by cases h; exact .non
  | .bl b, _, l, h => by cases h; exact .bl b
  | .int i, _, l, h => by cases h; exact .int i
  | .str x, _, l, h => by cases h; exact .str x
  | .tup ds, _, l, h => by
    cases h with
    | tup a b => exact .tup a (VRs.low (by simpa [FV.low] using l) b)
  | .ref i, _, l, h => by
    cases h with
    | ref a => exact .ref (by simpa [FV.low] using l)
  | .fl ds, _, l, h => by
    cases h with
    | fl a b => exact .fl a (VRs.low (by simpa [FV.low] using l) b)
theorem VRs.low : ∀ {ds : List FV} {vs : List V}, FV.lows m ds → VRs K H μ n ds vs → VRs K H μ m ds vs
  | [], _, l, h => by cases h; exact .nil
  | d :: ds, _, l, h => by
    cases h with
    | cons a b =>
      have l' : d.low m ∧ FV.lows m ds := by simpa [FV.lows] using l
      exact .cons (VR.low l'.1 a) (VRs.low l'.2 b)
end
mutual
theorem VR.isLow : ∀ {d : FV} {v : V}, VR K H μ n d v → d.low n
  | .non, _, h => by simp [FV.low]
  | .bl b, _, h => by simp [FV.low]
  | .int i, _, h => by simp [FV.low]
  | .str x, _, h => by simp [FV.low]
  | .tup ds, _, h => by
    cases h with
    | tup a b => simpa [FV.low] using VRs.isLow b
  | .ref i, _, h => by
    cases h with
    | ref a => simpa [FV.low] using a
  | .fl ds, _, h => by
    cases h with
    | fl a b => simpa [FV.low] using VRs.isLow b
theorem VRs.isLow : ∀ {ds : List FV} {vs : List V}, VRs K H μ n ds vs → FV.lows n ds
  | [], _, h => by simp [FV.lows]
  | d :: ds, _, h => by
    cases h with
    | cons a b => simpa [FV.lows] using ⟨VR.isLow a, VRs.isLow b⟩
end
end

/-! ### what a run may do to the heap -/
structure Step (μ : Nat → Addr) (n : Nat) (H : Hp) (μ' : Nat → Addr) (n' : Nat) (H' : Hp) : Prop where
  le : n ≤ n'
  ext : ∀ i, i < n → μ' i = μ i
  new : ∀ i, n ≤ i → i < n' → H (μ' i) = none
  fr : ∀ a o, H a = some o → (∀ i, i < n → μ i ≠ a) → H' a = some o
  th : ∀ a, H a ≠ none → H' a ≠ none
  gw : Gw H H'
section
variable {μ μ1 μ2 : Nat → Addr} {n n1 n2 : Nat} {H H1 H2 : Hp}
theorem Step.refl (μ : Nat → Addr) (n : Nat) (H : Hp) : Step μ n H μ n H := ⟨Nat.le_refl _, fun _ _ => rfl, fun i a b => absurd (Nat.lt_of_lt_of_le b a) (Nat.lt_irrefl _), fun _ _ h _ => h, fun _ h => h, Gw.refl H⟩
theorem Step.trans (a : Step μ n H μ1 n1 H1) (b : Step μ1 n1 H1 μ2 n2 H2) : Step μ n H μ2 n2 H2 where
  le := Nat.le_trans a.le b.le
  ext i h := (b.ext i (Nat.lt_of_lt_of_le h a.le)).trans (a.ext i h)
  new i h1 h2 := by
    by_cases h : i < n1
    · rw [b.ext i h]; exact a.new i h1 h
    · cases q : H (μ2 i) with
      | none => rfl
      | some o => exact absurd (b.new i (Nat.le_of_not_lt h) h2) (a.th _ (by rw [q]; exact fun z => nomatch z))
  fr c o h k := by
    refine b.fr c o (a.fr c o h k) fun i hi z => ?_
    by_cases hn : i < n
    · exact k i hn ((a.ext i hn).symm.trans z)
    · have := a.new i (Nat.le_of_not_lt hn) hi
      rw [z, h] at this; cases this
  th c h := b.th c (a.th c h)
  gw := a.gw.trans b.gw
theorem Step.same (e : Same H H1) : Step μ n H μ n H1 where
  le := Nat.le_refl _
  ext _ _ := rfl
  new i a b := absurd (Nat.lt_of_lt_of_le b a) (Nat.lt_irrefl _)
  fr _ _ h _ := e _ _ h
  th a h := by
    cases q : H a with
    | none => exact absurd q h
    | some o => rw [e a o q]; exact fun z => nomatch z
  gw := Same.gw e
/-- one more object is told -/
def ext1 (μ : Nat → Addr) (n : Nat) (p : Addr) : Nat → Addr := fun i => if i = n then p else μ i
theorem ext1_at {p : Addr} : ext1 μ n p n = p := if_pos rfl
theorem ext1_lt {p : Addr} {i : Nat} (h : i < n) : ext1 μ n p i = μ i := if_neg (Nat.ne_of_lt h)
theorem Step.tell {p : Addr} (s : Step μ n H μ1 n1 H1) (hp : H p = none) : Step μ n H (ext1 μ1 n1 p) (n1 + 1) H1 where
  le := Nat.le_trans s.le (Nat.le_succ _)
  ext i h := by rw [ext1_lt (Nat.lt_of_lt_of_le h s.le)]; exact s.ext i h
  new i h1 h2 := by
    by_cases h : i < n1
    · rw [ext1_lt h]; exact s.new i h1 h
    · have e : i = n1 := by omega
      subst e
      rw [ext1_at]; exact hp
  fr := s.fr
  th := s.th
  gw := s.gw
theorem Step.cut (s : Step μ n H μ1 n1 H1) (h : n ≤ n2) (h2 : n2 ≤ n1) : Step μ n H μ1 n2 H1 :=
  ⟨h, s.ext, fun i a b => s.new i a (Nat.lt_of_lt_of_le b h2), s.fr, s.th, s.gw⟩
theorem Step.mut {i : Nat} {o : HO} (h : i < n) (m : Mut (H (μ i))) : Step μ n H μ n (upd H (μ i) o) where
  le := Nat.le_refl _
  ext _ _ := rfl
  new i a b := absurd (Nat.lt_of_lt_of_le b a) (Nat.lt_irrefl _)
  fr c o' hc k := by rw [upd_ne (Ne.symm (k i h))]; exact hc
  th c hc := by
    by_cases e : c = μ i
    · rw [e, upd_same]; exact fun z => nomatch z
    · rw [upd_ne e]; exact hc
  gw := gw_mut m
theorem Step.vr {K : PySem.W.Frag} {d : FV} {v : V} (s : Step μ n H μ1 n1 H1) (h : VR K H μ n d v) : VR K H1 μ1 n1 d v := VR.mono s.gw s.ext s.le d v h
theorem Step.vrs {K : PySem.W.Frag} {d : List FV} {v : List V} (s : Step μ n H μ1 n1 H1) (h : VRs K H μ n d v) : VRs K H1 μ1 n1 d v := VRs.mono s.gw s.ext s.le d v h
end

/-! ### the heap told -/
def KvR {κ : Type} (K : PySem.W.Frag) (H : Hp) (μ : Nat → Addr) (n : Nat) : List (κ × FV) → List (κ × V) → Prop := Paired fun p q => p.1 = q.1 ∧ VR K H μ n p.2 q.2
theorem KvR.mono {κ : Type} {K : PySem.W.Frag} {H H' : Hp} {μ μ' : Nat → Addr} {n n' : Nat} (g : Gw H H') (e : ∀ i, i < n → μ' i = μ i) (l : n ≤ n') : ∀ {ds : List (κ × FV)} {vs : List (κ × V)}, KvR K H μ n ds vs → KvR K H' μ' n' ds vs
  | _, _, .nil => .nil
  | _, _, .cons a b => .cons ⟨a.1, VR.mono g e l _ _ a.2⟩ (KvR.mono g e l b)
def lowKv {κ : Type} (n : Nat) (kvs : List (κ × FV)) : Prop := FV.lows n (kvs.map (·.2))
theorem KvR.low {κ : Type} {K : PySem.W.Frag} {H : Hp} {μ : Nat → Addr} {n m : Nat} : ∀ {ds : List (κ × FV)} {vs : List (κ × V)}, lowKv m ds → KvR K H μ n ds vs → KvR K H μ m ds vs
  | _, _, l, .nil => .nil
  | d :: ds, _, l, .cons a b => by
    have l' : d.2.low m ∧ FV.lows m (ds.map (·.2)) := by simpa [lowKv, FV.lows] using l
    exact .cons ⟨a.1, VR.low l'.1 a.2⟩ (KvR.low l'.2 b)
theorem KvR.isLow {κ : Type} {K : PySem.W.Frag} {H : Hp} {μ : Nat → Addr} {n : Nat} : ∀ {ds : List (κ × FV)} {vs : List (κ × V)}, KvR K H μ n ds vs → lowKv n ds
  | _, _, .nil => by simp [lowKv, FV.lows]
  | d :: ds, _, .cons a b => by
    have := KvR.isLow b
    simpa [lowKv, FV.lows] using ⟨a.2.isLow, this⟩
theorem KvR.len {κ : Type} {K : PySem.W.Frag} {H : Hp} {μ : Nat → Addr} {n : Nat} : ∀ {ds : List (κ × FV)} {vs : List (κ × V)}, KvR K H μ n ds vs → vs.length = ds.length
  | _, _, .nil => rfl
  | _, _, .cons a b => congrArg (· + 1) (KvR.len b)
/-- the object o stands at a -/
def OR (K : PySem.W.Frag) (mg : Str → Option Value) (H : Hp) (μ : Nat → Addr) (n : Nat) (a : Addr) : FO → Prop
  | .lst ds => ∃ xs, H a = some (.lst xs) ∧ VRs K H μ n ds xs
  | .dK kvs => ∃ ws, H a = some (.dK ws) ∧ KvR K H μ n kvs ws
  | .dT kvs => ∃ ws, H a = some (.dT ws) ∧ KvR K H μ n kvs ws
  | .ins c fs => ∃ C dx ws, mg c = some (.ref C) ∧ H a = some (.ins C dx ws) ∧ KvR K H μ n fs ws
  | .lk kvs => ∃ ws od, H a = some (.frz od (.dK ws)) ∧ KvR K H μ n kvs ws
def FO.low (n : Nat) : FO → Prop
  | .lst ds => FV.lows n ds
  | .dK kvs => lowKv n kvs
  | .dT kvs => lowKv n kvs
  | .ins _ fs => lowKv n fs
  | .lk kvs => lowKv n kvs
section
variable {K : PySem.W.Frag} {mg : Str → Option Value} {H H' H1 : Hp} {μ μ' μ1 : Nat → Addr} {n n' n1 m : Nat} {a : Addr} {o : FO} {h h' : FH}
theorem OR.mono (g : Gw H H') (e : ∀ i, i < n → μ' i = μ i) (l : n ≤ n') (k : H' a = H a) (r : OR K mg H μ n a o) : OR K mg H' μ' n' a o := by
  cases o with
  | lst ds => obtain ⟨xs, h1, h2⟩ := r; exact ⟨xs, by rw [k]; exact h1, VRs.mono g e l _ _ h2⟩
  | dK ds => obtain ⟨xs, h1, h2⟩ := r; exact ⟨xs, by rw [k]; exact h1, h2.mono g e l⟩
  | dT ds => obtain ⟨xs, h1, h2⟩ := r; exact ⟨xs, by rw [k]; exact h1, h2.mono g e l⟩
  | ins c fs => obtain ⟨C, dx, xs, h0, h1, h2⟩ := r; exact ⟨C, dx, xs, h0, by rw [k]; exact h1, h2.mono g e l⟩
  | lk ds => obtain ⟨xs, od, h1, h2⟩ := r; exact ⟨xs, od, by rw [k]; exact h1, h2.mono g e l⟩
theorem OR.low (l : o.low m) (r : OR K mg H μ n a o) : OR K mg H μ m a o := by
  cases o with
  | lst ds => obtain ⟨xs, h1, h2⟩ := r; exact ⟨xs, h1, h2.low l⟩
  | dK ds => obtain ⟨xs, h1, h2⟩ := r; exact ⟨xs, h1, h2.low l⟩
  | dT ds => obtain ⟨xs, h1, h2⟩ := r; exact ⟨xs, h1, h2.low l⟩
  | ins c fs => obtain ⟨C, dx, xs, h0, h1, h2⟩ := r; exact ⟨C, dx, xs, h0, h1, h2.low l⟩
  | lk ds => obtain ⟨xs, od, h1, h2⟩ := r; exact ⟨xs, od, h1, h2.low l⟩
theorem OR.isLow (r : OR K mg H μ n a o) : o.low n := by
  cases o with
  | lst ds => obtain ⟨xs, h1, h2⟩ := r; exact h2.isLow
  | dK ds => obtain ⟨xs, h1, h2⟩ := r; exact h2.isLow
  | dT ds => obtain ⟨xs, h1, h2⟩ := r; exact h2.isLow
  | ins c fs => obtain ⟨C, dx, xs, h0, h1, h2⟩ := r; exact h2.isLow
  | lk ds => obtain ⟨xs, od, h1, h2⟩ := r; exact h2.isLow
theorem OR.some' (r : OR K mg H μ n a o) : H a ≠ none := by
  cases o with
  | lst ds => obtain ⟨xs, h1, h2⟩ := r; rw [h1]; exact fun z => nomatch z
  | dK ds => obtain ⟨xs, h1, h2⟩ := r; rw [h1]; exact fun z => nomatch z
  | dT ds => obtain ⟨xs, h1, h2⟩ := r; rw [h1]; exact fun z => nomatch z
  | ins c fs => obtain ⟨C, dx, xs, h0, h1, h2⟩ := r; rw [h1]; exact fun z => nomatch z
  | lk ds => obtain ⟨xs, od, h1, h2⟩ := r; rw [h1]; exact fun z => nomatch z
structure HR (K : PySem.W.Frag) (mg : Str → Option Value) (μ : Nat → Addr) (h : FH) (H : Hp) : Prop where
  at' : ∀ i o, h[i]? = some o → OR K mg H μ h.length (μ i) o
  inj : ∀ i j, i < h.length → j < h.length → μ i = μ j → i = j
theorem HR.same (r : HR K mg μ h H) (e : Same H H') : HR K mg μ h H' := ⟨fun i o q => by
  have z := r.at' i o q
  refine z.mono (Same.gw e) (fun _ _ => rfl) (Nat.le_refl _) ?_
  cases q' : H (μ i) with
  | none => exact absurd q' z.some'
  | some u => exact e _ _ q', r.inj⟩
theorem HR.cls {i : Nat} (r : HR K mg μ h H) (l : i < h.length) : H (μ i) ≠ none := (r.at' i h[i] (List.getElem?_eq_getElem l)).some'
/-- an object that no number has gets one -/
theorem HR.tell {p : Addr} (r : HR K mg μ h H) (hn : ∀ i, i < h.length → μ i ≠ p) (ho : OR K mg H (ext1 μ h.length p) (h.length + 1) p o) : HR K mg (ext1 μ h.length p) (h ++ [o]) H := by
  refine ⟨fun i u q => ?_, fun i j hi hj e => ?_⟩
  · rw [List.length_append, List.length_singleton]
    by_cases l : i < h.length
    · rw [List.getElem?_append_left l] at q
      rw [ext1_lt l]
      exact (r.at' i u q).mono (Gw.refl H) (fun j hj => ext1_lt hj) (Nat.le_succ _) rfl
    · have l2 : i < (h ++ [o]).length := (List.getElem?_eq_some_iff.mp q).1
      have e : i = h.length := by rw [List.length_append, List.length_singleton] at l2; omega
      subst e
      rw [List.getElem?_append_right (Nat.le_refl _), Nat.sub_self] at q
      have : o = u := Option.some.inj q
      subst this
      rw [ext1_at]; exact ho
  · rw [List.length_append, List.length_singleton] at hi hj
    by_cases li : i < h.length
    · by_cases lj : j < h.length
      · rw [ext1_lt li, ext1_lt lj] at e; exact r.inj i j li lj e
      · have ej : j = h.length := by omega
        subst ej
        rw [ext1_lt li, ext1_at] at e
        exact absurd e (hn i li)
    · have ei : i = h.length := by omega
      subst ei
      by_cases lj : j < h.length
      · rw [ext1_lt lj, ext1_at] at e
        exact absurd e.symm (hn j lj)
      · omega
/-- an object is changed -/
theorem HR.set {i : Nat} {u : HO} (r : HR K mg μ h H) (l : i < h.length) (ho : OR K mg (upd H (μ i) u) μ h.length (μ i) o) (mu : Mut (H (μ i)) := by assumption) : HR K mg μ (h.set i o) (upd H (μ i) u) := by
  refine ⟨fun j v q => ?_, fun j k hj hk e => r.inj j k (by simpa using hj) (by simpa using hk) e⟩
  rw [List.length_set]
  by_cases e : i = j
  · subst e
    rw [List.getElem?_set_self l] at q
    have : o = v := Option.some.inj q
    subst this
    exact ho
  · rw [List.getElem?_set_ne e] at q
    have lj : j < h.length := (List.getElem?_eq_some_iff.mp q).1
    exact (r.at' j v q).mono (gw_mut mu) (fun _ _ => rfl) (Nat.le_refl _) (upd_ne fun z => e (r.inj j i lj l z).symm)
theorem HR.cut {n : Nat} (r : HR K mg μ h H) (l : ∀ o, o ∈ h.take n → o.low n) (hn : n ≤ h.length) : HR K mg μ (h.take n) H := by
  have e : (h.take n).length = n := by rw [List.length_take, Nat.min_eq_left hn]
  refine ⟨fun i o q => ?_, fun i j hi hj z => r.inj i j ?_ ?_ z⟩
  · rw [e]
    have q' : h[i]? = some o := by
      rw [List.getElem?_take] at q
      split at q
      · exact q
      · cases q
    exact (r.at' i o q').low (l o (List.mem_of_getElem? q))
  · omega
  · omega
end

/-! ### slots -/
abbrev Sl := List (Option FV)
structure SR (K : PySem.W.Frag) (mg : Str → Option Value) (μ : Nat → Addr) (Γ : Sl) (h : FH) (σ : St) (H : Hp) : Prop where
  hr : HR K mg μ h H
  len : Γ.length = σ.length
  sl : ∀ (i : Nat) (v : FV), Γ[i]? = some (some v) → ∃ u, σ[i]? = some (some u) ∧ VR K H μ h.length v u
section
variable {K : PySem.W.Frag} {mg : Str → Option Value} {H H' : Hp} {μ μ' : Nat → Addr} {Γ Γ' : Sl} {h h' : FH} {σ : St} {v : FV} {u : V} {i : Nat}
theorem SR.step (r : SR K mg μ Γ h σ H) (s : Step μ h.length H μ' h'.length H') (q : HR K mg μ' h' H') : SR K mg μ' Γ h' σ H' :=
  ⟨q, r.len, fun i v e => let ⟨u, a, b⟩ := r.sl i v e; ⟨u, a, s.vr b⟩⟩
theorem SR.put (r : SR K mg μ Γ h σ H) (m : VR K H μ h.length v u) : SR K mg μ (Γ.set i (some v)) h (σ.set i (some u)) H := by
  refine ⟨r.hr, by rw [List.length_set, List.length_set]; exact r.len, fun j w e => ?_⟩
  by_cases hj : i = j
  · subst hj
    by_cases l : i < Γ.length
    · rw [List.getElem?_set_self l] at e
      have e' : v = w := Option.some.inj (Option.some.inj e)
      subst e'
      exact ⟨u, by rw [List.getElem?_set_self (by rw [← r.len]; exact l)], m⟩
    · rw [List.getElem?_eq_none (by rw [List.length_set]; exact Nat.le_of_not_lt l)] at e; cases e
  · rw [List.getElem?_set_ne hj] at e ⊢
    exact r.sl j w e
theorem SR.drop (r : SR K mg μ Γ h σ H) (o : Option V) : SR K mg μ (Γ.set i none) h (σ.set i o) H := by
  refine ⟨r.hr, by rw [List.length_set, List.length_set]; exact r.len, fun j w e => ?_⟩
  by_cases hj : i = j
  · subst hj
    by_cases l : i < Γ.length
    · rw [List.getElem?_set_self l] at e; cases e
    · rw [List.getElem?_eq_none (by rw [List.length_set]; exact Nat.le_of_not_lt l)] at e; cases e
  · rw [List.getElem?_set_ne hj] at e ⊢
    exact r.sl j w e
theorem SR.put' (r : SR K mg μ Γ h σ H) (s : Step μ h.length H μ' h'.length H') (q : HR K mg μ' h' H') (m : VR K H' μ' h'.length v u) : SR K mg μ' (Γ.set i (some v)) h' (σ.set i (some u)) H' := (r.step s q).put m
end

/-! ### results -/
structure Exn where
  cls : Str
  fs : Option (List (Str × FV)) := none
inductive Rs (α : Type) where
  | ok (a : α) (h : FH) | ex (x : Exn) (h : FH) | no
@[inline] def Rs.bind {α β : Type} : Rs α → (α → FH → Rs β) → Rs β
  | .ok a h, k => k a h
  | .ex x h, _ => .ex x h
  | .no, _ => .no
/-- what an expression gives: a value, or a new list (a new dict) that nothing else holds -/
inductive RV where
  | v (x : FV) | l (ds : List FV) | d (kvs : List (Key × FV))
def Fre (H0 : Hp) (μ : Nat → Addr) (n : Nat) (p : Addr) : Prop := H0 p = none ∧ ∀ i, i < n → μ i ≠ p
inductive RR (K : PySem.W.Frag) (H0 : Hp) (μ : Nat → Addr) (n : Nat) (H : Hp) : RV → V → Prop
  | v {x : FV} {u : V} : VR K H μ n x u → RR K H0 μ n H (.v x) u
  | l {ds : List FV} {p : Addr} {xs : List V} : Fre H0 μ n p → H p = some (.lst xs) → VRs K H μ n ds xs → RR K H0 μ n H (.l ds) (.ref p)
  | d {kvs : List (Key × FV)} {p : Addr} {ws : List (Key × V)} : Fre H0 μ n p → H p = some (.dK ws) → KvR K H μ n kvs ws → RR K H0 μ n H (.d kvs) (.ref p)
def XR (K : PySem.W.Frag) (mg : Str → Option Value) (μ : Nat → Addr) (n : Nat) (H : Hp) (x : Exn) (c : Value) (d : Option Addr) : Prop :=
  mg x.cls = some c ∧ match x.fs with
    | none => d = none
    | some fs => ∃ a ws, d = some a ∧ H a = some (.xd ws) ∧ KvR K H μ n fs ws
section
variable {K : PySem.W.Frag} {mg : Str → Option Value} {H H0 H1 H2 : Hp} {μ μ1 μ2 : Nat → Addr} {n n1 n2 : Nat}
theorem Fre.step {p : Addr} (f : Fre H0 μ1 n1 p) (hp : H1 p ≠ none) (s : Step μ1 n1 H1 μ2 n2 H2) : Fre H0 μ2 n2 p := ⟨f.1, fun i hi z => by
  by_cases h : i < n1
  · exact f.2 i h ((s.ext i h).symm.trans z)
  · exact hp (by rw [← z]; exact s.new i (Nat.le_of_not_lt h) hi)⟩
theorem RR.step {r : RV} {u : V} (h : RR K H0 μ1 n1 H1 r u) (s : Step μ1 n1 H1 μ2 n2 H2) : RR K H0 μ2 n2 H2 r u := by
  cases h with
  | v a => exact .v (s.vr a)
  | l f a b => exact .l (f.step (by rw [a]; exact fun z => nomatch z) s) (s.fr _ _ a f.2) (s.vrs b)
  | d f a b => exact .d (f.step (by rw [a]; exact fun z => nomatch z) s) (s.fr _ _ a f.2) (b.mono s.gw s.ext s.le)
/-- a new thing is new for whoever began earlier -/
theorem RR.since {r : RV} {u : V} (h : RR K H1 μ2 n2 H2 r u) (th : ∀ a, H a ≠ none → H1 a ≠ none) : RR K H μ2 n2 H2 r u := by
  have key : ∀ p, H1 p = none → H p = none := fun p z => by
    cases q : H p with
    | none => rfl
    | some o => exact absurd z (th p (by rw [q]; exact fun z => nomatch z))
  cases h with
  | v a => exact .v a
  | l f a b => exact .l ⟨key _ f.1, f.2⟩ a b
  | d f a b => exact .d ⟨key _ f.1, f.2⟩ a b
/-- what is wanted of a result -/
def Po {α : Type} (K : PySem.W.Frag) (mg : Str → Option Value) (μ : Nat → Addr) (n : Nat) (H : Hp) (R : α → FH → (Nat → Addr) → Hp → Prop) (E : XK) : Rs α → Prop
  | .ok a h' => ∀ μ' H', Step μ n H μ' h'.length H' → HR K mg μ' h' H' → R a h' μ' H'
  | .ex x h' => ∀ μ' H' c d, Step μ n H μ' h'.length H' → HR K mg μ' h' H' → XR K mg μ' h'.length H' x c d → E c d H'
  | .no => False
theorem Po.bind {α β : Type} {R : β → FH → (Nat → Addr) → Hp → Prop} {E : XK} {r : Rs α} {k : α → FH → Rs β} (h : Po K mg μ n H R E (r.bind k)) :
    Po K mg μ n H (fun a h' μ' H' => Po K mg μ' h'.length H' R E (k a h')) E r := by
  cases r with
  | no => exact h
  | ex x h' => exact h
  | ok a h' =>
    intro μ' H' s hr
    have h2 : Po K mg μ n H R E (k a h') := h
    cases q : k a h' with
    | no => rw [q] at h2; exact h2
    | ex x h'' => rw [q] at h2; exact fun μ'' H'' c d s' hr' x' => h2 μ'' H'' c d (s.trans s') hr' x'
    | ok b h'' => rw [q] at h2; exact fun μ'' H'' s' hr' => h2 μ'' H'' (s.trans s') hr'
theorem Po.mono {α : Type} {R R' : α → FH → (Nat → Addr) → Hp → Prop} {E : XK} {r : Rs α} (h : Po K mg μ n H R E r)
    (k : ∀ a h' μ' H', r = .ok a h' → Step μ n H μ' h'.length H' → HR K mg μ' h' H' → R a h' μ' H' → R' a h' μ' H') : Po K mg μ n H R' E r := by
  cases r with
  | no => exact h
  | ex x h' => exact h
  | ok a h' => exact fun μ' H' s hr => k a h' μ' H' rfl s hr (h μ' H' s hr)
/-- the result stands where it was told -/
theorem Po.here {α : Type} {R : α → FH → (Nat → Addr) → Hp → Prop} {E : XK} {a : α} {h : FH} (hh : n = h.length) (r : HR K mg μ h H) (p : Po K mg μ n H R E (.ok a h)) : R a h μ H := by
  subst hh
  exact p μ H (Step.refl _ _ _) r
end

/-! ### expressions -/
abbrev FE := Sl → FH → Rs RV
/-- f says what e does; W: what is wanted of an error -/
def SE (X : Cx) (W : WX) (e : Expr) (f : FE) : Prop :=
  ∀ μ Γ h σ H Q, SR X.K X.mg μ Γ h σ H → Po X.K X.mg μ h.length H (fun r h' μ' H' => ∀ u, RR X.K H μ' h'.length H' r u → Q u H') (fun c d H' => W c d σ H') (f Γ h) → wE X e σ H Q
abbrev FT := Sl → FH → Rs Bool
def ST (X : Cx) (W : WX) (e : Expr) (f : FT) : Prop :=
  ∀ μ Γ h σ H Q, SR X.K X.mg μ Γ h σ H → Po X.K X.mg μ h.length H (fun b h' μ' H' => Q b H') (fun c d H' => W c d σ H') (f Γ h) → wT X e σ H Q
abbrev FA := Sl → FH → Rs (List FV)
def SA (X : Cx) (W : WX) (es : List Expr) (f : FA) : Prop :=
  ∀ μ Γ h σ H Q, SR X.K X.mg μ Γ h σ H → Po X.K X.mg μ h.length H (fun vs h' μ' H' => ∀ us, VRs X.K H' μ' h'.length vs us → Q us H') (fun c d H' => W c d σ H') (f Γ h) → wA X es σ H Q
end F

/-! F: expressions. -/
namespace F
open PySem PySem.Spec PyProof.Rows L2 G

abbrev LIM : Nat := 1000000
theorem lim_le {n : Nat} (h : n ≤ LIM) : n ≤ sizeLine := Nat.le_trans h (by decide)
theorem lim_lt {n : Nat} (h : n < LIM) : n < sizeLine := Nat.lt_of_lt_of_le h (by decide)
/-- the value in a slot -/
def sg : Sl → Nat → Option FV
  | [], _ => none
  | x :: _, 0 => x
  | _ :: r, i + 1 => sg r i
theorem sg_get : ∀ {Γ : Sl} {i : Nat} {v : FV}, sg Γ i = some v → Γ[i]? = some (some v)
  | [], _, _, h => by cases h
  | x :: _, 0, v, h => by
    have e : x = some v := h
    subst e; rfl
  | _ :: r, i + 1, v, h => by
    rw [List.getElem?_cons_succ]
    exact sg_get (Γ := r) h
def lift {α : Type} : Option α → FH → Rs α
  | some a, h => .ok a h
  | none, _ => .no

/-! ### what stands behind a result -/
def RV.seq : RV → FH → Option (Bool × List FV)
  | .v (.tup ds), _ => some (true, ds)
  | .v (.fl ds), _ => some (false, ds)
  | .v (.ref m), h => match h[m]? with | some (.lst ds) => some (false, ds) | _ => none
  | .l ds, _ => some (false, ds)
  | _, _ => none
/-- .. a list that may be changed or joined -/
def RV.own : RV → FH → Option (List FV)
  | .v (.ref m), h => match h[m]? with | some (.lst ds) => some ds | _ => none
  | .l ds, _ => some ds
  | _, _ => none
def RV.dict : RV → FH → Option (List (Key × FV))
  | .v (.ref m), h => match h[m]? with | some (.dK ds) => some ds | _ => none
  | .d ds, _ => some ds
  | _, _ => none
section
variable {K : PySem.W.Frag} {mg : Str → Option Value} {H H0 H' : Hp} {μ : Nat → Addr} {n : Nat} {h : FH} {x : RV} {u : V} {ds : List FV}
theorem HR.lst {m : Nat} (hr : HR K mg μ h H) (e : h[m]? = some (.lst ds)) : ∃ xs, H (μ m) = some (.lst xs) ∧ VRs K H μ h.length ds xs := hr.at' m _ e
theorem own_ok (hr : HR K mg μ h H) (r : RR K H0 μ h.length H x u) (e : x.own h = some ds) : ∃ a xs, u = .ref a ∧ H a = some (.lst xs) ∧ VRs K H μ h.length ds xs := by
  cases r with
  | v q =>
    cases q with
    | ref l =>
      rename_i i
      have e' : (match h[i]? with | some (.lst ds) => some ds | _ => none) = some ds := e
      split at e'
      · rename_i z zh
        cases e'
        obtain ⟨xs, h1, h2⟩ := hr.lst zh
        exact ⟨_, xs, rfl, h1, h2⟩
      · cases e'
    | _ => cases e
  | l f a b =>
    have e' := Option.some.inj (show some _ = some ds from e)
    subst e'
    exact ⟨_, _, rfl, a, b⟩
  | d f a b => cases e
def RV.dictL : RV → FH → Option (List (Key × FV))
  | .v (.ref m), h => match h[m]? with | some (.dK ds) => some ds | some (.lk ds) => some ds | _ => none
  | .d ds, _ => some ds
  | _, _ => none
theorem dictL_ok {kvs : List (Key × FV)} (hr : HR K mg μ h H) (r : RR K H0 μ h.length H x u) (e : x.dictL h = some kvs) : ∃ a ws, u = .ref a ∧ Rd H a (.dK ws) ∧ KvR K H μ h.length kvs ws := by
  cases r with
  | v q =>
    cases q with
    | ref l =>
      rename_i i
      have e' : (match h[i]? with | some (.dK ds) => some ds | some (.lk ds) => some ds | _ => none) = some kvs := e
      split at e'
      · rename_i z zh
        cases e'
        obtain ⟨xs, h1, h2⟩ := hr.at' i _ zh
        exact ⟨_, xs, rfl, .inl h1, h2⟩
      · rename_i z zh
        cases e'
        obtain ⟨xs, od, h1, h2⟩ := hr.at' i _ zh
        exact ⟨_, xs, rfl, .inr ⟨od, h1⟩, h2⟩
      · cases e'
    | _ => cases e
  | d f a b =>
    have e' := Option.some.inj (show some _ = some kvs from e)
    subst e'
    exact ⟨_, _, rfl, .inl a, b⟩
  | l f a b => cases e
theorem dict_ok {kvs : List (Key × FV)} (hr : HR K mg μ h H) (r : RR K H0 μ h.length H x u) (e : x.dict h = some kvs) : ∃ a ws, u = .ref a ∧ H a = some (.dK ws) ∧ KvR K H μ h.length kvs ws := by
  cases r with
  | v q =>
    cases q with
    | ref l =>
      rename_i i
      have e' : (match h[i]? with | some (.dK ds) => some ds | _ => none) = some kvs := e
      split at e'
      · rename_i z zh
        cases e'
        obtain ⟨xs, h1, h2⟩ := hr.at' i _ zh
        exact ⟨_, xs, rfl, h1, h2⟩
      · cases e'
    | _ => cases e
  | d f a b =>
    have e' := Option.some.inj (show some _ = some kvs from e)
    subst e'
    exact ⟨_, _, rfl, a, b⟩
  | l f a b => cases e
theorem seq_ok {b : Bool} (hr : HR K mg μ h H) (r : RR K H0 μ h.length H x u) (e : x.seq h = some (b, ds)) : ∃ a xs, u = .ref a ∧ VRs K H μ h.length ds xs ∧ (if b = true then SqT K H a xs else SqL K H a xs) := by
  cases r with
  | v q =>
    cases q with
    | tup a c =>
      have e' := Option.some.inj (show some (true, _) = some (b, ds) from e)
      cases e'
      exact ⟨_, _, rfl, c, by rw [if_pos rfl]; exact a⟩
    | fl a c =>
      have e' := Option.some.inj (show some (false, _) = some (b, ds) from e)
      cases e'
      exact ⟨_, _, rfl, c, by rw [if_neg (by decide)]; exact a.sqL⟩
    | ref l =>
      rename_i i
      have e' : (match h[i]? with | some (.lst ds) => some (false, ds) | _ => none) = some (b, ds) := e
      split at e'
      · rename_i z zh
        cases e'
        obtain ⟨xs, h1, h2⟩ := hr.lst zh
        exact ⟨_, xs, rfl, h2, by rw [if_neg (by decide)]; exact SqL.of h1⟩
      · cases e'
    | _ => cases e
  | l f a c =>
    have e' := Option.some.inj (show some (false, _) = some (b, ds) from e)
    cases e'
    exact ⟨_, _, rfl, c, by rw [if_neg (by decide)]; exact SqL.of a⟩
  | d f a c => cases e
theorem seqL_ok (hr : HR K mg μ h H) (r : RR K H0 μ h.length H x u) (e : x.seq h = some (false, ds)) : ∃ a xs, u = .ref a ∧ VRs K H μ h.length ds xs ∧ SqL K H a xs := by
  obtain ⟨a, xs, h1, h2, h3⟩ := seq_ok hr r e
  exact ⟨a, xs, h1, h2, by rw [if_neg (by decide)] at h3; exact h3⟩
theorem seqT_ok (hr : HR K mg μ h H) (r : RR K H0 μ h.length H x u) (e : x.seq h = some (true, ds)) : ∃ a xs, u = .ref a ∧ VRs K H μ h.length ds xs ∧ SqT K H a xs := by
  obtain ⟨a, xs, h1, h2, h3⟩ := seq_ok hr r e
  exact ⟨a, xs, h1, h2, by rw [if_pos rfl] at h3; exact h3⟩
theorem seqE_ok {b : Bool} (hr : HR K mg μ h H) (r : RR K H0 μ h.length H x u) (e : x.seq h = some (b, ds)) : ∃ a xs, u = .ref a ∧ VRs K H μ h.length ds xs ∧ (SqL K H a xs ∨ SqT K H a xs) := by
  cases b with
  | true => obtain ⟨a, xs, h1, h2, h3⟩ := seqT_ok hr r e; exact ⟨a, xs, h1, h2, .inr h3⟩
  | false => obtain ⟨a, xs, h1, h2, h3⟩ := seqL_ok hr r e; exact ⟨a, xs, h1, h2, .inl h3⟩
/-- a new tuple, a new list -/
theorem VRs.same (e : Same H H') {vs : List V} (q : VRs K H μ n ds vs) : VRs K H' μ n ds vs := VRs.mono (Same.gw e) (fun _ _ => rfl) (Nat.le_refl _) _ _ q
theorem VR.same {d : FV} {v : V} (e : Same H H') (q : VR K H μ n d v) : VR K H' μ n d v := VR.mono (Same.gw e) (fun _ _ => rfl) (Nat.le_refl _) _ _ q
theorem rr_tup {p : Addr} {xs : List V} (hp : H p = none) (q : VRs K H μ n ds xs) : RR K H0 μ n (upd H p (.tup xs)) (.v (.tup ds)) (.ref p) := .v (.tup (.inl (.inl upd_same)) (q.same (same_new hp)))
theorem rr_lst {p : Addr} {xs : List V} (hr : HR K mg μ h H) (th : ∀ a, H0 a ≠ none → H a ≠ none) (hp : H p = none) (q : VRs K H μ h.length ds xs) : RR K H0 μ h.length (upd H p (.lst xs)) (.l ds) (.ref p) := by
  refine .l ⟨?_, fun i hi z => hr.cls hi (by rw [z]; exact hp)⟩ upd_same (q.same (same_new hp))
  cases e : H0 p with
  | none => rfl
  | some o => exact absurd hp (th p (by rw [e]; exact fun z => nomatch z))
end

section
variable {X : Cx} {W : WX} {e a b c : Expr} {es : List Expr} {pos p0 : Pos} {fa fb fc : FE}
theorem Po.lift {α : Type} {K : PySem.W.Frag} {mg : Str → Option Value} {μ : Nat → Addr} {n : Nat} {H : Hp} {R : α → FH → (Nat → Addr) → Hp → Prop} {E : XK} {o : Option α} {h : FH}
    (p : Po K mg μ n H R E (lift o h)) : ∃ x, o = some x ∧ Po K mg μ n H R E (.ok x h) := by
  cases o with
  | none => exact p.elim
  | some x => exact ⟨x, rfl, p⟩
/-- from the state behind a step, Same heaps are the end -/
theorem Po.last {α : Type} {K : PySem.W.Frag} {mg : Str → Option Value} {μ : Nat → Addr} {H H' : Hp} {R : α → FH → (Nat → Addr) → Hp → Prop} {E : XK} {x : α} {h : FH}
    (p : Po K mg μ h.length H R E (.ok x h)) (hr : HR K mg μ h H) (s : Same H H') : R x h μ H' := p μ H' (Step.same s) (hr.same s)

/-! ### names, constants -/
def fVar (i : Nat) : FE := fun Γ h => match sg Γ i with | some v => .ok (.v v) h | none => .no
theorem se_var (i : Nat) {x : Str} (hN : X.N[i]? = some x := by rfl) (hv : Vis X.env.scope x := by first | exact Or.inl rfl | exact Or.inr (Or.inl rfl) | exact Or.inr (Or.inr rfl)) (hd : (x == ("__debug__" : Str)) = false := by decide)
    (hcd : (x == ("__classdict__" : Str)) = false := by decide) : SE X W (.Name x pos) (fVar i) := fun μ Γ h σ H Q r p => by
  unfold fVar at p
  cases q : sg Γ i with
  | none => rw [q] at p; exact p.elim
  | some v =>
    rw [q] at p
    obtain ⟨u, h1, h2⟩ := r.sl i v (sg_get q)
    exact wE.of (pe_var hN hv hd hcd) ⟨u, h1, p.last r.hr (Same.refl H) u (.v h2)⟩
def fC (v : FV) : FE := fun _ h => .ok (.v v) h
theorem se_int {i : Int} {j} : SE X W (.Constant (.int i) j pos) (fC (.int i)) := fun μ Γ h σ H Q r p => wE.of pe_int (Po.last p r.hr (Same.refl H) _ (.v (.int i)))
theorem se_str {i : Str} {j} : SE X W (.Constant (.str i) j pos) (fC (.str i)) := fun μ Γ h σ H Q r p => wE.of pe_str (Po.last p r.hr (Same.refl H) _ (.v (.str i)))
theorem se_bl {i : Bool} {j} : SE X W (.Constant (.bool i) j pos) (fC (.bl i)) := fun μ Γ h σ H Q r p => wE.of pe_bl (Po.last p r.hr (Same.refl H) _ (.v (.bl i)))
theorem se_non {j} : SE X W (.Constant .none j pos) (fC .non) := fun μ Γ h σ H Q r p => wE.of pe_non (Po.last p r.hr (Same.refl H) _ (.v .non))
/-- a module's constant -/
structure GC (K : PySem.W.Frag) (mg : Str → Option Value) (x : Str) (v : FV) : Prop where
  ex : ∃ u w, mg x = some u ∧ RelV w u ∧ ∀ H μ n, VR K H μ n v w
theorem se_glob {x : Str} {v : FV} (g : GC X.K X.mg x v) (hg : Gl X x := by rfl) (hd : (x == ("__debug__" : Str)) = false := by decide) : SE X W (.Name x pos) (fC v) := fun μ Γ h σ H Q r p => by
  obtain ⟨u, w, h1, h2, h3⟩ := g.ex
  exact wE.of (pe_glob hg h1 h2 hd) (Po.last p r.hr (Same.refl H) _ (.v (h3 H μ h.length)))

/-! ### operators -/
/-- g says what the operator with the reading r gives -/
def OpOk (X : Cx) (r : R2) (g : RV → RV → FH → Option RV) : Prop :=
  ∀ μ h H0 H x y u v (Q : VK) z, HR X.K X.mg μ h H → (∀ a, H0 a ≠ none → H a ≠ none) → RR X.K H0 μ h.length H x u → RR X.K H0 μ h.length H y v → g x y h = some z →
    (∀ w H', Same H H' → RR X.K H0 μ h.length H' z w → Q w H') → r u v H Q
def fBin (g : RV → RV → FH → Option RV) (fa fb : FE) : FE := fun Γ h => (fa Γ h).bind fun x h1 => (fb Γ h1).bind fun y h2 => lift (g x y h2) h2
theorem se_bin {op : Operator} {r : R2} {g : RV → RV → FH → Option RV} (ho : OpR X (binaryOp op) r) (hg : OpOk X r g) (ha : SE X W a fa) (hb : SE X W b fb) : SE X W (.BinOp a op b pos) (fBin g fa fb) := fun μ Γ h σ H Q s p =>
  wE.of (pe_op ho pe_w pe_w) (ha μ Γ h σ H _ s (p.bind.mono fun x h1 μ1 H1 _ s1 hr1 p1 u ru =>
    hb μ1 Γ h1 σ H1 _ (s.step s1 hr1) (p1.bind.mono fun y h2 μ2 H2 _ s2 hr2 p2 v rv => by
      obtain ⟨z, hz, p3⟩ := p2.lift
      exact hg μ2 h2 H H2 x y u v Q z hr2 (fun a ha => s2.th a (s1.th a ha)) (ru.step s2) (rv.since s1.th) hz fun w H' e q => p3.last hr2 e w q)))
theorem OpR.or {f : Value → Value → Sem Value} {r1 r2 : R2} (h1 : OpR X f r1) (h2 : OpR X f r2) : OpR X f (fun x y H Q => r1 x y H Q ∨ r2 x y H Q) := by
  intro pins s σ H x y v u Q I rx ry h
  rcases h with h | h
  · exact h1 pins s σ H x y v u Q I rx ry h
  · exact h2 pins s σ H x y v u Q I rx ry h
theorem rr_int {K : PySem.W.Frag} {H0 H : Hp} {μ : Nat → Addr} {n : Nat} {i : Int} {u : V} (r : RR K H0 μ n H (.v (.int i)) u) : u = .int i := by
  cases r with | v q => cases q; rfl
theorem rr_str {K : PySem.W.Frag} {H0 H : Hp} {μ : Nat → Addr} {n : Nat} {i : Str} {u : V} (r : RR K H0 μ n H (.v (.str i)) u) : u = .str i := by
  cases r with | v q => cases q; rfl
theorem rr_bl {K : PySem.W.Frag} {H0 H : Hp} {μ : Nat → Addr} {n : Nat} {i : Bool} {u : V} (r : RR K H0 μ n H (.v (.bl i)) u) : u = .bl i := by
  cases r with | v q => cases q; rfl
theorem rr_non {K : PySem.W.Frag} {H0 H : Hp} {μ : Nat → Addr} {n : Nat} {u : V} (r : RR K H0 μ n H (.v .non) u) : u = .non := by
  cases r with | v q => cases q; rfl
/-- ints -/
def gI (c : Int → Int → Option Int) : RV → RV → FH → Option RV
  | .v (.int i), .v (.int j), _ => (c i j).map fun k => .v (.int k)
  | _, _, _ => none
theorem gI_inv {c : Int → Int → Option Int} {x y : RV} {h : FH} {z : RV} (e : gI c x y h = some z) : ∃ i j k, x = .v (.int i) ∧ y = .v (.int j) ∧ c i j = some k ∧ z = .v (.int k) := by
  unfold gI at e
  split at e
  · rename_i i j
    cases q : c i j with
    | none => rw [q] at e; cases e
    | some k => rw [q] at e; cases e; exact ⟨i, j, k, rfl, rfl, q, rfl⟩
  · cases e
theorem se_sub (ha : SE X W a fa) (hb : SE X W b fb) : SE X W (.BinOp a .Sub b pos) (fBin (gI fun i j => some (i - j)) fa fb) :=
  se_bin op_sub (fun μ h H0 H x y u v Q z hr th rx ry e k => by
    obtain ⟨i, j, l, rfl, rfl, e1, rfl⟩ := gI_inv e
    cases e1
    exact ⟨i, j, rr_int rx, rr_int ry, k _ _ (Same.refl _) (.v (.int _))⟩) ha hb
instance {i j : Int} : Decidable (CMul i j) := by unfold CMul; infer_instance
instance {i j : Int} : Decidable (CDiv i j) := by unfold CDiv; infer_instance
instance {i j : Int} : Decidable (CPow i j) := by unfold CPow; infer_instance
def cMul (i j : Int) : Option Int := if CMul i j then some (i * j) else none
def cMod (i j : Int) : Option Int := if 0 < j then some (i % j) else none
def cDiv (i j : Int) : Option Int := if CDiv i j then some (i / j) else none
def cPow (i j : Int) : Option Int := if CPow i j then some (i ^ j.toNat) else none
theorem se_mod (ha : SE X W a fa) (hb : SE X W b fb) : SE X W (.BinOp a .Mod b pos) (fBin (gI cMod) fa fb) :=
  se_bin op_mod (fun μ h H0 H x y u v Q z hr th rx ry e k => by
    obtain ⟨i, j, l, rfl, rfl, e1, rfl⟩ := gI_inv e
    unfold cMod at e1
    split at e1
    · cases e1
      exact ⟨i, j, rr_int rx, rr_int ry, by assumption, k _ _ (Same.refl _) (.v (.int _))⟩
    · cases e1) ha hb
theorem se_div (ha : SE X W a fa) (hb : SE X W b fb) : SE X W (.BinOp a .FloorDiv b pos) (fBin (gI cDiv) fa fb) :=
  se_bin op_fdiv (fun μ h H0 H x y u v Q z hr th rx ry e k => by
    obtain ⟨i, j, l, rfl, rfl, e1, rfl⟩ := gI_inv e
    unfold cDiv at e1
    split at e1
    · cases e1
      exact ⟨i, j, rr_int rx, rr_int ry, by assumption, k _ _ (Same.refl _) (.v (.int _))⟩
    · cases e1) ha hb
theorem se_pow (ha : SE X W a fa) (hb : SE X W b fb) : SE X W (.BinOp a .Pow b pos) (fBin (gI cPow) fa fb) :=
  se_bin op_pow (fun μ h H0 H x y u v Q z hr th rx ry e k => by
    obtain ⟨i, j, l, rfl, rfl, e1, rfl⟩ := gI_inv e
    unfold cPow at e1
    split at e1
    · cases e1
      exact ⟨i, j, rr_int rx, rr_int ry, by assumption, k _ _ (Same.refl _) (.v (.int _))⟩
    · cases e1) ha hb
/-- * of ints; of a list and an int -/
def gMul : RV → RV → FH → Option RV
  | .v (.int i), .v (.int j), _ => (cMul i j).map fun k => .v (.int k)
  | x, .v (.int k), h => match x.own h with
    | some ds => if -(2 ^ 63) ≤ k ∧ k < 2 ^ 63 ∧ ds.length * k.toNat ≤ LIM then some (.l (List.replicate k.toNat ds).flatten) else none
    | none => none
  | _, _, _ => none
def gAdd : RV → RV → FH → Option RV
  | .v (.int i), .v (.int j), _ => some (.v (.int (i + j)))
  | .v (.int i), .v (.bl b), _ => some (.v (.int (i + b2i b)))
  | .v (.str i), .v (.str j), _ => if i.length + j.length ≤ LIM then some (.v (.str (i ++ j))) else none
  | .v (.tup i), .v (.tup j), _ => if i.length + j.length ≤ LIM then some (.v (.tup (i ++ j))) else none
  | x, y, h => match x.own h, y.own h with
    | some i, some j => if i.length + j.length ≤ LIM then some (.l (i ++ j)) else none
    | _, _ => none
theorem se_add (ha : SE X W a fa) (hb : SE X W b fb) : SE X W (.BinOp a .Add b pos) (fBin gAdd fa fb) :=
  se_bin (OpR.or op_add (OpR.or op_add_ib (OpR.or op_add_str (OpR.or op_catA op_cat)))) (fun μ h H0 H x y u v Q z hr th rx ry e k => by
    unfold gAdd at e
    split at e
    · cases e
      exact .inl ⟨_, _, rr_int rx, rr_int ry, k _ _ (Same.refl _) (.v (.int _))⟩
    · cases e
      exact .inr (.inl ⟨_, _, rr_int rx, rr_bl ry, k _ _ (Same.refl _) (.v (.int _))⟩)
    · split at e
      · cases e
        exact .inr (.inr (.inl ⟨_, _, rr_str rx, rr_str ry, lim_le (by assumption), k _ _ (Same.refl _) (.v (.str _))⟩))
      · cases e
    · rename_i ds1 ds2
      split at e
      · rename_i hl
        cases e
        obtain ⟨p, xs, rfl, hx, hp⟩ := seqT_ok hr rx rfl
        obtain ⟨q, ys, rfl, hy, hq⟩ := seqT_ok hr ry rfl
        refine .inr (.inr (.inr (.inl ⟨p, q, xs, ys, rfl, rfl, hp, hq, by rw [hx.len, hy.len]; exact lim_le hl, fun e => ?_, fun _ e => ?_, fun _ _ p' hp' => ?_⟩)))
        · subst e
          have e0 : ds1 = [] := by cases hx; rfl
          subst e0
          exact k _ _ (Same.refl _) (.v (.tup hq hy))
        · subst e
          have e0 : ds2 = [] := by cases hy; rfl
          subst e0
          rw [List.append_nil] at k
          exact k _ _ (Same.refl _) (.v (.tup hp hx))
        · exact k _ _ (same_new hp') (rr_tup hp' (hx.append hy))
      · cases e
    · split at e
      · rename_i i j e1 e2
        split at e
        · rename_i hl
          cases e
          obtain ⟨p, xs, rfl, hp, hx⟩ := own_ok hr rx e1
          obtain ⟨q, ys, rfl, hq, hy⟩ := own_ok hr ry e2
          exact .inr (.inr (.inr (.inr ⟨p, q, xs, ys, rfl, rfl, hp, hq, by rw [hx.len, hy.len]; exact lim_le hl, fun r hrf => k _ _ (same_new hrf) (rr_lst hr th hrf (hx.append hy))⟩)))
        · cases e
      · cases e) ha hb
theorem VRs.rep {K : PySem.W.Frag} {H : Hp} {μ : Nat → Addr} {n : Nat} {ds : List FV} {xs : List V} (q : VRs K H μ n ds xs) : ∀ k : Nat, VRs K H μ n (List.replicate k ds).flatten (List.replicate k xs).flatten
  | 0 => .nil
  | k + 1 => by
    rw [List.replicate_succ, List.replicate_succ, List.flatten_cons, List.flatten_cons]
    exact q.append (VRs.rep q k)
theorem se_mul (ha : SE X W a fa) (hb : SE X W b fb) : SE X W (.BinOp a .Mult b pos) (fBin gMul fa fb) :=
  se_bin (OpR.or op_mul op_rep) (fun μ h H0 H x y u v Q z hr th rx ry e k => by
    unfold gMul at e
    split at e
    · rename_i i j
      unfold cMul at e
      by_cases hc : CMul i j
      · rw [if_pos hc] at e
        cases e
        exact .inl ⟨_, _, rr_int rx, rr_int ry, hc, k _ _ (Same.refl _) (.v (.int _))⟩
      · rw [if_neg hc] at e; cases e
    · split at e
      · rename_i ds e1
        split at e
        · rename_i hc
          cases e
          obtain ⟨p, xs, rfl, hp, hx⟩ := own_ok hr rx e1
          have := hx.len
          exact .inr ⟨p, _, xs, rfl, rr_int ry, hp, hc.1, hc.2.1, by rw [hx.len]; exact lim_le hc.2.2, fun r hrf => k _ _ (same_new hrf) (rr_lst hr th hrf (hx.rep _))⟩
        · cases e
      · cases e
    · cases e) ha hb
def UnOk (X : Cx) (r : V → Hp → VK → Prop) (g : RV → FH → Option RV) : Prop :=
  ∀ μ h H0 H x u (Q : VK) z, HR X.K X.mg μ h H → (∀ a, H0 a ≠ none → H a ≠ none) → RR X.K H0 μ h.length H x u → g x h = some z → (∀ w H', Same H H' → RR X.K H0 μ h.length H' z w → Q w H') → r u H Q
def fUn (g : RV → FH → Option RV) (fa : FE) : FE := fun Γ h => (fa Γ h).bind fun x h1 => lift (g x h1) h1
def gNeg : RV → FH → Option RV
  | .v (.int i), _ => some (.v (.int (-i)))
  | _, _ => none
theorem se_neg (ha : SE X W a fa) : SE X W (.UnaryOp .USub a pos) (fUn gNeg fa) := fun μ Γ h σ H Q s p =>
  wE.of (pe_un un_neg pe_w) (ha μ Γ h σ H _ s (p.bind.mono fun x h1 μ1 H1 _ s1 hr1 p1 u ru => by
    obtain ⟨z, hz, p2⟩ := p1.lift
    unfold gNeg at hz
    split at hz
    · cases hz
      exact ⟨_, rr_int ru, p2.last hr1 (Same.refl _) _ (.v (.int _))⟩
    · cases hz))

/-! ### comparisons -/
def CmpOk (X : Cx) (r : R2) (g : RV → RV → FH → Option Bool) : Prop :=
  ∀ μ h H0 H x y u v (Q : VK) z, HR X.K X.mg μ h H → RR X.K H0 μ h.length H x u → RR X.K H0 μ h.length H y v → g x y h = some z → (∀ H', Same H H' → Q (.bl z) H') → r u v H Q
def fCmp (g : RV → RV → FH → Option Bool) (fa fb : FE) : FT := fun Γ h => (fa Γ h).bind fun x h1 => (fb Γ h1).bind fun y h2 => lift (g x y h2) h2
/-- a test as a value -/
def fBl (t : FT) : FE := fun Γ h => (t Γ h).bind fun b h1 => .ok (.v (.bl b)) h1
theorem Po.bl {K : PySem.W.Frag} {mg : Str → Option Value} {μ : Nat → Addr} {n : Nat} {H : Hp} {R : RV → FH → (Nat → Addr) → Hp → Prop} {E : XK} {r : Rs Bool} (p : Po K mg μ n H R E (r.bind fun b h1 => .ok (.v (.bl b)) h1)) :
    Po K mg μ n H (fun b h' μ' H' => R (.v (.bl b)) h' μ' H') E r := by
  cases r with
  | no => exact p
  | ex x h' => exact p
  | ok b h' => exact p
theorem st_cmp {op : CmpOp} {r : R2} {g : RV → RV → FH → Option Bool} (ho : OpR X (compareOp op) r) (hg : CmpOk X r g) (ha : SE X W a fa) (hb : SE X W b fb) (hm : behindInMarks op b = false) : ST X W (.Compare a [op] [b] pos) (fCmp g fa fb) := fun μ Γ h σ H Q s p =>
  wT.of (pt_cmpR ho pe_w pe_w hm) (ha μ Γ h σ H _ s (p.bind.mono fun x h1 μ1 H1 _ s1 hr1 p1 u ru =>
    hb μ1 Γ h1 σ H1 _ (s.step s1 hr1) (p1.bind.mono fun y h2 μ2 H2 _ s2 hr2 p2 v rv => by
      obtain ⟨z, hz, p3⟩ := p2.lift
      exact hg μ2 h2 H H2 x y u v _ z hr2 (ru.step s2) (rv.since s1.th) hz fun H' e => ⟨z, rfl, p3.last hr2 e⟩)))
theorem se_cmp {op : CmpOp} {r : R2} {g : RV → RV → FH → Option Bool} (ho : OpR X (compareOp op) r) (hg : CmpOk X r g) (ha : SE X W a fa) (hb : SE X W b fb) (hm : behindInMarks op b = false) : SE X W (.Compare a [op] [b] pos) (fBl (fCmp g fa fb)) := fun μ Γ h σ H Q s p =>
  wE.of (pe_cmpR ho pe_w pe_w hm) (ha μ Γ h σ H _ s (p.bl.bind.mono fun x h1 μ1 H1 _ s1 hr1 p1 u ru =>
    hb μ1 Γ h1 σ H1 _ (s.step s1 hr1) (p1.bind.mono fun y h2 μ2 H2 _ s2 hr2 p2 v rv => by
      obtain ⟨z, hz, p3⟩ := p2.lift
      exact hg μ2 h2 H H2 x y u v _ z hr2 (ru.step s2) (rv.since s1.th) hz fun H' e => p3.last hr2 e _ (.v (.bl z)))))
/-! order: ints; texts (below only) -/
def gOrd (f : Int → Int → Bool) : RV → RV → FH → Option Bool
  | .v (.int i), .v (.int j), _ => some (f i j)
  | _, _, _ => none
theorem ord_ok {f : Int → Int → Bool} : CmpOk X (rI0 fun i j => .bl (f i j)) (gOrd f) := fun μ h H0 H x y u v Q z hr rx ry e k => by
  unfold gOrd at e
  split at e
  · cases e
    exact ⟨_, _, rr_int rx, rr_int ry, k _ (Same.refl _)⟩
  · cases e
def gLt : RV → RV → FH → Option Bool
  | .v (.int i), .v (.int j), _ => some (decide (i < j))
  | .v (.str i), .v (.str j), _ => some (decide (i.cps.toList < j.cps.toList))
  | _, _, _ => none
theorem lt_ok : CmpOk X (fun x y H Q => rI0 (fun i j => .bl (decide (i < j))) x y H Q ∨ ∃ i j, x = .str i ∧ y = .str j ∧ Q (.bl (decide (i.cps.toList < j.cps.toList))) H) gLt := fun μ h H0 H x y u v Q z hr rx ry e k => by
  unfold gLt at e
  split at e
  · cases e
    exact .inl ⟨_, _, rr_int rx, rr_int ry, k _ (Same.refl _)⟩
  · cases e
    exact .inr ⟨_, _, rr_str rx, rr_str ry, k _ (Same.refl _)⟩
  · cases e
section
variable (ha : SE X W a fa) (hb : SE X W b fb)
theorem st_lt (ha : SE X W a fa) (hb : SE X W b fb) : ST X W (.Compare a [.Lt] [b] pos) (fCmp gLt fa fb) := st_cmp (OpR.or op_lt op_lt_str) lt_ok ha hb (nomark _)
theorem st_le (ha : SE X W a fa) (hb : SE X W b fb) : ST X W (.Compare a [.LtE] [b] pos) (fCmp (gOrd fun i j => decide (i ≤ j)) fa fb) := st_cmp op_le ord_ok ha hb (nomark _)
theorem st_gt (ha : SE X W a fa) (hb : SE X W b fb) : ST X W (.Compare a [.Gt] [b] pos) (fCmp (gOrd fun i j => decide (j < i)) fa fb) := st_cmp op_gt ord_ok ha hb (nomark _)
theorem st_ge (ha : SE X W a fa) (hb : SE X W b fb) : ST X W (.Compare a [.GtE] [b] pos) (fCmp (gOrd fun i j => decide (j ≤ i)) fa fb) := st_cmp op_ge ord_ok ha hb (nomark _)
theorem se_lt (ha : SE X W a fa) (hb : SE X W b fb) : SE X W (.Compare a [.Lt] [b] pos) (fBl (fCmp gLt fa fb)) := se_cmp (OpR.or op_lt op_lt_str) lt_ok ha hb (nomark _)
theorem se_le (ha : SE X W a fa) (hb : SE X W b fb) : SE X W (.Compare a [.LtE] [b] pos) (fBl (fCmp (gOrd fun i j => decide (i ≤ j)) fa fb)) := se_cmp op_le ord_ok ha hb (nomark _)
theorem se_gt (ha : SE X W a fa) (hb : SE X W b fb) : SE X W (.Compare a [.Gt] [b] pos) (fBl (fCmp (gOrd fun i j => decide (j < i)) fa fb)) := se_cmp op_gt ord_ok ha hb (nomark _)
theorem se_ge (ha : SE X W a fa) (hb : SE X W b fb) : SE X W (.Compare a [.GtE] [b] pos) (fBl (fCmp (gOrd fun i j => decide (j ≤ i)) fa fb)) := se_cmp op_ge ord_ok ha hb (nomark _)
end
/-! is None -/
def gIsN (neg : Bool) : RV → RV → FH → Option Bool
  | .v .non, .v .non, _ => some (!neg)
  | .v _, .v .non, _ => some neg
  | _, _, _ => none
theorem isN_ok : CmpOk X (fun x y H Q => y = .non ∧ Q (.bl (decide (x = .non))) H) (gIsN false) := fun μ h H0 H x y u v Q z hr rx ry e k => by
  unfold gIsN at e
  split at e
  · cases e
    refine ⟨rr_non ry, ?_⟩
    rw [rr_non rx]
    exact k _ (Same.refl _)
  · rename_i x' _ hx'
    cases e
    refine ⟨rr_non ry, ?_⟩
    have : u ≠ .non := fun z => by
      subst z
      cases rx with | v q => cases q; exact hx' rfl
    rw [decide_eq_false this]
    exact k _ (Same.refl _)
  · cases e
theorem notN_ok : CmpOk X (fun x y H Q => y = .non ∧ Q (.bl (!decide (x = .non))) H) (gIsN true) := fun μ h H0 H x y u v Q z hr rx ry e k => by
  unfold gIsN at e
  split at e
  · cases e
    refine ⟨rr_non ry, ?_⟩
    rw [rr_non rx]
    exact k _ (Same.refl _)
  · rename_i x' _ hx'
    cases e
    refine ⟨rr_non ry, ?_⟩
    have : u ≠ .non := fun z => by
      subst z
      cases rx with | v q => cases q; exact hx' rfl
    rw [decide_eq_false this]
    exact k _ (Same.refl _)
  · cases e
theorem st_isN (ha : SE X W a fa) (hb : SE X W b fb) : ST X W (.Compare a [.Is] [b] pos) (fCmp (gIsN false) fa fb) := st_cmp op_isN isN_ok ha hb (nomark _)
theorem st_notN (ha : SE X W a fa) (hb : SE X W b fb) : ST X W (.Compare a [.IsNot] [b] pos) (fCmp (gIsN true) fa fb) := st_cmp op_notN notN_ok ha hb (nomark _)
theorem se_isN (ha : SE X W a fa) (hb : SE X W b fb) : SE X W (.Compare a [.Is] [b] pos) (fBl (fCmp (gIsN false) fa fb)) := se_cmp op_isN isN_ok ha hb (nomark _)
theorem se_notN (ha : SE X W a fa) (hb : SE X W b fb) : SE X W (.Compare a [.IsNot] [b] pos) (fBl (fCmp (gIsN true) fa fb)) := se_cmp op_notN notN_ok ha hb (nomark _)
end
end F

/-! F: data, ==, in, tests, arguments, displays, subscripts, slices, built-ins of one argument. -/
namespace F
open PySem PySem.Spec PyProof.Rows L2 G

/-! ### data -/
mutual
def FV.py : FV → PyData
  | .non => .none
  | .bl b => .bool b
  | .int i => .int i
  | .str x => .str x
  | .tup xs => .tuple (FV.pys xs)
  | .fl xs => .list (FV.pys xs)
  | .ref _ => .none
def FV.pys : List FV → List PyData
  | [] => []
  | x :: xs => x.py :: FV.pys xs
end
mutual
def FV.pure : FV → Bool
  | .ref _ => false
  | .tup xs => FV.pures xs
  | .fl xs => FV.pures xs
  | _ => true
def FV.pures : List FV → Bool
  | [] => true
  | x :: xs => x.pure && FV.pures xs
end
section
variable {K : PySem.W.Frag} {mg : Str → Option Value} {H H0 : Hp} {μ : Nat → Addr} {n : Nat} {h : FH}
mutual
theorem VR.dp : ∀ {d : FV} {v : V}, d.pure = true → VR K H μ n d v → Dp K H v d.py
  | .non, _, _, r => by cases r; simp only [FV.py]; exact .non
  | .bl b, _, _, r => by cases r; simp only [FV.py]; exact .bl b
  | .int i, _, _, r => by cases r; simp only [FV.py]; exact .int i
  | .str x, _, _, r => by cases r; simp only [FV.py]; exact .str x
  | .tup ds, _, p, r => by
    cases r with
    | tup a b =>
      simp only [FV.py]
      exact .tup a (VRs.dp (by simpa [FV.pure] using p) b)
  | .fl ds, _, p, r => by
    cases r with
    | fl a b =>
      simp only [FV.py]
      exact .lst a.sqL (VRs.dp (by simpa [FV.pure] using p) b)
  | .ref i, _, p, r => by simp [FV.pure] at p
theorem VRs.dp : ∀ {ds : List FV} {vs : List V}, FV.pures ds = true → VRs K H μ n ds vs → DpAll K H vs (FV.pys ds)
  | [], _, _, r => by cases r; simp only [FV.pys]; exact .nil
  | d :: ds, _, p, r => by
    cases r with
    | cons a b =>
      have p' : d.pure = true ∧ FV.pures ds = true := by simpa [FV.pures] using p
      simp only [FV.pys]
      exact .cons (VR.dp p'.1 a) (VRs.dp p'.2 b)
end
mutual
theorem FV.py_plain : ∀ {d : FV}, d.py.plain = true
  | .non => by simp [FV.py, PyData.plain]
  | .bl b => by simp [FV.py, PyData.plain]
  | .int i => by simp [FV.py, PyData.plain]
  | .str x => by simp [FV.py, PyData.plain]
  | .tup ds => by simpa [FV.py, PyData.plain] using FV.pys_plain (ds := ds)
  | .fl ds => by simpa [FV.py, PyData.plain] using FV.pys_plain (ds := ds)
  | .ref i => by simp [FV.py, PyData.plain]
theorem FV.pys_plain : ∀ {ds : List FV}, PyData.plainAll (FV.pys ds) = true
  | [] => by simp [FV.pys, PyData.plainAll]
  | d :: ds => by simp [FV.pys, PyData.plainAll, FV.py_plain (d := d), FV.pys_plain (ds := ds)]
end
/-- data that a result is -/
def RV.dat : RV → FH → Option PyData
  | .v (.ref m), h => match h[m]? with | some (.lst ds) => if FV.pures ds = true then some (.list (FV.pys ds)) else none | _ => none
  | .v x, _ => if x.pure = true then some x.py else none
  | .l ds, _ => if FV.pures ds = true then some (.list (FV.pys ds)) else none
  | _, _ => none
theorem dat_ok {x : RV} {u : V} {d : PyData} (hr : HR K mg μ h H) (r : RR K H0 μ h.length H x u) (e : x.dat h = some d) : Dp K H u d ∧ d.plain = true := by
  unfold RV.dat at e
  split at e
  · rename_i m h'
    split at e
    · rename_i ds q
      split at e
      · rename_i hp
        cases e
        obtain ⟨xs, h1, h2⟩ := hr.lst q
        cases r with
        | v r' =>
          cases r' with
          | ref l => exact ⟨.lst (SqL.of h1) (h2.dp hp), by simpa [PyData.plain] using FV.pys_plain⟩
      · cases e
    · cases e
  · split at e
    · rename_i hp
      cases e
      cases r with
      | v r' => exact ⟨r'.dp hp, FV.py_plain⟩
    · cases e
  · split at e
    · rename_i hp
      cases e
      cases r with
      | l f a b => exact ⟨.lst (SqL.of a) (b.dp hp), by simpa [PyData.plain] using FV.pys_plain⟩
    · cases e
  · cases e
end

section
variable {X : Cx} {W : WX} {e a b c : Expr} {es : List Expr} {pos p0 p1 p2 : Pos} {fa fb fc : FE} {k : Nat}
/-! ### ==, != -/
def rEqG (K : PySem.W.Frag) (neg : Bool) : R2 := fun x y H Q => ∃ d e, Dp K H x d ∧ Dp K H y e ∧ d.plain = true ∧ e.plain = true ∧ min d.depth e.depth ≤ 64 ∧ Q (.bl (if neg then !PyData.eqv d e else PyData.eqv d e)) H
theorem op_eqG (hu : X.A.units + 64 < cLine) : OpR X (compareOp .Eq) (rEqG X.K false) := by
  intro pins s σ H x y v u Q I rx ry h
  obtain ⟨d, e, hd, he, pd, pe, sd, q⟩ := h
  obtain ⟨as, r1⟩ := Dp.reads I d x v hd rx
  obtain ⟨bs, r2⟩ := Dp.reads I e y u he ry
  exact SeqAt.eq_plain r1 r2 pd pe (by omega) ⟨.bl _, H, I, rfl, q⟩
theorem op_neG (hu : X.A.units + 64 < cLine) : OpR X (compareOp .NotEq) (rEqG X.K true) := by
  intro pins s σ H x y v u Q I rx ry h
  obtain ⟨d, e, hd, he, pd, pe, sd, q⟩ := h
  obtain ⟨as, r1⟩ := Dp.reads I d x v hd rx
  obtain ⟨bs, r2⟩ := Dp.reads I e y u he ry
  exact SeqAt.ne_plain r1 r2 pd pe (by omega) ⟨.bl _, H, I, rfl, q⟩
def gEq (neg : Bool) (x y : RV) (h : FH) : Option Bool := match x.dat h, y.dat h with
  | some d, some e => if min d.depth e.depth ≤ 64 then some (if neg then !PyData.eqv d e else PyData.eqv d e) else none
  | _, _ => none
theorem eq_ok {neg : Bool} : CmpOk X (rEqG X.K neg) (gEq neg) := fun μ h H0 H x y u v Q z hr rx ry e k => by
  unfold gEq at e
  split at e
  · rename_i d d' e1 e2
    split at e
    · rename_i hd
      cases e
      obtain ⟨a1, a2⟩ := dat_ok hr rx e1
      obtain ⟨b1, b2⟩ := dat_ok hr ry e2
      exact ⟨d, d', a1, b1, a2, b2, hd, k H (Same.refl H)⟩
    · cases e
  · cases e
theorem st_eq (hr : Room k X.A) (ha : SE X W a fa) (hb : SE X W b fb) : ST X W (.Compare a [.Eq] [b] pos) (fCmp (gEq false) fa fb) := st_cmp (op_eqG hr.units) eq_ok ha hb (nomark _)
theorem st_ne (hr : Room k X.A) (ha : SE X W a fa) (hb : SE X W b fb) : ST X W (.Compare a [.NotEq] [b] pos) (fCmp (gEq true) fa fb) := st_cmp (op_neG hr.units) eq_ok ha hb (nomark _)
theorem se_eq (hr : Room k X.A) (ha : SE X W a fa) (hb : SE X W b fb) : SE X W (.Compare a [.Eq] [b] pos) (fBl (fCmp (gEq false) fa fb)) := se_cmp (op_eqG hr.units) eq_ok ha hb (nomark _)
theorem se_ne (hr : Room k X.A) (ha : SE X W a fa) (hb : SE X W b fb) : SE X W (.Compare a [.NotEq] [b] pos) (fBl (fCmp (gEq true) fa fb)) := se_cmp (op_neG hr.units) eq_ok ha hb (nomark _)

/-! ### in -/
def rInG (K : PySem.W.Frag) (neg : Bool) : R2 := fun x y H Q => (∃ d ds b, Dp K H x d ∧ Dp K H y (if b = true then .tuple ds else .list ds) ∧ d.plain = true ∧ PyData.plainAll ds = true ∧ min (PyData.depthAll ds) d.depth ≤ 64 ∧ Q (.bl (if neg then !(ds.any fun z => PyData.eqv z d) else ds.any fun z => PyData.eqv z d)) H) ∨
  ∃ a o, y = .ref a ∧ DGet H a x o ∧ Q (.bl (if neg then !o.isSome else o.isSome)) H
theorem op_inG (hu : X.A.units + 66 < cLine) : OpR X (compareOp .In) (rInG X.K false) := by
  intro pins s σ H x y v u Q I rx ry h
  rcases h with ⟨d, ds, b, hd, he, pd, pe, sd, q⟩ | ⟨a, o, rfl, g, q⟩
  · obtain ⟨as, r1⟩ := Dp.reads I d x v hd rx
    cases b with
    | true =>
      obtain ⟨bs, r2⟩ := Dp.reads I (.tuple ds) y u he ry
      exact SeqAt.in_tuple_data r2 r1 pe pd (by omega) ⟨.bl _, H, I, rfl, q⟩
    | false =>
      obtain ⟨bs, r2⟩ := Dp.reads I (.list ds) y u he ry
      exact SeqAt.in_list_data r2 r1 pe pd (by omega) ⟨.bl _, H, I, rfl, q⟩
  · obtain rfl : u = Value.ref a := ry
    exact d_in (by omega) I g rx fun s3 I3 => ⟨.bl o.isSome, H, I3, rfl, q⟩
theorem op_notInG (hu : X.A.units + 66 < cLine) : OpR X (compareOp .NotIn) (rInG X.K true) := by
  intro pins s σ H x y v u Q I rx ry h
  rcases h with ⟨d, ds, b, hd, he, pd, pe, sd, q⟩ | ⟨a, o, rfl, g, q⟩
  · obtain ⟨as, r1⟩ := Dp.reads I d x v hd rx
    cases b with
    | true =>
      obtain ⟨bs, r2⟩ := Dp.reads I (.tuple ds) y u he ry
      exact SeqAt.notIn_tuple_data r2 r1 pe pd (by omega) ⟨.bl _, H, I, rfl, q⟩
    | false =>
      obtain ⟨bs, r2⟩ := Dp.reads I (.list ds) y u he ry
      exact SeqAt.notIn_list_data r2 r1 pe pd (by omega) ⟨.bl _, H, I, rfl, q⟩
  · obtain rfl : u = Value.ref a := ry
    exact d_notIn (by omega) I g rx fun s3 I3 => ⟨.bl (!o.isSome), H, I3, rfl, q⟩
def FV.key : FV → Option Key
  | .int i => some (.inl i)
  | .str x => some (.inr x)
  | _ => none
def lookK {κ : Type} [DecidableEq κ] (kvs : List (κ × FV)) (k : κ) : Option FV := (kvs.find? fun kv => decide (kv.1 = k)).map (·.2)
theorem KvR.look {κ : Type} [DecidableEq κ] {K : PySem.W.Frag} {H : Hp} {μ : Nat → Addr} {n : Nat} (k : κ) : ∀ {ds : List (κ × FV)} {ws : List (κ × V)}, KvR K H μ n ds ws →
    (match lookK ds k with | some d => ∃ v, valV ws k = some v ∧ VR K H μ n d v | none => valV ws k = none)
  | _, _, .nil => rfl
  | d :: ds, w :: ws, .cons a b => by
    unfold lookK valV
    rw [List.find?_cons, List.find?_cons]
    by_cases e : d.1 = k
    · rw [show decide (d.1 = k) = true from decide_eq_true e, show decide (w.1 = k) = true from decide_eq_true (a.1 ▸ e)]
      exact ⟨w.2, rfl, a.2⟩
    · rw [show decide (d.1 = k) = false from decide_eq_false e, show decide (w.1 = k) = false from decide_eq_false (a.1 ▸ e)]
      exact KvR.look k b
theorem look_some {κ : Type} [DecidableEq κ] {K : PySem.W.Frag} {H : Hp} {μ : Nat → Addr} {n : Nat} {k : κ} {ds : List (κ × FV)} {ws : List (κ × V)} {d : FV} (r : KvR K H μ n ds ws) (e : lookK ds k = some d) : ∃ v, valV ws k = some v ∧ VR K H μ n d v := by
  have := r.look k
  rw [e] at this; exact this
theorem look_none {κ : Type} [DecidableEq κ] {K : PySem.W.Frag} {H : Hp} {μ : Nat → Addr} {n : Nat} {k : κ} {ds : List (κ × FV)} {ws : List (κ × V)} (r : KvR K H μ n ds ws) (e : lookK ds k = none) : valV ws k = none := by
  have := r.look k
  rw [e] at this; exact this
theorem look_is {κ : Type} [DecidableEq κ] {K : PySem.W.Frag} {H : Hp} {μ : Nat → Addr} {n : Nat} {k : κ} {ds : List (κ × FV)} {ws : List (κ × V)} (r : KvR K H μ n ds ws) : (valV ws k).isSome = (lookK ds k).isSome := by
  cases q : lookK ds k with
  | none => rw [look_none r q]; rfl
  | some d => obtain ⟨v, e, _⟩ := look_some r q; rw [e]; rfl
theorem key_ok {K : PySem.W.Frag} {H H0 : Hp} {μ : Nat → Addr} {n : Nat} {d : FV} {u : V} {k : Key} (r : RR K H0 μ n H (.v d) u) (e : d.key = some k) : u = kV k := by
  cases r with
  | v q =>
    cases q with
    | int i => cases e; rfl
    | str x => cases e; rfl
    | _ => cases e
/-- the items of a tuple or a list, or a dict's keys -/
def gIn (neg : Bool) (x y : RV) (h : FH) : Option Bool := match y.seq h, y.dictL h with
  | some (_, ds), _ => match x.dat h with
    | some d => if FV.pures ds = true ∧ min (PyData.depthAll (FV.pys ds)) d.depth ≤ 64 then some (if neg then !((FV.pys ds).any fun z => PyData.eqv z d) else (FV.pys ds).any fun z => PyData.eqv z d) else none
    | none => none
  | none, some kvs => match x with
    | .v d => match d.key with
      | some k => some (if neg then !(lookK kvs k).isSome else (lookK kvs k).isSome)
      | none => none
    | _ => none
  | none, none => match x, y with
    | .v (.str w), .v (.str z) => match w.cps.toList with
      | [c] => some (if neg then !decide (c ∈ z.cps.toList) else decide (c ∈ z.cps.toList))
      | _ => none
    | _, _ => none
def rInH (K : PySem.W.Frag) (neg : Bool) : R2 := fun x y H Q => rInG K neg x y H Q ∨ ∃ (c : Nat) (z : Str), x = .str ⟨#[c]⟩ ∧ y = .str z ∧ Q (.bl (if neg then !decide (c ∈ z.cps.toList) else decide (c ∈ z.cps.toList))) H
theorem op_inH (hu : X.A.units + 66 < cLine) : OpR X (compareOp .In) (rInH X.K false) := OpR.or (op_inG hu) op_in_sign
theorem op_notInH (hu : X.A.units + 66 < cLine) : OpR X (compareOp .NotIn) (rInH X.K true) := OpR.or (op_notInG hu) op_notIn_sign
theorem in_ok {neg : Bool} : CmpOk X (rInH X.K neg) (gIn neg) := fun μ h H0 H x y u v Q z hr rx ry e k => by
  unfold gIn at e
  split at e
  · rename_i b ds e1
    split at e
    · rename_i d e2
      split at e
      · rename_i hc
        cases e
        obtain ⟨a, xs, rfl, h2, h3⟩ := seq_ok hr ry e1
        obtain ⟨d1, d2⟩ := dat_ok hr rx e2
        refine .inl (.inl ⟨d, FV.pys ds, b, d1, ?_, d2, FV.pys_plain, hc.2, k H (Same.refl H)⟩)
        cases b with
        | true => exact .tup (by rw [if_pos rfl] at h3; exact h3) (h2.dp hc.1)
        | false => exact .lst (by rw [if_neg (by decide)] at h3; exact h3) (h2.dp hc.1)
      · cases e
    · cases e
  · rename_i kvs _ e1
    split at e
    · rename_i d
      split at e
      · rename_i kk e2
        cases e
        obtain ⟨a, ws, rfl, h2, h3⟩ := dictL_ok hr ry e1
        have eu := key_ok rx e2
        subst eu
        refine .inl (.inr ⟨a, valV ws kk, rfl, .inl ⟨ws, kk, h2, rfl, rfl⟩, ?_⟩)
        rw [look_is h3]
        exact k H (Same.refl H)
      · cases e
    · cases e
  · split at e
    · rename_i w zz _ _
      split at e
      · rename_i c hc
        cases e
        have ew : w = ⟨#[c]⟩ := by
          obtain ⟨cs⟩ := w
          congr 1
          exact Array.toList_inj.mp hc
        rw [rr_str rx, rr_str ry]
        exact .inr ⟨c, zz, by rw [ew], rfl, k H (Same.refl H)⟩
      · cases e
    · cases e
theorem units66' {k : Nat} {A : Around} (r : Room k A) : A.units + 66 < cLine := by have := r.un; omega
theorem st_in (hr : Room k X.A) (ha : SE X W a fa) (hb : SE X W b fb) (hm : behindInMarks .In b = false := by rfl) : ST X W (.Compare a [.In] [b] pos) (fCmp (gIn false) fa fb) := st_cmp (op_inH (units66' hr)) in_ok ha hb hm
theorem st_notIn (hr : Room k X.A) (ha : SE X W a fa) (hb : SE X W b fb) (hm : behindInMarks .NotIn b = false := by rfl) : ST X W (.Compare a [.NotIn] [b] pos) (fCmp (gIn true) fa fb) := st_cmp (op_notInH (units66' hr)) in_ok ha hb hm
theorem se_in (hr : Room k X.A) (ha : SE X W a fa) (hb : SE X W b fb) (hm : behindInMarks .In b = false := by rfl) : SE X W (.Compare a [.In] [b] pos) (fBl (fCmp (gIn false) fa fb)) := se_cmp (op_inH (units66' hr)) in_ok ha hb hm
theorem se_notIn (hr : Room k X.A) (ha : SE X W a fa) (hb : SE X W b fb) (hm : behindInMarks .NotIn b = false := by rfl) : SE X W (.Compare a [.NotIn] [b] pos) (fBl (fCmp (gIn true) fa fb)) := se_cmp (op_notInH (units66' hr)) in_ok ha hb hm

/-! ### a < b < c -/
def fChain (g g' : RV → RV → FH → Option Bool) (fa fb fc : FE) : FT := fun Γ h => (fa Γ h).bind fun x h1 => (fb Γ h1).bind fun y h2 => (lift (g x y h2) h2).bind fun t h3 =>
  if t = true then (fc Γ h3).bind fun z h4 => lift (g' y z h4) h4 else .ok false h3
theorem st_chain {op op' : CmpOp} {r r' : R2} {g g' : RV → RV → FH → Option Bool} (ho : OpR X (compareOp op) r) (hg : CmpOk X r g) (ho' : OpR X (compareOp op') r') (hg' : CmpOk X r' g') (ha : SE X W a fa) (hb : SE X W b fb) (hc : SE X W c fc)
    (hm : lastMarks [op, op'] [b, c] = false := by with_unfolding_all rfl) : ST X W (.Compare a [op, op'] [b, c] pos) (fChain g g' fa fb fc) := fun μ Γ h σ H Q s p =>
  wT.of (pt_chain ho ho' pe_w pe_w pe_w hm) (ha μ Γ h σ H _ s (p.bind.mono fun x h1 μ1 H1 _ s1 hr1 p1 u ru =>
    hb μ1 Γ h1 σ H1 _ (s.step s1 hr1) (p1.bind.mono fun y h2 μ2 H2 _ s2 hr2 p2 v rv => by
      obtain ⟨t, ht, p3⟩ := p2.bind.lift
      refine hg μ2 h2 H H2 x y u v _ t hr2 (ru.step s2) (rv.since s1.th) ht fun H' e => ⟨t, rfl, ?_⟩
      have p4 := p3.last hr2 e
      cases t with
      | false =>
        rw [if_neg (by decide)] at p4 ⊢
        exact ⟨false, rfl, p4.last (hr2.same e) (Same.refl _)⟩
      | true =>
        rw [if_pos rfl] at p4 ⊢
        refine hc μ2 Γ h2 σ H' _ (((s.step s1 hr1).step s2 hr2).step (Step.same e) (hr2.same e)) (p4.bind.mono fun z h4 μ4 H4 _ s4 hr4 p5 w rw' => ?_)
        obtain ⟨t', ht', p6⟩ := p5.lift
        exact hg' μ4 h4 H H4 y z v w _ t' hr4 (((rv.since s1.th).step (Step.same e)).step s4) (rw'.since fun a q => (Step.same (μ := μ2) (n := h2.length) e).th a (s2.th a (s1.th a q))) ht' fun H'' e' => ⟨t', rfl, p6.last hr4 e'⟩)))

/-! ### tests -/
def fTst (fa : FE) : FT := fun Γ h => (fa Γ h).bind fun x h1 => match x with | .v (.bl b) => .ok b h1 | _ => .no
theorem st_val (ha : SE X W a fa) (he : ∀ whole, isTrue a X.env whole = (do let v ← whole; standAt a.pos; holding [v] (truthy v)) := by intro _; rfl) : ST X W a (fTst fa) := fun μ Γ h σ H Q s p =>
  wT.of (pt_val pe_w he) (ha μ Γ h σ H _ s (p.bind.mono fun x h1 μ1 H1 _ s1 hr1 p1 u ru => by
    split at p1
    · exact ⟨_, rr_bl ru, p1.last hr1 (Same.refl _)⟩
    · exact p1.elim))
def fNot (t : FT) : FT := fun Γ h => (t Γ h).bind fun b h1 => .ok (!b) h1
theorem Po.notb {K : PySem.W.Frag} {mg : Str → Option Value} {μ : Nat → Addr} {n : Nat} {H : Hp} {R : Bool → FH → (Nat → Addr) → Hp → Prop} {E : XK} {r : Rs Bool} (p : Po K mg μ n H R E (r.bind fun b h1 => .ok (!b) h1)) :
    Po K mg μ n H (fun b h' μ' H' => R (!b) h' μ' H') E r := by
  cases r with
  | no => exact p
  | ex x h' => exact p
  | ok b h' => exact p
theorem st_not {t : FT} (ha : ST X W a t) : ST X W (.UnaryOp .Not a pos) (fNot t) := fun μ Γ h σ H Q s p => wT.of (pt_not pt_w) (ha μ Γ h σ H _ s p.notb)
def fAnd (t u : FT) : FT := fun Γ h => (t Γ h).bind fun b h1 => if b = true then u Γ h1 else .ok false h1
def fOr (t u : FT) : FT := fun Γ h => (t Γ h).bind fun b h1 => if b = true then .ok true h1 else u Γ h1
/-- and, or as tests: whatever the whole is -/
def SW (X : Cx) (W : WX) (e : Expr) (f : FT) : Prop := ∃ t, PW X e t ∧ ∀ μ Γ h σ H Q, SR X.K X.mg μ Γ h σ H → Po X.K X.mg μ h.length H (fun b h' μ' H' => Q b H') (fun c d H' => W c d σ H') (f Γ h) → t σ H Q
theorem st_bool {t : FT} (h : SW X W e t) : ST X W e t := by
  obtain ⟨t, p, q⟩ := h
  exact fun μ Γ h σ H Q s p' => wT.of p.pt (q μ Γ h σ H Q s p')
variable {rest : List Expr} {t u : FT}
theorem sw_and1 (h : ST X W a t) : SW X W (.BoolOp .And [a] pos) t := ⟨_, pw_and1 pt_w, h⟩
theorem sw_or1 (h : ST X W a t) : SW X W (.BoolOp .Or [a] pos) t := ⟨_, pw_or1 pt_w, h⟩
theorem sw_and (h : ST X W a t) (g : SW X W (.BoolOp .And (b :: rest) pos) u) : SW X W (.BoolOp .And (a :: b :: rest) pos) (fAnd t u) := by
  obtain ⟨tt, p, q⟩ := g
  refine ⟨_, pw_and pt_w p, fun μ Γ h0 σ H Q s p' => h μ Γ h0 σ H _ s (p'.bind.mono fun b h1 μ1 H1 _ s1 hr1 p1 => ?_)⟩
  cases b with
  | true =>
    rw [if_pos rfl] at p1 ⊢
    exact q μ1 Γ h1 σ H1 Q (s.step s1 hr1) p1
  | false =>
    rw [if_neg (by decide)] at p1 ⊢
    exact p1.last hr1 (Same.refl _)
theorem sw_or (h : ST X W a t) (g : SW X W (.BoolOp .Or (b :: rest) pos) u) : SW X W (.BoolOp .Or (a :: b :: rest) pos) (fOr t u) := by
  obtain ⟨tt, p, q⟩ := g
  refine ⟨_, pw_or pt_w p, fun μ Γ h0 σ H Q s p' => h μ Γ h0 σ H _ s (p'.bind.mono fun b h1 μ1 H1 _ s1 hr1 p1 => ?_)⟩
  cases b with
  | true =>
    rw [if_pos rfl] at p1 ⊢
    exact p1.last hr1 (Same.refl _)
  | false =>
    rw [if_neg (by decide)] at p1 ⊢
    exact q μ1 Γ h1 σ H1 Q (s.step s1 hr1) p1
/-! .. as values -/
def fAndV (fa fb : FE) : FE := fun Γ h => (fa Γ h).bind fun x h1 => match x with | .v (.bl b) => if b = true then fb Γ h1 else .ok (.v (.bl false)) h1 | _ => .no
def fOrV (fa fb : FE) : FE := fun Γ h => (fa Γ h).bind fun x h1 => match x with | .v (.bl b) => if b = true then .ok (.v (.bl true)) h1 else fb Γ h1 | _ => .no
theorem se_one {op : BoolOp} (h : SE X W a fa) : SE X W (.BoolOp op [a] pos) fa := fun μ Γ h0 σ H Q s p => wE.of (pe_one pe_w) (h μ Γ h0 σ H Q s p)
theorem Po.since {K : PySem.W.Frag} {mg : Str → Option Value} {μ : Nat → Addr} {n : Nat} {H0 H : Hp} {Q : VK} {E : XK} {r : Rs RV} (p : Po K mg μ n H (fun r h' μ' H' => ∀ u, RR K H0 μ' h'.length H' r u → Q u H') E r) (th : ∀ a, H0 a ≠ none → H a ≠ none) :
    Po K mg μ n H (fun r h' μ' H' => ∀ u, RR K H μ' h'.length H' r u → Q u H') E r := p.mono fun x h' μ' H' _ s _ q u ru => q u (ru.since th)
theorem se_and (ha : SE X W a fa) (hb : SE X W (.BoolOp .And (b :: es) pos) fb) : SE X W (.BoolOp .And (a :: b :: es) pos) (fAndV fa fb) := fun μ Γ h σ H Q s p =>
  wE.of (pe_and pe_w pe_w) (ha μ Γ h σ H _ s (p.bind.mono fun x h1 μ1 H1 _ s1 hr1 p1 u ru => by
    split at p1
    · rename_i d _
      refine ⟨d, rr_bl ru, ?_⟩
      cases d with
      | true =>
        rw [if_pos rfl] at p1 ⊢
        exact hb μ1 Γ h1 σ H1 Q (s.step s1 hr1) (p1.since s1.th)
      | false =>
        rw [if_neg (by decide)] at p1 ⊢
        exact p1.last hr1 (Same.refl _) _ (.v (.bl false))
    · exact p1.elim))
theorem se_or (ha : SE X W a fa) (hb : SE X W (.BoolOp .Or (b :: es) pos) fb) : SE X W (.BoolOp .Or (a :: b :: es) pos) (fOrV fa fb) := fun μ Γ h σ H Q s p =>
  wE.of (pe_or pe_w pe_w) (ha μ Γ h σ H _ s (p.bind.mono fun x h1 μ1 H1 _ s1 hr1 p1 u ru => by
    split at p1
    · rename_i d _
      refine ⟨d, rr_bl ru, ?_⟩
      cases d with
      | true =>
        rw [if_pos rfl] at p1 ⊢
        exact p1.last hr1 (Same.refl _) _ (.v (.bl true))
      | false =>
        rw [if_neg (by decide)] at p1 ⊢
        exact hb μ1 Γ h1 σ H1 Q (s.step s1 hr1) (p1.since s1.th)
    · exact p1.elim))
def fNotV (fa : FE) : FE := fun Γ h => (fa Γ h).bind fun x h1 => match x with | .v (.bl b) => .ok (.v (.bl (!b))) h1 | _ => .no
theorem se_not (ha : SE X W a fa) : SE X W (.UnaryOp .Not a pos) (fNotV fa) := fun μ Γ h σ H Q s p =>
  wE.of (pe_not pe_w) (ha μ Γ h σ H _ s (p.bind.mono fun x h1 μ1 H1 _ s1 hr1 p1 u ru => by
    split at p1
    · exact ⟨_, rr_bl ru, p1.last hr1 (Same.refl _) _ (.v (.bl _))⟩
    · exact p1.elim))
def fIfE (t : FT) (fa fb : FE) : FE := fun Γ h => (t Γ h).bind fun b h1 => if b = true then fa Γ h1 else fb Γ h1
theorem se_ifE (hc : ST X W c t) (ha : SE X W a fa) (hb : SE X W b fb) : SE X W (.IfExp c a b pos) (fIfE t fa fb) := fun μ Γ h σ H Q s p =>
  wE.of (pe_ifExp pt_w pe_w pe_w) (hc μ Γ h σ H _ s (p.bind.mono fun d h1 μ1 H1 _ s1 hr1 p1 => by
    cases d with
    | true =>
      rw [if_pos rfl] at p1 ⊢
      exact ha μ1 Γ h1 σ H1 Q (s.step s1 hr1) (p1.since s1.th)
    | false =>
      rw [if_neg (by decide)] at p1 ⊢
      exact hb μ1 Γ h1 σ H1 Q (s.step s1 hr1) (p1.since s1.th)))

/-! ### arguments -/
/-- a result as a value: a new list gets a number -/
def RV.val : RV → FH → FV × FH
  | .v x, h => (x, h)
  | .l ds, h => (.ref h.length, h ++ [.lst ds])
  | .d kvs, h => (.ref h.length, h ++ [.dK kvs])
theorem val_ok {K : PySem.W.Frag} {mg : Str → Option Value} {H H0 : Hp} {μ : Nat → Addr} {h h' : FH} {x : RV} {d : FV} {u : V} (hr : HR K mg μ h H) (r : RR K H0 μ h.length H x u) (e : x.val h = (d, h')) (s : Step ν n H0 μ h.length H) :
    ∃ μ', Step ν n H0 μ' h'.length H ∧ HR K mg μ' h' H ∧ VR K H μ' h'.length d u ∧ ∀ i, i < h.length → μ' i = μ i := by
  cases r with
  | v q => cases e; exact ⟨μ, s, hr, q, fun _ _ => rfl⟩
  | l f a b =>
    cases e
    rename_i ds p xs
    refine ⟨ext1 μ h.length p, ?_, hr.tell f.2 ⟨xs, a, VRs.mono (Gw.refl H) (fun i hi => ext1_lt hi) (Nat.le_succ _) _ _ b⟩, ?_, fun i hi => ext1_lt hi⟩
    · rw [List.length_append, List.length_singleton]; exact s.tell f.1
    · have : V.ref p = V.ref (ext1 μ h.length p h.length) := by rw [ext1_at]
      rw [this]
      exact .ref (by rw [List.length_append, List.length_singleton]; exact Nat.lt_succ_self _)
  | d f a b =>
    cases e
    rename_i ds p xs
    refine ⟨ext1 μ h.length p, ?_, hr.tell f.2 ⟨xs, a, b.mono (Gw.refl H) (fun i hi => ext1_lt hi) (Nat.le_succ _)⟩, ?_, fun i hi => ext1_lt hi⟩
    · rw [List.length_append, List.length_singleton]; exact s.tell f.1
    · have : V.ref p = V.ref (ext1 μ h.length p h.length) := by rw [ext1_at]
      rw [this]
      exact .ref (by rw [List.length_append, List.length_singleton]; exact Nat.lt_succ_self _)
/-- an expression as a value -/
def toV : Rs RV → Rs FV
  | .ok x h => .ok (x.val h).1 (x.val h).2
  | .ex x h => .ex x h
  | .no => .no
theorem Po.toV {K : PySem.W.Frag} {mg : Str → Option Value} {μ : Nat → Addr} {n : Nat} {H : Hp} {R : FV → FH → (Nat → Addr) → Hp → Prop} {E : XK} {r : Rs RV} (p : Po K mg μ n H R E (toV r)) :
    Po K mg μ n H (fun x h' μ' H' => ∀ u, RR K H μ' h'.length H' x u → ∃ d h'' μ'', Step μ n H μ'' h''.length H' ∧ HR K mg μ'' h'' H' ∧ VR K H' μ'' h''.length d u ∧ R d h'' μ'' H') E r := by
  cases r with
  | no => exact p
  | ex x h' => exact p
  | ok x h' =>
    intro μ' H' s hr u ru
    obtain ⟨μ'', s2, hr2, v2, _⟩ := val_ok (d := (x.val h').1) (h' := (x.val h').2) hr ru rfl s
    exact ⟨_, _, μ'', s2, hr2, v2, p μ'' H' s2 hr2⟩
def aNil : FA := fun _ h => .ok [] h
def aCons (fa : FE) (f : FA) : FA := fun Γ h => (F.toV (fa Γ h)).bind fun v h1 => (f Γ h1).bind fun vs h2 => .ok (v :: vs) h2
theorem sa_nil : SA X W [] aNil := fun μ Γ h σ H Q s p => wA.of pa_nil (Po.last p s.hr (Same.refl _) _ .nil)
theorem sa_cons {f : FA} (ha : SE X W e fa) (ht : SA X W es f) (hs : starEach (e :: es) X.env = (false, eval e X.env) :: starEach es X.env := by exact star1 rfl) : SA X W (e :: es) (aCons fa f) := fun μ Γ h σ H Q s p =>
  wA.of (pa_cons pe_w pa_w hs) (ha μ Γ h σ H _ s (p.bind.toV.mono fun x h1 μ1 H1 _ s1 hr1 p1 u ru => by
    obtain ⟨d, h2, μ2, s2, hr2, v2, p2⟩ := p1 u ru
    refine ht μ2 Γ h2 σ H1 _ (s.step s2 hr2) (p2.bind.mono fun vs h3 μ3 H3 _ s3 hr3 p3 us rus => ?_)
    exact p3.last hr3 (Same.refl _) _ (.cons (s3.vr v2) rus)))

/-! ### displays -/
def fTup (f : FA) : FE := fun Γ h => (f Γ h).bind fun vs h1 => if vs.length ≤ LIM then .ok (.v (.tup vs)) h1 else .no
def fLst (f : FA) : FE := fun Γ h => (f Γ h).bind fun vs h1 => if vs.length ≤ LIM then .ok (.l vs) h1 else .no
theorem se_tup {f : FA} {x1} (h : SA X W es f) : SE X W (.Tuple es x1 pos) (fTup f) := fun μ Γ h0 σ H Q s p =>
  wE.of (pe_tup pa_w) (h μ Γ h0 σ H _ s (p.bind.mono fun vs h1 μ1 H1 _ s1 hr1 p1 us rus => by
    split at p1
    · rename_i hl
      exact ⟨by rw [rus.len]; exact lim_le hl, fun q hq => p1.last hr1 (same_new hq) _ (rr_tup hq rus)⟩
    · exact p1.elim))
theorem se_lst {f : FA} (h : SA X W es f) : SE X W (.List es pos) (fLst f) := fun μ Γ h0 σ H Q s p =>
  wE.of (pe_lst pa_w) (h μ Γ h0 σ H _ s (p.bind.mono fun vs h1 μ1 H1 _ s1 hr1 p1 us rus => by
    split at p1
    · rename_i hl
      exact ⟨by rw [rus.len]; exact lim_le hl, fun q hq => p1.last hr1 (same_new hq) _ (rr_lst hr1 s1.th hq rus)⟩
    · exact p1.elim))
theorem rr_dct {K : PySem.W.Frag} {mg : Str → Option Value} {H H0 : Hp} {μ : Nat → Addr} {h : FH} {p : Addr} {kvs : List (Key × FV)} {ws : List (Key × V)} (hr : HR K mg μ h H) (th : ∀ a, H0 a ≠ none → H a ≠ none) (hp : H p = none) (q : KvR K H μ h.length kvs ws) : RR K H0 μ h.length (upd H p (.dK ws)) (.d kvs) (.ref p) := by
  refine .d ⟨?_, fun i hi z => hr.cls hi (by rw [z]; exact hp)⟩ upd_same (q.mono (Same.gw (same_new hp)) (fun _ _ => rfl) (Nat.le_refl _))
  cases e : H0 p with
  | none => rfl
  | some o => exact absurd hp (th p (by rw [e]; exact fun z => nomatch z))
def fD0 : FE := fun _ h => .ok (.d []) h
theorem se_d0 : SE X W (.Dict [] [] pos) fD0 := fun μ Γ h0 σ H Q s p => wE.of pe_dnewK (fun q hq => Po.last p s.hr (same_new hq) _ (rr_dct s.hr (fun _ z => z) hq .nil))

/-! ### subscripts -/
theorem ix_dict (hu : X.A.units + 1 < cLine) : IxR X (fun x y H Q => ∃ a v, x = .ref a ∧ DGet H a y (some v) ∧ Q v H) := by
  intro value slice pins s σ H x y v u Q I rx ry h hs
  obtain ⟨a, w, rfl, g, q⟩ := h
  obtain rfl : v = Value.ref a := rx
  have hT := dict_typeIs I g
  unfold subscriptTail
  refine wpAny_bind ?_
  rw [getitemInPython_of_ne hT.not_modules]
  refine wpAny_bind (wpAny_specialOf hT PySem.F.slot_dict_getitem.lookup ?_)
  have fin : wpAny (model X.prog X.w) X.A (subscripted slice false (.ref a) u) (fun r s₃ => wpAny (model X.prog X.w) X.A (letTemporaryGo value (.ref a) r >>= fun _ => pure r) (EP X pins σ Q) X.xe s₃) X.xe s := by
    rw [hs]
    exact wpAny_operating (wpAny_mono (d_getItem hu I g ry fun w' s3 I3 rw' => ⟨w, H, I3, rw', q⟩) (fun r s₃ h₃ => wpAny_bind (wpAny_letTemporaryGo (wpAny_pure h₃))) fun _ _ x => x)
  first
    | exact wpAny_pure (wpAny_bind fin)
    | exact wpAny_bind (wpAny_pure (wpAny_bind fin))
    | exact wpAny_bind fin
def gIx (x y : RV) (h : FH) : Option RV := match x, y with
  | .v (.str z), .v (.int i) => if z.length ≤ LIM then (atI z.cps.toList i).map fun c => .v (.str ⟨#[c]⟩) else none
  | x, .v d => match x.seq h, x.dictL h with
    | some (_, ds), _ => match d with
      | .int i => (atI ds i).map .v
      | _ => none
    | none, some kvs => match d.key with
      | some k => (lookK kvs k).map .v
      | none => none
    | none, none => none
  | _, _ => none
theorem atI_vr {K : PySem.W.Frag} {H : Hp} {μ : Nat → Addr} {n : Nat} {ds : List FV} {xs : List V} {i : Int} {d : FV} (r : VRs K H μ n ds xs) (e : atI ds i = some d) : ∃ v, atI xs i = some v ∧ VR K H μ n d v := by
  unfold atI at e ⊢
  rw [r.len]
  cases q : ixN ds.length i with
  | none => rw [q] at e; cases e
  | some j =>
    rw [q] at e
    exact r.get (i := j) e
theorem se_ix (hr : Room k X.A) (ha : SE X W a fa) (hb : SE X W b fb) (hs : PlainIx b := by exact fun _ _ => rfl) : SE X W (.Subscript a b pos) (fBin gIx fa fb) := fun μ Γ h σ H Q s p =>
  wE.of (pe_ix (ix_seq.or (ix_dict (hu_of hr))) pe_w pe_w hs) (ha μ Γ h σ H _ s (p.bind.mono fun x h1 μ1 H1 _ s1 hr1 p1 u ru =>
    hb μ1 Γ h1 σ H1 _ (s.step s1 hr1) (p1.bind.mono fun y h2 μ2 H2 _ s2 hr2 p2 v rv => by
      obtain ⟨z, hz, p3⟩ := p2.lift
      have ru2 := ru.step s2
      unfold gIx at hz
      split at hz
      · rename_i w i _ _
        split at hz
        · rename_i hl
          cases q : atI w.cps.toList i with
          | none => rw [q] at hz; cases hz
          | some c =>
            rw [q] at hz
            cases hz
            exact .inl (.inr (.inr ⟨w, i, c, rr_str ru2, rr_int rv, lim_le hl, q, p3.last hr2 (Same.refl _) _ (.v (.str _))⟩))
        · cases hz
      · rename_i d _
        split at hz
        · rename_i bb ds e1
          split at hz
          · rename_i i _
            cases q : atI ds i with
            | none => rw [q] at hz; cases hz
            | some c =>
              rw [q] at hz
              cases hz
              obtain ⟨a', xs, rfl, h4, h5⟩ := seqE_ok hr2 ru2 e1
              obtain ⟨w, h6, h7⟩ := atI_vr h4 q
              have fin := p3.last hr2 (Same.refl _) w (.v h7)
              rcases h5 with h5 | h5
              · exact .inl (.inl ⟨a', xs, i, w, rfl, rr_int rv, h5, h6, fin⟩)
              · exact .inl (.inr (.inl ⟨a', xs, i, w, rfl, rr_int rv, h5, h6, fin⟩))
          · cases hz
        · rename_i kvs _ e1
          split at hz
          · rename_i kk e2
            cases q : lookK kvs kk with
            | none => rw [q] at hz; cases hz
            | some c =>
              rw [q] at hz
              cases hz
              obtain ⟨a', ws, rfl, h4, h5⟩ := dictL_ok hr2 ru2 e1
              obtain ⟨w, h6, h7⟩ := look_some h5 q
              have eu := key_ok rv e2
              subst eu
              refine .inr ⟨a', w, rfl, ?_, p3.last hr2 (Same.refl _) w (.v h7)⟩
              rw [← h6]
              exact .inl ⟨ws, kk, h4, rfl, rfl⟩
          · cases hz
        · cases hz
      · cases hz)))
end
end F

/-! F: slices, built-ins, calls, statements, defs. -/
namespace F
open PySem PySem.Spec PyProof.Rows L2 G
section
variable {X : Cx} {W : WX} {e a b c : Expr} {es : List Expr} {pos p0 p1 p2 : Pos} {fa fb fc : FE} {k : Nat}
/-! ### slices -/
def wO (X : Cx) (e : Option Expr) : TO := match e with | none => tNoPart | some e => tPart (wE X e)
theorem po_w {e : Option Expr} : PO X e (wO X e) := by
  cases e with
  | none => exact po_none
  | some e => exact po_some pe_w
abbrev FP := Sl → FH → Rs (Option Int)
def SP' (X : Cx) (W : WX) (e : Option Expr) (f : FP) : Prop :=
  ∀ μ Γ h σ H Q, SR X.K X.mg μ Γ h σ H → Po X.K X.mg μ h.length H (fun b h' μ' H' => Q b H') (fun c d H' => W c d σ H') (f Γ h) → wO X e σ H Q
def oNone : FP := fun _ h => .ok none h
def oSome (fa : FE) : FP := fun Γ h => (fa Γ h).bind fun x h1 => match x with | .v (.int i) => .ok (some i) h1 | _ => .no
theorem sp_none : SP' X W none oNone := fun μ Γ h σ H Q s p => Po.last p s.hr (Same.refl _)
theorem sp_some (ha : SE X W a fa) : SP' X W (some a) (oSome fa) := fun μ Γ h σ H Q s p =>
  (ha μ Γ h σ H _ s (p.bind.mono fun x h1 μ1 H1 _ s1 hr1 p1 u ru => by
    split at p1
    · exact ⟨_, rr_int ru, p1.last hr1 (Same.refl _)⟩
    · exact p1.elim))
def cutF (xs : List FV) (lo hi : Option Int) : List FV := (xs.drop (HT.sIx xs.length 0 lo)).take (HT.sIx xs.length xs.length hi - HT.sIx xs.length 0 lo)
theorem cutF_vr {K : PySem.W.Frag} {H : Hp} {μ : Nat → Addr} {n : Nat} {ds : List FV} {xs : List V} {lo hi : Option Int} (r : VRs K H μ n ds xs) : VRs K H μ n (cutF ds lo hi) (cutV xs lo hi) := by
  unfold cutV cutF
  rw [r.len]
  exact (r.drop _).take _
def gSl (x : RV) (lo hi : Option Int) (h : FH) : Option RV := match x with
  | .v (.str z) => if z.length ≤ LIM then some (.v (.str (cutS z lo hi))) else none
  | x => match x.seq h with
    | some (true, ds) => some (.v (.tup (cutF ds lo hi)))
    | some (false, ds) => some (.l (cutF ds lo hi))
    | none => none
def fSl (fa : FE) (fl fh : FP) : FE := fun Γ h => (fa Γ h).bind fun x h1 => (fl Γ h1).bind fun l h2 => (fh Γ h2).bind fun u h3 => lift (gSl x l u h3) h3
theorem se_sl {lo hi : Option Expr} {fl fh : FP} (ha : SE X W a fa) (hl : SP' X W lo fl) (hh : SP' X W hi fh) : SE X W (.Subscript a (.Slice lo hi none p2) pos) (fSl fa fl fh) := fun μ Γ h σ H Q s p =>
  wE.of (pe_slice (sl_str.or (sl_tupA.or sl_list)) pe_w po_w po_w) (ha μ Γ h σ H _ s (p.bind.mono fun x h1 μ1 H1 _ s1 hr1 p1 u ru =>
    hl μ1 Γ h1 σ H1 _ (s.step s1 hr1) (p1.bind.mono fun l h2 μ2 H2 _ s2 hr2 p2 =>
      hh μ2 Γ h2 σ H2 _ ((s.step s1 hr1).step s2 hr2) (p2.bind.mono fun r h3 μ3 H3 _ s3 hr3 p3 => by
        obtain ⟨z, hz, p4⟩ := p3.lift
        have ru3 := (ru.step s2).step s3
        have th : ∀ a, H a ≠ none → H3 a ≠ none := fun a q => s3.th a (s2.th a (s1.th a q))
        unfold gSl at hz
        split at hz
        · split at hz
          · rename_i hl
            cases hz
            exact .inl ⟨_, rr_str ru3, lim_le hl, p4.last hr3 (Same.refl _) _ (.v (.str _))⟩
          · cases hz
        · split at hz
          · rename_i ds e1
            cases hz
            obtain ⟨q, xs, rfl, h4, h5⟩ := seqT_ok hr3 ru3 e1
            refine .inr (.inl ⟨q, xs, rfl, h5, fun hw => ?_, fun _ p' hp' => p4.last hr3 (same_new hp') _ (rr_tup hp' (cutF_vr h4))⟩)
            have e : cutF ds l r = ds := by
              unfold cutF
              rw [h4.len] at hw
              rw [hw.1, hw.2]
              simp
            rw [e] at p4
            exact p4.last hr3 (Same.refl _) _ (.v (.tup h5 h4))
          · rename_i ds e1
            cases hz
            obtain ⟨q, xs, rfl, h4, h5⟩ := seqL_ok hr3 ru3 e1
            exact .inr (.inr ⟨q, xs, rfl, h5, fun p' hp' => p4.last hr3 (same_new hp') _ (rr_lst hr3 th hp' (cutF_vr h4))⟩)
          · cases hz))))

/-! ### built-ins of one argument -/
def CbOk (X : Cx) (r : List V → Hp → VK → Prop) (g : RV → FH → Option RV) : Prop :=
  ∀ μ h H0 H x u (Q : VK) z, HR X.K X.mg μ h H → (∀ a, H0 a ≠ none → H a ≠ none) → RR X.K H0 μ h.length H x u → g x h = some z → (∀ w H', Same H H' → RR X.K H0 μ h.length H' z w → Q w H') → r [u] H Q
theorem se_b1 {x id : Str} {idn : String} {r : List V → Hp → VK → Prop} {g : RV → FH → Option RV} (hc : CallR X (.builtin idn) r) (hg0 : CbOk X r g) (hm : X.mg x = none) (hv : bootBuiltins x = some (.builtin idn)) (ha : SE X W e fa)
    (hg : Gl X x := by rfl) (hn : x ≠ "__name__" := by decide) (hdb : (x == ("__debug__" : Str)) = false := by decide)
    (he : starEach (e :: []) X.env = (false, eval e X.env) :: starEach [] X.env := by exact star1 rfl) (hpl : (backTo pos (starEach [] X.env)).any (·.1) = false := by rfl) : SE X W (.Call (.Name x p0) [e] [] pos) (fUn g fa) := fun μ Γ h σ H Q s p =>
  wE.of (pe_callB hc hg hm hv (pa_cons pe_w pa_nil he) hn hdb he hpl) (ha μ Γ h σ H _ s (p.bind.mono fun x h1 μ1 H1 _ s1 hr1 p1 u ru => by
    obtain ⟨z, hz, p2⟩ := p1.lift
    exact hg0 μ1 h1 H H1 x u _ z hr1 s1.th ru hz fun w H' e q => p2.last hr1 e w q))
theorem se_t1 {x : Str} {T : String} {r : List V → Hp → VK → Prop} {g : RV → FH → Option RV} (hc : CallR X (.type T) r) (hg0 : CbOk X r g) (hm : X.mg x = none) (hv : bootBuiltins x = some (.type T)) (ha : SE X W e fa)
    (hg : Gl X x := by rfl) (hn : x ≠ "__name__" := by decide) (hdb : (x == ("__debug__" : Str)) = false := by decide)
    (he : starEach (e :: []) X.env = (false, eval e X.env) :: starEach [] X.env := by exact star1 rfl) (hpl : (backTo pos (starEach [] X.env)).any (·.1) = false := by rfl) : SE X W (.Call (.Name x p0) [e] [] pos) (fUn g fa) := fun μ Γ h σ H Q s p =>
  wE.of (pe_callTy hc hg hm hv (pa_cons pe_w pa_nil he) hn hdb he hpl) (ha μ Γ h σ H _ s (p.bind.mono fun x h1 μ1 H1 _ s1 hr1 p1 u ru => by
    obtain ⟨z, hz, p2⟩ := p1.lift
    exact hg0 μ1 h1 H H1 x u _ z hr1 s1.th ru hz fun w H' e q => p2.last hr1 e w q))
theorem CallR.or {f : Value} {r r' : List V → Hp → VK → Prop} (h : CallR X f r) (h' : CallR X f r') : CallR X f (fun xs H Q => r xs H Q ∨ r' xs H Q) := by
  intro pins s σ H xs us Q I rx q
  rcases q with q | q
  · exact h pins s σ H xs us Q I rx q
  · exact h' pins s σ H xs us Q I rx q
def gLen (x : RV) (h : FH) : Option RV := match x with
  | .v (.str z) => if z.length ≤ LIM then some (.v (.int z.length)) else none
  | x => match x.seq h, x.dict h with
    | some (_, ds), _ => some (.v (.int ds.length))
    | none, some kvs => some (.v (.int kvs.length))
    | none, none => none
theorem se_len (hm : X.mg "len" = none) (ha : SE X W e fa) (hg : Gl X "len" := by rfl)
    (he : starEach (e :: []) X.env = (false, eval e X.env) :: starEach [] X.env := by exact star1 rfl) (hpl : (backTo pos (starEach [] X.env)).any (·.1) = false := by rfl) : SE X W (.Call (.Name "len" p0) [e] [] pos) (fUn gLen fa) :=
  se_b1 (id := "len") (CallR.or call_len_str (CallR.or call_len_seq call_lenD)) (fun μ h H0 H x u Q z hr th ru hz k => by
    unfold gLen at hz
    split at hz
    · split at hz
      · rename_i hl
        cases hz
        exact .inl ⟨_, by rw [rr_str ru], lim_le hl, k _ _ (Same.refl _) (.v (.int _))⟩
      · cases hz
    · split at hz
      · rename_i b ds _ e1
        cases hz
        obtain ⟨q, xs, rfl, h4, h5⟩ := seqE_ok hr ru e1
        refine .inr (.inl ⟨q, xs, rfl, h5, k _ _ (Same.refl _) ?_⟩)
        rw [h4.len]; exact .v (.int _)
      · rename_i kvs _ e1
        cases hz
        obtain ⟨q, ws, rfl, h4, h5⟩ := dict_ok hr ru e1
        refine .inr (.inr ⟨q, ws, rfl, h4, k _ _ (Same.refl _) ?_⟩)
        rw [h5.len]; exact .v (.int _)
      · cases hz) hm PySem.boot_len ha hg (by decide) (by decide) he hpl
def keyF : Key → FV
  | .inl i => .int i
  | .inr x => .str x
theorem KvR.keys {K : PySem.W.Frag} {H : Hp} {μ : Nat → Addr} {n : Nat} : ∀ {ds : List (Key × FV)} {ws : List (Key × V)}, KvR K H μ n ds ws → VRs K H μ n (ds.map fun kv => keyF kv.1) (ws.map fun kv => L2.kV kv.1)
  | _, _, .nil => .nil
  | (k, d) :: ds, (k', v) :: ws, .cons a b => by
    have h1' : k = k' := a.1
    subst h1'
    refine .cons ?_ (KvR.keys b)
    cases k with
    | inl i => exact .int i
    | inr x => exact .str x
def gList (x : RV) (h : FH) : Option RV := match x.seq h, x.dict h with
  | some (_, ds), _ => some (.l ds)
  | none, some kvs => some (.l (kvs.map fun kv => keyF kv.1))
  | none, none => none
theorem se_list (hcm : X.calm = true) (hm : X.mg "list" = none) (ha : SE X W e fa) (hg : Gl X "list" := by rfl)
    (he : starEach (e :: []) X.env = (false, eval e X.env) :: starEach [] X.env := by exact star1 rfl) (hpl : (backTo pos (starEach [] X.env)).any (·.1) = false := by rfl) : SE X W (.Call (.Name "list" p0) [e] [] pos) (fUn gList fa) :=
  se_t1 (CallR.or call_list_of (call_list_dK hcm)) (fun μ h H0 H x u Q z hr th ru hz k => by
    unfold gList at hz
    split at hz
    · rename_i b ds _ e1
      cases hz
      obtain ⟨q, xs, rfl, h4, h5⟩ := seqE_ok hr ru e1
      exact .inl ⟨q, xs, rfl, h5, fun l hl => k _ _ (same_new hl) (rr_lst hr th hl h4)⟩
    · rename_i kvs _ e1
      cases hz
      obtain ⟨q, ws, rfl, h4, h5⟩ := dict_ok hr ru e1
      exact .inr ⟨q, ws, rfl, h4, fun l hl => k _ _ (same_new hl) (rr_lst hr th hl h5.keys)⟩
    · cases hz) hm (by decide +kernel) ha hg (by decide) (by decide) he hpl
def gTup (x : RV) (h : FH) : Option RV := match x.seq h with
  | some (_, ds) => some (.v (.tup ds))
  | none => none
theorem se_tuple (hm : X.mg "tuple" = none) (ha : SE X W e fa) (hg : Gl X "tuple" := by rfl)
    (he : starEach (e :: []) X.env = (false, eval e X.env) :: starEach [] X.env := by exact star1 rfl) (hpl : (backTo pos (starEach [] X.env)).any (·.1) = false := by rfl) : SE X W (.Call (.Name "tuple" p0) [e] [] pos) (fUn gTup fa) :=
  se_t1 call_tuple_of (fun μ h H0 H x u Q z hr th ru hz k => by
    unfold gTup at hz
    split at hz
    · rename_i b ds e1
      cases hz
      cases b with
      | true =>
        obtain ⟨q, xs, rfl, h4, h5⟩ := seqT_ok hr ru e1
        exact ⟨q, xs, rfl, .inr ⟨h5, k _ _ (Same.refl _) (.v (.tup h5 h4))⟩⟩
      | false =>
        obtain ⟨q, xs, rfl, h4, h5⟩ := seqL_ok hr ru e1
        exact ⟨q, xs, rfl, .inl ⟨h5, fun l hl => k _ _ (same_new hl) (rr_tup hl h4)⟩⟩
    · cases hz) hm (by decide +kernel) ha hg (by decide) (by decide) he hpl
def gAbs : RV → FH → Option RV
  | .v (.int i), _ => some (.v (.int (if i < 0 then -i else i)))
  | _, _ => none
theorem se_abs (hm : X.mg "abs" = none) (ha : SE X W e fa) (hg : Gl X "abs" := by rfl)
    (he : starEach (e :: []) X.env = (false, eval e X.env) :: starEach [] X.env := by exact star1 rfl) (hpl : (backTo pos (starEach [] X.env)).any (·.1) = false := by rfl) : SE X W (.Call (.Name "abs" p0) [e] [] pos) (fUn gAbs fa) :=
  se_b1 (id := "abs") call_abs (fun μ h H0 H x u Q z hr th ru hz k => by
    unfold gAbs at hz
    split at hz
    · cases hz; exact ⟨_, by rw [rr_int ru], k _ _ (Same.refl _) (.v (.int _))⟩
    · cases hz) hm (by decide +kernel) ha hg (by decide) (by decide) he hpl
def gInt : RV → FH → Option RV
  | .v (.int i), _ => some (.v (.int i))
  | _, _ => none
theorem se_int1 (hm : X.mg "int" = none) (ha : SE X W e fa) (hg : Gl X "int" := by rfl)
    (he : starEach (e :: []) X.env = (false, eval e X.env) :: starEach [] X.env := by exact star1 rfl) (hpl : (backTo pos (starEach [] X.env)).any (·.1) = false := by rfl) : SE X W (.Call (.Name "int" p0) [e] [] pos) (fUn gInt fa) :=
  se_t1 call_int1 (fun μ h H0 H x u Q z hr th ru hz k => by
    unfold gInt at hz
    split at hz
    · cases hz; exact .inl ⟨_, by rw [rr_int ru], k _ _ (Same.refl _) (.v (.int _))⟩
    · cases hz) hm (by decide +kernel) ha hg (by decide) (by decide) he hpl

/-! ### isinstance -/
def tyR : RV → FH → Option String
  | .v .non, _ => some "NoneType"
  | .v (.bl _), _ => some "bool"
  | .v (.int _), _ => some "int"
  | .v (.str _), _ => some "str"
  | .v (.tup _), _ => some "tuple"
  | .v (.fl _), _ => some "list"
  | .v (.ref m), h => match h[m]? with | some (.lst _) => some "list" | some (.dK _) => some "dict" | some (.dT _) => some "dict" | _ => none
  | .l _, _ => some "list"
  | .d _, _ => some "dict"
theorem tyR_ok {K : PySem.W.Frag} {mg : Str → Option Value} {H H0 : Hp} {μ : Nat → Addr} {h : FH} {x : RV} {u : V} {T : String} (hr : HR K mg μ h H) (r : RR K H0 μ h.length H x u) (e : tyR x h = some T) : TyX K H u (.type T) := by
  cases r with
  | l f a b => cases e; exact .base (.lst a)
  | d f a b => cases e; exact .base (.dK a)
  | v q =>
    cases q with
    | non => cases e; exact .base .non
    | bl b => cases e; exact .base (.bl b)
    | int i => cases e; exact .base (.int i)
    | str y => cases e; exact .base (.str y)
    | tup a b =>
      cases e
      rcases a with (a | ⟨o, a⟩) | ⟨o, its, n, hk, hc, _⟩
      · exact .base (.tup a)
      · exact .fTuple a
      · exact .kTuple hk hc
    | fl a b =>
      cases e
      rcases a with ⟨o, a⟩ | ⟨o, its, n, hk, hc, _⟩
      · exact .base (.frz a)
      · exact .kList hk hc
    | ref l =>
      rename_i i
      have e' : (match h[i]? with | some (.lst _) => some "list" | some (.dK _) => some "dict" | some (.dT _) => some "dict" | _ => none) = some T := e
      split at e'
      · rename_i z zh
        cases e'
        obtain ⟨xs, h1, h2⟩ := hr.at' _ _ zh
        exact .base (.lst h1)
      · rename_i z zh
        cases e'
        obtain ⟨xs, h1, h2⟩ := hr.at' _ _ zh
        exact .base (.dK h1)
      · rename_i z zh
        cases e'
        obtain ⟨xs, h1, h2⟩ := hr.at' _ _ zh
        exact .base (.dT h1)
      · cases e'
def gIs (T : String) (x : RV) (h : FH) : Option RV := match tyR x h with
  | some t => (kitB t T).map fun k => .v (.bl k)
  | none => none
/-- isinstance(e, T), T a built-in class -/
theorem se_isi {x : Str} {T : String} (hm : X.mg "isinstance" = none) (hmT : X.mg x = none) (ha : SE X W e fa) (hv : bootBuiltins x = some (.type T) := by decide +kernel) (hg : Gl X "isinstance" := by rfl) (hgT : Gl X x := by rfl) (hn : x ≠ "__name__" := by decide) (hd : (x == ("__debug__" : Str)) = false := by decide)
    (h1 : starEach (e :: [.Name x p1]) X.env = (false, eval e X.env) :: starEach [.Name x p1] X.env := by exact star1 rfl) (h2 : starEach (.Name x p1 :: []) X.env = (false, eval (.Name x p1) X.env) :: starEach [] X.env := by exact star1 rfl) (hpl : (backTo pos (starEach [.Name x p1] X.env)).any (·.1) = false := by rfl) :
    SE X W (.Call (.Name "isinstance" p0) [e, .Name x p1] [] pos) (fUn (gIs T) fa) := fun μ Γ h σ H Q s p =>
  wE.of (pe_callB (id := "isinstance") call_isi hg hm (by decide +kernel) (pa_cons pe_w (pa_cons (pe_bltn (v := .ty T) hgT hmT hv rfl hn hd) pa_nil h2) h1) (by decide) (by decide) h1 hpl) (ha μ Γ h σ H _ s (p.bind.mono fun x h1 μ1 H1 _ s1 hr1 p1 u ru => by
    obtain ⟨z, hz, p2⟩ := p1.lift
    unfold gIs at hz
    split at hz
    · rename_i t ht
      cases q : kitB t T with
      | none => rw [q] at hz; cases hz
      | some k =>
        rw [q] at hz
        cases hz
        exact ⟨u, .ty T, _, .type T, k, rfl, .ty T, tyR_ok hr1 ru ht, kit_ty q, p2.last hr1 (Same.refl _) _ (.v (.bl k))⟩
    · cases hz))

/-! ### calls of one's own defs -/
abbrev FDef := List FV → FH → Rs RV
def spF (K : PySem.W.Frag) (mg : Str → Option Value) (f : FDef) : Sp := fun vs H Q E => ∃ μ h ds, HR K mg μ h H ∧ VRs K H μ h.length ds vs ∧ Po K mg μ h.length H (fun r h' μ' H' => ∀ u, RR K H μ' h'.length H' r u → Q u H') E (f ds h)
structure HasF (P : Program) (w : World) (K : PySem.W.Frag) (mg : Str → Option Value) (base : Heap) (n : Nat) (x : Str) (ps : List Str) (f : FDef) : Prop where
  ex : ∃ a fd, FnOk P w K mg base (L2.CX P w) n a fd ps (spF K mg f) ∧ mg x = some (.ref a) ∧ PySem.W.keepIn K (.ref a) = true ∧ Binds K fd ps []
abbrev wNo : WX := fun _ _ _ _ => False
def Tk (X : Cx) (W : WX) : Prop := Takes X W ∨ W = wNo
def fCall (f : FDef) (fs : FA) : FE := fun Γ h => (fs Γ h).bind fun vs h1 => f vs h1
theorem se_call {x : Str} {ps : List Str} {f : FDef} {fs : FA} {n : Nat} (tk : Tk X W) (h : HasF X.prog X.w X.K X.mg X.base n x ps f) (hr : Room k X.A) (hk : n ≤ k) (ha : SA X W (e :: es) fs)
    (hg : Gl X x := by rfl) (hdb : (x == ("__debug__" : Str)) = false := by decide) (he : starEach (e :: es) X.env = (false, eval e X.env) :: starEach es X.env := by exact star1 rfl) (hpl : (backTo pos (starEach es X.env)).any (·.1) = false := by rfl) :
    SE X W (.Call (.Name x p0) (e :: es) [] pos) (fCall f fs) := fun μ Γ h0 σ H Q s p => by
  obtain ⟨fa, fd, F, hm, hk', hb⟩ := h.ex
  have args : ∀ {R : List V → Hp → Prop}, (∀ us μ1 h1 H1 vs, Step μ h0.length H μ1 h1.length H1 → HR X.K X.mg μ1 h1 H1 → VRs X.K H1 μ1 h1.length vs us → Po X.K X.mg μ1 h1.length H1 (fun r h' μ' H' => ∀ u, RR X.K H1 μ' h'.length H' r u → Q u H') (fun c d H' => W c d σ H') (f vs h1) → R us H1) →
      wA X (e :: es) σ H R := fun {R} g => ha μ Γ h0 σ H _ s (p.bind.mono fun vs h1 μ1 H1 _ s1 hr1 p1 us rus => g us μ1 h1 H1 vs s1 hr1 rus (p1.since s1.th))
  rcases tk with tk | rfl
  · exact wE.of (pe_callS (E := WE W) F (hr.mono hk) hg hm hk' hb (fun σ => passAt tk σ) pa_w hdb he hpl) (args fun us μ1 h1 H1 vs s1 hr1 rus p1 => ⟨μ1, h1, vs, hr1, rus, p1⟩)
  · refine wE.of (pe_call (E := E0) F (hr.mono hk) hg hm hk' hb .nil passL pa_w hdb he hpl) (args fun us μ1 h1 H1 vs s1 hr1 rus p1 => ?_)
    rw [List.append_nil]
    exact ⟨μ1, h1, vs, hr1, rus, p1⟩

/-! ### statements -/
inductive RsS where
  | nx (Γ : Sl) (h : FH) | rt (r : RV) (h : FH) | bk (Γ : Sl) (h : FH) | ct (Γ : Sl) (h : FH) | ex (x : Exn) (Γ : Sl) (h : FH) | no
def PoS (K : PySem.W.Frag) (mg : Str → Option Value) (μ : Nat → Addr) (n : Nat) (H : Hp) (D : Ends) (W : WX) : RsS → Prop
  | .nx Γ' h' => ∀ μ' σ' H', Step μ n H μ' h'.length H' → SR K mg μ' Γ' h' σ' H' → D.nx σ' H'
  | .rt r h' => ∀ μ' H' u, Step μ n H μ' h'.length H' → HR K mg μ' h' H' → RR K H μ' h'.length H' r u → D.rt u H'
  | .bk Γ' h' => ∀ μ' σ' H', Step μ n H μ' h'.length H' → SR K mg μ' Γ' h' σ' H' → D.bk σ' H'
  | .ct Γ' h' => ∀ μ' σ' H', Step μ n H μ' h'.length H' → SR K mg μ' Γ' h' σ' H' → D.ct σ' H'
  | .ex x Γ' h' => ∀ μ' σ' H' c d, Step μ n H μ' h'.length H' → SR K mg μ' Γ' h' σ' H' → XR K mg μ' h'.length H' x c d → W c d σ' H'
  | .no => False
abbrev FS := Sl → FH → RsS
def SS (X : Cx) (W : WX) (st : Stmt) (f : FS) : Prop := ∀ μ Γ h σ H D, SR X.K X.mg μ Γ h σ H → PoS X.K X.mg μ h.length H D W (f Γ h) → wS X st D σ H
def SB (X : Cx) (W : WX) (sts : List Stmt) (f : FS) : Prop := ∀ μ Γ h σ H D, SR X.K X.mg μ Γ h σ H → PoS X.K X.mg μ h.length H D W (f Γ h) → wSs X sts D σ H
def RsS.seq : RsS → FS → RsS
  | .nx Γ h, f => f Γ h
  | .rt r h, _ => .rt r h
  | .bk Γ h, _ => .bk Γ h
  | .ct Γ h, _ => .ct Γ h
  | .ex x Γ h, _ => .ex x Γ h
  | .no, _ => .no
/-- behind a step -/
theorem PoS.step {K : PySem.W.Frag} {mg : Str → Option Value} {μ μ1 : Nat → Addr} {n n1 : Nat} {H H1 : Hp} {D : Ends} {W : WX} {r : RsS} (p : PoS K mg μ n H D W r) (s : Step μ n H μ1 n1 H1) : PoS K mg μ1 n1 H1 D W r := by
  cases r with
  | no => exact p
  | nx Γ h => exact fun μ' σ' H' s' q => p μ' σ' H' (s.trans s') q
  | bk Γ h => exact fun μ' σ' H' s' q => p μ' σ' H' (s.trans s') q
  | ct Γ h => exact fun μ' σ' H' s' q => p μ' σ' H' (s.trans s') q
  | ex x Γ h => exact fun μ' σ' H' c d s' q => p μ' σ' H' c d (s.trans s') q
  | rt r h => exact fun μ' H' u s' q ru => p μ' H' u (s.trans s') q (ru.since s.th)
theorem PoS.seq {K : PySem.W.Frag} {mg : Str → Option Value} {μ : Nat → Addr} {n : Nat} {H : Hp} {D : Ends} {W : WX} {r : RsS} {f : FS} (p : PoS K mg μ n H D W (r.seq f)) {N : St → Hp → Prop}
    (hn : ∀ Γ' h' μ' σ' H', Step μ n H μ' h'.length H' → SR K mg μ' Γ' h' σ' H' → PoS K mg μ' h'.length H' D W (f Γ' h') → N σ' H') : PoS K mg μ n H { D with nx := N } W r := by
  cases r with
  | no => exact p
  | nx Γ h =>
    have p' : PoS K mg μ n H D W (f Γ h) := p
    exact fun μ' σ' H' s q => hn Γ h μ' σ' H' s q (p'.step s)
  | bk Γ h => exact p
  | ct Γ h => exact p
  | ex x Γ h => exact p
  | rt r h => exact p
def bNil : FS := fun Γ h => .nx Γ h
def bSeq (f g : FS) : FS := fun Γ h => (f Γ h).seq g
variable {st : Stmt} {sts rest body orelse : List Stmt} {f g : FS}
theorem sb_nil : SB X W [] bNil := fun μ Γ h σ H D s p => wSs.of pss_nil ((show ∀ μ' σ' H', _ → _ → D.nx σ' H' from p) μ σ H (Step.refl _ _ _) s)
theorem sb_cons (hf : SS X W st f) (hg : SB X W rest g) : SB X W (st :: rest) (bSeq f g) := fun μ Γ h σ H D s p =>
  wSs.of (pss_cons ps_w pss_w) (hf μ Γ h σ H _ s (PoS.seq p fun Γ' h' μ' σ' H' s' q p' => hg μ' Γ' h' σ' H' D q p'))
theorem sb_one (hf : SS X W st f) : SB X W [st] f := fun μ Γ h σ H D s p => wSs.of (pss_one ps_w) (hf μ Γ h σ H D s p)
/-- an expression in a statement -/
def onE {α : Type} (r : Rs α) (Γ : Sl) (k : α → FH → RsS) : RsS := match r with
  | .ok a h => k a h
  | .ex x h => .ex x Γ h
  | .no => .no
theorem PoS.onE {α : Type} {K : PySem.W.Frag} {mg : Str → Option Value} {μ : Nat → Addr} {Γ : Sl} {h : FH} {σ : St} {H : Hp} {D : Ends} {W : WX} {r : Rs α} {k : α → FH → RsS} (s : SR K mg μ Γ h σ H) (p : PoS K mg μ h.length H D W (onE r Γ k)) :
    Po K mg μ h.length H (fun a h' μ' H' => SR K mg μ' Γ h' σ H' ∧ (∀ a, H a ≠ none → H' a ≠ none) ∧ PoS K mg μ' h'.length H' D W (k a h')) (fun c d H' => W c d σ H') r := by
  cases r with
  | no => exact p
  | ex x h' => exact fun μ' H' c d s' hr x' => (show ∀ μ' σ' H' c d, _ → _ → _ → W c d σ' H' from p) μ' σ H' c d s' (s.step s' hr) x'
  | ok a h' => exact fun μ' H' s' hr => ⟨s.step s' hr, s'.th, (show PoS K mg μ h.length H D W (k a h') from p).step s'⟩
def sSet (i : Nat) (fa : FE) : FS := fun Γ h => onE (toV (fa Γ h)) Γ fun v h1 => .nx (Γ.set i (some v)) h1
theorem ss_set (i : Nat) {x : Str} {px : Pos} (hN : X.N.Nodup) (ha : SE X W a fa) (hi : X.N[i]? = some x := by rfl) (hx : Loc X.env.scope x := by first | exact Or.inl rfl | exact Or.inr rfl)
    (hs : swapsWith a (some (.Name x px)) pos.line X.env = pure false := by rfl) (hf : X.fn x = true ∨ X.env.scope.names.lookup x = some .local := by first | exact .inl rfl | exact .inr rfl | assumption) : SS X W (.Assign [.Name x px] a pos) (sSet i fa) := fun μ Γ h σ H D s p =>
  wS.of (ps_set hN hi hx pe_w hs hf) (ha μ Γ h σ H _ s ((PoS.onE s p).toV.mono fun x h1 μ1 H1 _ s1 hr1 p1 u ru => by
    obtain ⟨d, h2, μ2, s2, hr2, v2, sr, th, p2⟩ := p1 u ru
    exact (show ∀ μ' σ' H', _ → _ → D.nx σ' H' from p2) μ2 _ H1 (Step.refl _ _ _) (sr.put v2)))
def sExpr (fa : FE) : FS := fun Γ h => onE (fa Γ h) Γ fun _ h1 => .nx Γ h1
theorem ss_expr (ha : SE X W a fa) (hs : swapsWith a none pos.line X.env = pure false := by rfl) : SS X W (.Expr a pos) (sExpr fa) := fun μ Γ h σ H D s p =>
  wS.of (ps_expr pe_w hs) (ha μ Γ h σ H _ s ((PoS.onE s p).mono fun x h1 μ1 H1 _ s1 hr1 p1 u ru =>
    (show ∀ μ' σ' H', _ → _ → D.nx σ' H' from p1.2.2) μ1 _ H1 (Step.refl _ _ _) p1.1))
def sRet (fa : FE) : FS := fun Γ h => onE (fa Γ h) Γ fun r h1 => .rt r h1
theorem ss_ret (ha : SE X W a fa) : SS X W (.Return (some a) pos) (sRet fa) := fun μ Γ h σ H D s p => by
  refine wS.of (ps_ret pe_w) (ha μ Γ h σ H _ s ?_)
  unfold sRet at p
  cases q : fa Γ h with
  | no => rw [q] at p; exact p
  | ex x h' => rw [q] at p; exact (PoS.onE (r := .ex x h') (k := fun r h1 => .rt r h1) s p)
  | ok r h' =>
    rw [q] at p
    exact fun μ' H' s' hr u ru => (show ∀ μ' H' u, _ → _ → _ → D.rt u H' from p) μ' H' u s' hr ru
def sRetN : FS := fun _ h => .rt (.v .non) h
theorem ss_retN : SS X W (.Return none pos) sRetN := fun μ Γ h σ H D s p => wS.of ps_retN ((show ∀ μ' H' u, _ → _ → _ → D.rt u H' from p) μ H .non (Step.refl _ _ _) s.hr (.v .non))
def sIf (t : FT) (f g : FS) : FS := fun Γ h => onE (t Γ h) Γ fun b h1 => if b = true then f Γ h1 else g Γ h1
theorem ss_if {t : FT} (hc : ST X W c t) (hf : SB X W body f) (hg : SB X W orelse g) : SS X W (.If c body orelse pos) (sIf t f g) := fun μ Γ h σ H D s p =>
  wS.of (ps_if pt_w pss_w pss_w) (hc μ Γ h σ H _ s ((PoS.onE s p).mono fun b h1 μ1 H1 _ s1 hr1 p1 => by
    obtain ⟨sr, th, p2⟩ := p1
    cases b with
    | true => rw [if_pos rfl] at p2; exact hf μ1 Γ h1 σ H1 _ sr p2
    | false => rw [if_neg (by decide)] at p2; exact hg μ1 Γ h1 σ H1 _ sr p2))
theorem ss_pass : SS X W (.Pass pos) bNil := fun μ Γ h σ H D s p => wS.of ps_pass ((show ∀ μ' σ' H', _ → _ → D.nx σ' H' from p) μ σ H (Step.refl _ _ _) s)
def sBreak : FS := fun Γ h => .bk Γ h
def sCont : FS := fun Γ h => .ct Γ h
theorem ss_break : SS X W (.Break pos) sBreak := fun μ Γ h σ H D s p => wS.of ps_break ((show ∀ μ' σ' H', _ → _ → D.bk σ' H' from p) μ σ H (Step.refl _ _ _) s)
theorem ss_cont : SS X W (.Continue pos) sCont := fun μ Γ h σ H D s p => wS.of ps_continue ((show ∀ μ' σ' H', _ → _ → D.ct σ' H' from p) μ σ H (Step.refl _ _ _) s)
theorem ss_doc {x : Str} {j} : SS X W (.Expr (.Constant (.str x) j p0) pos) bNil := fun μ Γ h σ H D s p => wS.of ps_doc ((show ∀ μ' σ' H', _ → _ → D.nx σ' H' from p) μ σ H (Step.refl _ _ _) s)
end

/-! ### defs -/
/-- a def by its body: nP parameters, nL further names -/
def runF (nP nL : Nat) (f : FS) : FDef := fun ds h => if ds.length = nP then (match f (ds.map some ++ List.replicate nL none) h with
  | .nx _ h' => .ok (.v .non) h'
  | .rt r h' => .ok r h'
  | .ex x _ h' => .ex x h'
  | _ => .no) else .no
theorem SR.start {K : PySem.W.Frag} {mg : Str → Option Value} {H : Hp} {μ : Nat → Addr} {h : FH} {ds : List FV} {vs : List V} {N : List Str} {nL : Nat} (hr : HR K mg μ h H) (r : VRs K H μ h.length ds vs) (hN : N.length - vs.length = nL) : SR K mg μ (ds.map some ++ List.replicate nL none) h (L2.start N vs) H := by
  have key : ∀ {ds : List FV} {vs : List V}, VRs K H μ h.length ds vs → ∀ (i : Nat) (v : FV), (ds.map some ++ List.replicate nL none)[i]? = some (some v) → ∃ u, (vs.map some ++ List.replicate nL none)[i]? = some (some u) ∧ VR K H μ h.length v u := by
    intro ds
    induction ds with
    | nil =>
      intro vs r i v e
      cases r
      rw [List.map_nil, List.nil_append, List.getElem?_replicate] at e
      split at e <;> cases e
    | cons d ds ih =>
      intro vs r i v e
      cases r with
      | cons a b =>
        cases i with
        | zero =>
          have e' : d = v := Option.some.inj (Option.some.inj e)
          subst e'
          exact ⟨_, rfl, a⟩
        | succ i => exact ih b i v e
  refine ⟨hr, ?_, ?_⟩
  · unfold L2.start
    have := r.len
    simp only [List.length_append, List.length_map, List.length_replicate]
    omega
  · unfold L2.start
    rw [hN]
    exact key r
section
variable {P : Program} {w : World} {K : PySem.W.Frag} {mg : Str → Option Value} {base : Heap} {x qual : Str} {st : Stmt} {a : Addr} {fd : FuncData} {N ps : List Str} {k n : Nat} {f : FDef} {b : FS}
abbrev CxF (P : Program) (w : World) (K : PySem.W.Frag) (mg : Str → Option Value) (base : Heap) (N : List Str) (qual : Str) (st : Stmt) (f : Addr) (cdv : Value) (A : Around) (outer : List Env) (s : Shared) (H : Hp) (E : XK) : Cx :=
  cxOf (L2.CX P w) P w K mg base N qual (defScope st) f cdv A outer s H E
theorem mk_fnF {nP nL : Nat} (F : Fun K x qual st a fd) (S : FnScope N ps (defScope st)) (h1 : ps.length = nP) (h2 : N.length - nP = nL)
    (body : ∀ cdv A outer s H E, Room k (A.deeper (envOfC qual (defScope st) s.heap.objs.size a cdv)) → SB (CxF P w K mg base N qual st a cdv A outer s H E) (fun cls d _ H => E cls d H) (defBody st) b) :
    FnOk P w K mg base (L2.CX P w) (k + 1) a fd ps (spF K mg (runF nP nL b)) := by
  have hlen : ∀ vs H Q E, spF K mg (runF nP nL b) vs H Q E → vs.length = nP := fun vs H Q E ⟨μ, h, ds, hr, r, p⟩ => by
    unfold runF at p
    split at p
    · rename_i e; rw [r.len, e]
    · exact p.elim
  refine F.okX S (fun vs H Q E q => (hlen vs H Q E q).trans h1.symm) fun cdv A outer s H vs Q E hr q => ⟨_, pss_w, ?_⟩
  have hl := hlen vs H Q E q
  obtain ⟨μ, h, ds, hh, r, p⟩ := q
  refine body cdv A outer s H E hr μ _ h _ H _ (SR.start hh r (N := N) (nL := nL) (by rw [hl]; exact h2)) ?_
  unfold runF at p
  rw [if_pos (by rw [← r.len]; exact hl)] at p
  revert p
  show _ → PoS K mg μ h.length H _ _ (b (ds.map some ++ List.replicate nL none) h)
  cases b (ds.map some ++ List.replicate nL none) h with
  | no => exact fun p => p
  | nx Γ' h' => exact fun p μ' σ' H' s' sr => p μ' H' s' sr.hr .non (.v .non)
  | bk Γ' h' => exact fun p => False.elim p
  | ct Γ' h' => exact fun p => False.elim p
  | ex y Γ' h' => exact fun p μ' σ' H' c d s' sr x' => p μ' H' c d s' sr.hr x'
  | rt v h' => exact fun p μ' H' u s' hr' ru => p μ' H' s' hr' u ru
theorem mk_hasF (F : Fun K x qual st a fd) (G : FnOk P w K mg base (L2.CX P w) n a fd ps (spF K mg f)) (hm : mg x = some (.ref a)) (b : L2.Binds K fd ps []) : HasF P w K mg base n x ps f := ⟨a, fd, G, hm, F.kp, b⟩
theorem HasF.mono (h : HasF P w K mg base k x ps f) (l : k ≤ n) : HasF P w K mg base n x ps f := by
  obtain ⟨a, fd, G, e⟩ := h.ex
  exact ⟨a, fd, G.mono l, e⟩
/-- behind a call all objects that the call made are forgotten, if the others stand as they stood: the result names none of them, or is a list of its own that names none -/
noncomputable def gcP (f : FDef) : FDef := fun ds h => match f ds h with
  | .ok (.v (.ref m)) h' => open Classical in if m < h.length then (if h'.take h.length = h then .ok (.v (.ref m)) h else .no) else
      match h'[m]? with
      | some (.lst es) => if h'.take h.length = h ∧ FV.lows h.length es then .ok (.l es) h else .no
      | _ => .no
  | .ok (.v v) h' => open Classical in if h'.take h.length = h ∧ v.low h.length then .ok (.v v) h else .no
  | .ok (.l es) h' => open Classical in if h'.take h.length = h ∧ FV.lows h.length es then .ok (.l es) h else .no
  | .ok (.d es) h' => open Classical in if h'.take h.length = h ∧ lowKv h.length es then .ok (.d es) h else .no
  | .ex x h' => open Classical in if h'.take h.length = h ∧ x.fs = none then .ex x h else .no
  | .no => .no
theorem HR.back {K : PySem.W.Frag} {mg : Str → Option Value} {μ μ' : Nat → Addr} {h h' : FH} {H H' : Hp} (r : HR K mg μ h H) (r' : HR K mg μ' h' H') (l : h.length ≤ h'.length) (e : h'.take h.length = h) : HR K mg μ' h H' := by
  have := r'.cut (n := h.length) (fun o ho => by
    rw [e] at ho
    obtain ⟨i, hi⟩ := List.mem_iff_getElem?.mp ho
    exact (r.at' i o hi).isLow) l
  rwa [e] at this
theorem gc_ok {f : FDef} {vs : List V} {H : Hp} {Q : VK} {E : XK} (q : spF K mg (gcP f) vs H Q E) : spF K mg f vs H Q E := by
  obtain ⟨μ, h, ds, hr, r, p⟩ := q
  refine ⟨μ, h, ds, hr, r, ?_⟩
  unfold gcP at p
  cases z : f ds h with
  | no => rw [z] at p; exact p
  | ex x h' =>
    rw [z] at p
    dsimp only at p
    split at p
    · rename_i hc
      intro μ' H' c d s' hr' x'
      refine p μ' H' c d (s'.cut (Nat.le_refl _) s'.le) (hr.back hr' s'.le hc.1) ⟨x'.1, ?_⟩
      have x2 := x'.2
      rw [hc.2] at x2 ⊢
      exact x2
    · exact p.elim
  | ok rv h' =>
    rw [z] at p
    intro μ' H' s' hr' u ru
    cases rv with
    | l es =>
      dsimp only at p
      split at p
      · rename_i hc
        refine p μ' H' (s'.cut (Nat.le_refl _) s'.le) (hr.back hr' s'.le hc.1) u ?_
        cases ru with
        | l f a b => exact .l ⟨f.1, fun i hi => f.2 i (Nat.lt_of_lt_of_le hi s'.le)⟩ a (b.low hc.2)
      · exact p.elim
    | d es =>
      dsimp only at p
      split at p
      · rename_i hc
        refine p μ' H' (s'.cut (Nat.le_refl _) s'.le) (hr.back hr' s'.le hc.1) u ?_
        cases ru with
        | d f a b => exact .d ⟨f.1, fun i hi => f.2 i (Nat.lt_of_lt_of_le hi s'.le)⟩ a (b.low hc.2)
      · exact p.elim
    | v d =>
      have val : ∀ {d : FV}, RR K H μ' h'.length H' (.v d) u → h'.take h.length = h → d.low h.length → Po K mg μ h.length H (fun r h' μ' H' => ∀ u, RR K H μ' h'.length H' r u → Q u H') E (.ok (.v d) h) → Q u H' := fun ru hc1 hc2 p => by
        refine p μ' H' (s'.cut (Nat.le_refl _) s'.le) (hr.back hr' s'.le hc1) u ?_
        cases ru with
        | v q => exact .v (q.low hc2)
      cases d with
      | ref m =>
        dsimp only at p
        split at p
        · rename_i hm
          split at p
          · rename_i hc
            exact val ru hc (by simpa [FV.low] using hm) p
          · exact p.elim
        · rename_i hm
          split at p
          · rename_i es hes
            split at p
            · rename_i hc
              cases ru with
              | v q =>
                cases q with
                | ref l =>
                  obtain ⟨xs, h1, h2⟩ := hr'.lst hes
                  refine p μ' H' (s'.cut (Nat.le_refl _) s'.le) (hr.back hr' s'.le hc.1) _ (.l ⟨s'.new m (Nat.le_of_not_lt hm) l, fun i hi z => ?_⟩ h1 (h2.low hc.2))
                  have := hr'.inj i m (Nat.lt_of_lt_of_le hi s'.le) l z
                  omega
            · exact p.elim
          · exact p.elim
      | _ =>
        dsimp only at p
        split at p
        · rename_i hc
          exact val ru hc.1 hc.2 p
        · exact p.elim
end
end F

/-! F: what is walked, loops, changes of lists and dicts. -/
namespace F
open PySem PySem.Spec PyProof.Rows L2 G
section
variable {X : Cx} {W : WX} {e a b c o iter : Expr} {es : List Expr} {pos p0 p1 p2 : Pos} {fa fb fc : FE} {k : Nat}

/-! ### targets -/
abbrev FG := FV → Sl → Option Sl
/-- only the slots os change -/
def Ch (os : List Nat) (σ σ' : St) : Prop := σ'.length = σ.length ∧ ∀ j, j ∉ os → σ'[j]? = σ[j]?
theorem Ch.trans {os os' : List Nat} {σ σ1 σ2 : St} (a : Ch os σ σ1) (b : Ch os' σ1 σ2) : Ch (os ++ os') σ σ2 :=
  ⟨b.1.trans a.1, fun j hj => (b.2 j fun z => hj (List.mem_append_right _ z)).trans (a.2 j fun z => hj (List.mem_append_left _ z))⟩
def SGt (X : Cx) (tg : Expr) (os : List Nat) (f : FG) : Prop := ∃ g, PG X tg g ∧ ∀ μ Γ h σ H v d Γ' (Q : St → Hp → Prop), SR X.K X.mg μ Γ h σ H → VR X.K H μ h.length d v → f d Γ = some Γ' → (∀ σ', SR X.K X.mg μ Γ' h σ' H → Ch os σ σ' → Q σ' H) → g v σ H Q
def tgN (i : Nat) : FG := fun d Γ => some (Γ.set i (some d))
theorem sg_name (i : Nat) {x : Str} (hN : X.N.Nodup) (hi : X.N[i]? = some x := by rfl) (hx : Loc X.env.scope x := by first | exact Or.inl rfl | exact Or.inr rfl)
    (hf : X.fn x = true ∨ X.env.scope.names.lookup x = some .local := by first | exact .inl rfl | exact .inr rfl | assumption) : SGt X (.Name x pos) [i] (tgN i) :=
  ⟨_, pg_name hN hi hx hf, fun μ Γ h σ H v d Γ' Q s r e q => by
    cases e
    exact q _ (s.put r) ⟨by rw [List.length_set], fun j hj => by rw [List.getElem?_set_ne (fun z => hj (by rw [z]; exact List.mem_cons_self))]⟩⟩
abbrev FGs := List FV → Sl → Option Sl
def SGs (X : Cx) (tgs : List Expr) (os : List Nat) (n : Nat) (f : FGs) : Prop := ∃ g, PGs X tgs g ∧ (∀ ds Γ Γ', f ds Γ = some Γ' → ds.length = n) ∧
  ∀ μ Γ h σ H vs ds Γ' (Q : St → Hp → Prop), SR X.K X.mg μ Γ h σ H → VRs X.K H μ h.length ds vs → f ds Γ = some Γ' → (∀ σ', SR X.K X.mg μ Γ' h σ' H → Ch os σ σ' → Q σ' H) → g vs σ H Q
def tgNil : FGs := fun ds Γ => match ds with | [] => some Γ | _ => none
def tgCons (f : FG) (g : FGs) : FGs := fun ds Γ => match ds with | d :: ds => (f d Γ).bind fun Γ' => g ds Γ' | [] => none
theorem sg_nil : SGs X [] [] 0 tgNil := by
  refine ⟨_, pgs_nil, fun ds Γ Γ' e => ?_, fun μ Γ h σ H vs ds Γ' Q s r e q => ?_⟩
  · cases ds with
    | nil => rfl
    | cons d ds => cases e
  · cases r with
    | nil => cases e; exact ⟨rfl, q _ s ⟨rfl, fun _ _ => rfl⟩⟩
    | cons a b => cases e
theorem sg_cons {n : Nat} {os os' : List Nat} {f : FG} {g : FGs} (h1 : SGt X e os f) (h2 : SGs X es os' n g) (hs : (assignEach (e :: es) X.env).map (·.2) = assign e X.env :: (assignEach es X.env).map (·.2) := by rfl) : SGs X (e :: es) (os ++ os') (n + 1) (tgCons f g) := by
  obtain ⟨t1, g1, q1⟩ := h1
  obtain ⟨t2, g2, l2, q2⟩ := h2
  refine ⟨_, pgs_cons g1 g2 hs, fun ds Γ Γ' e => ?_, fun μ Γ h σ H vs ds Γ' Q s r e k => ?_⟩
  · cases ds with
    | nil => cases e
    | cons d ds =>
      have e' : (f d Γ).bind (fun Γ' => g ds Γ') = some Γ' := e
      cases q : f d Γ with
      | none => rw [q] at e'; cases e'
      | some Γ1 => rw [q] at e'; exact congrArg (· + 1) (l2 ds Γ1 Γ' e')
  · cases r with
    | nil => cases e
    | cons a b =>
      rename_i d ds v vs
      have e' : (f d Γ).bind (fun Γ' => g ds Γ') = some Γ' := e
      cases q : f d Γ with
      | none => rw [q] at e'; cases e'
      | some Γ1 =>
        rw [q] at e'
        exact ⟨v, vs, rfl, q1 μ Γ h σ H v d Γ1 _ s a q fun σ1 s1 c1 => q2 μ Γ1 h σ1 H vs ds Γ' Q s1 b e' fun σ2 s2 c2 => k σ2 s2 (c1.trans c2)⟩
def tgT (g : FGs) : FG := fun d Γ => match d with | .tup ds => g ds Γ | _ => none
theorem sg_tup {n kk : Nat} {os : List Nat} {g : FGs} (hc : X.calm = true) (h : SGs X es os n g) (hn : (assignEach es X.env).length = n := by rfl) (hst : (assignEach es X.env).findIdx? (·.1) = none := by rfl) : SGt X (.Tuple es kk pos) os (tgT g) := by
  obtain ⟨t, p, l, q⟩ := h
  refine ⟨_, pg_tup hc p hn hst, fun μ Γ h σ H v d Γ' Q s r e k => ?_⟩
  unfold tgT at e
  split at e
  · cases r with
    | tup r1 r2 => exact ⟨_, _, rfl, r1, by rw [r2.len]; exact l _ _ _ e, q μ Γ h σ H _ _ Γ' Q s r2 e k⟩
  · cases e
/-- target = e, the target written as a tuple -/
def sAsgT (g : FG) (fa : FE) : FS := fun Γ h => onE (toV (fa Γ h)) Γ fun v h1 => match g v Γ with | some Γ' => .nx Γ' h1 | none => .no
theorem ss_asgT {tg : Expr} {os : List Nat} {g : FG} (ht : SGt X tg os g) (ha : SE X W a fa) (hs : swapsWithSole [tg] a pos.line X.env = pure false := by rfl) (hw : swappedStores [tg] a X.env = pure none := by rfl)
    (h1 : (assignEach [tg] X.env).map (·.2) = [assign tg X.env] := by rfl) : SS X W (.Assign [tg] a pos) (sAsgT g fa) := fun μ Γ h σ H D s p => by
  obtain ⟨t, pg, q⟩ := ht
  refine wS.of (ps_asg pe_w pg hs hw h1) (ha μ Γ h σ H _ s ((PoS.onE s p).toV.mono fun x h1 μ1 H1 _ s1 hr1 p1 u ru => ?_))
  obtain ⟨d, h2, μ2, s2, hr2, v2, sr, th, p2⟩ := p1 u ru
  cases z : g d Γ with
  | none => rw [z] at p2; exact p2.elim
  | some Γ' =>
    rw [z] at p2
    exact q μ2 Γ h2 σ H1 u d Γ' _ sr v2 z fun σ' s' _ => (show ∀ μ' σ' H', _ → _ → D.nx σ' H' from p2) μ2 σ' H1 (Step.refl _ _ _) s'

/-! ### what is walked -/
structure Wk where
  items : List FV
  ok : FH → Prop
def FWalk (K : PySem.W.Frag) (mg : Str → Option Value) (μ1 : Nat → Addr) (h1 : FH) (H1 : Hp) (J : It) (s : Wk) : Prop :=
  Walk J s.items.length (fun H' => ∃ μ' h', Step μ1 h1.length H1 μ' h'.length H' ∧ HR K mg μ' h' H' ∧ s.ok h')
    (fun i H x H' => Same H H' ∧ ∀ μ' h', Step μ1 h1.length H1 μ' h'.length H → HR K mg μ' h' H → s.ok h' → ∃ d, s.items[i]? = some d ∧ VR K H' μ' h'.length d x)
def SI (X : Cx) (W : WX) (tg iter : Expr) (f : Sl → FH → Rs Wk) : Prop := ∃ wi, PI X tg iter wi ∧ ∀ μ Γ h σ H R, SR X.K X.mg μ Γ h σ H →
  Po X.K X.mg μ h.length H (fun s h1 μ1 H1 => ∀ J, FWalk X.K X.mg μ1 h1 H1 J s → R J H1) (fun c d H' => W c d σ H') (f Γ h) → wi σ H R
/-- a tuple, a list -/
def iSeq (fa : FE) : Sl → FH → Rs Wk := fun Γ h => (fa Γ h).bind fun x h1 => match x with
  | .v (.tup ds) => .ok ⟨ds, fun _ => True⟩ h1
  | .v (.fl ds) => .ok ⟨ds, fun _ => True⟩ h1
  | .l ds => .ok ⟨ds, fun _ => True⟩ h1
  | .v (.ref m) => match h1[m]? with
    | some (.lst ds) => .ok ⟨ds, fun h' => h'[m]? = some (.lst ds)⟩ h1
    | _ => .no
  | _ => .no
theorem fw_tup {K : PySem.W.Frag} {mg : Str → Option Value} {μ1 : Nat → Addr} {h1 : FH} {H1 : Hp} {a : Addr} {xs : List V} {ds : List FV} (hq : SqT K H1 a xs) (r : VRs K H1 μ1 h1.length ds xs) : FWalk K mg μ1 h1 H1 (Itt K a) ⟨ds, fun _ => True⟩ := by
  have w := walk_tup (K := K) (a := a) (xs := xs)
  rw [r.len] at w
  refine w.mono (fun H' ⟨μ', h', s, _⟩ => s.gw.sqt hq) fun i H x H' hi g y => ?_
  obtain ⟨rfl, y⟩ := y
  obtain ⟨d, hd, md⟩ := r.get' y
  exact ⟨Same.refl _, fun μ' h' s _ _ => ⟨d, hd, s.vr md⟩⟩
/-- a list: whatever stands there as long as it is of the same data -/
theorem fw_lst {K : PySem.W.Frag} {mg : Str → Option Value} {μ1 : Nat → Addr} {h1 : FH} {H1 : Hp} {a : Addr} {ds : List FV} {ok : FH → Prop}
    (hq : ∀ μ' h' H', Step μ1 h1.length H1 μ' h'.length H' → HR K mg μ' h' H' → ok h' → ∃ xs, SqL K H' a xs ∧ VRs K H' μ' h'.length ds xs) : FWalk K mg μ1 h1 H1 (Itl K a) ⟨ds, ok⟩ where
  goes i H hi g := by
    obtain ⟨μ', h', s, hr, o⟩ := g
    obtain ⟨xs, q, r⟩ := hq μ' h' H s hr o
    have l := r.len
    have hi' : i < xs.length := by rw [l]; exact hi
    exact ⟨xs, xs[i], q, List.getElem?_eq_getElem hi'⟩
  stops H g := by
    obtain ⟨μ', h', s, hr, o⟩ := g
    obtain ⟨xs, q, r⟩ := hq μ' h' H s hr o
    exact ⟨xs, q, by rw [r.len]; exact Nat.le_refl _⟩
  yields i H x H' hi g y := by
    obtain ⟨rfl, y⟩ := y
    refine ⟨Same.refl _, fun μ' h' s hr o => ?_⟩
    obtain ⟨xs, q, r⟩ := hq μ' h' H' s hr o
    exact r.get' (y xs q)
theorem PI.or {tg iter : Expr} {w1 w2 : TI} (h1 : PI X tg iter w1) (h2 : PI X tg iter w2) : PI X tg iter (fun σ H R => w1 σ H R ∨ w2 σ H R) := ⟨fun pins s σ H R I h => by
  rcases h with h | h
  · exact h1.run pins s σ H R I h
  · exact h2.run pins s σ H R I h⟩

theorem bind_ok {α β : Type} {r : Rs α} {x : α} {h : FH} (e : r = .ok x h) (k : α → FH → Rs β) : r.bind k = k x h := by rw [e]; rfl
theorem bind_ex {α β : Type} {r : Rs α} {x : Exn} {h : FH} (e : r = .ex x h) (k : α → FH → Rs β) : r.bind k = .ex x h := by rw [e]; rfl
theorem si_seq {tg : Expr} (ha : SE X W iter fa) : SI X W tg iter (iSeq fa) := by
  refine ⟨_, PI.or (pi_tup pe_w) (PI.or (pi_list pe_w) (pi_str pe_w)), fun μ Γ h σ H R s p => ?_⟩
  unfold iSeq at p
  cases q : fa Γ h with
  | no => rw [q] at p; exact p.elim
  | ex x h1 =>
    rw [bind_ex q] at p
    exact .inl (ha μ Γ h σ H _ s (by rw [q]; exact p))
  | ok x h1 =>
    rw [bind_ok q] at p
    have go : ∀ {Q : VK}, (∀ μ1 H1 u, Step μ h.length H μ1 h1.length H1 → HR X.K X.mg μ1 h1 H1 → RR X.K H μ1 h1.length H1 x u → Q u H1) → wE X iter σ H Q := fun {Q} g => ha μ Γ h σ H Q s (by rw [q]; exact fun μ1 H1 s1 hr1 u ru => g μ1 H1 u s1 hr1 ru)
    cases x with
    | d kvs => exact p.elim
    | l ds =>
      refine .inr (.inl (go fun μ1 H1 u s1 hr1 ru => ?_))
      cases ru with
      | l f a b =>
        rename_i pp xs
        refine ⟨pp, rfl, ⟨xs, SqL.of a⟩, p μ1 H1 s1 hr1 _ (fw_lst fun μ' h' H' s' hr' _ => ⟨xs, SqL.of (s'.fr _ _ a f.2), s'.vrs b⟩)⟩
    | v d =>
      cases d with
      | tup ds =>
        refine .inl (go fun μ1 H1 u s1 hr1 ru => ?_)
        cases ru with
        | v r =>
          cases r with
          | tup a b => exact ⟨_, rfl, ⟨_, a⟩, p μ1 H1 s1 hr1 _ (fw_tup a b)⟩
      | fl ds =>
        refine .inr (.inl (go fun μ1 H1 u s1 hr1 ru => ?_))
        cases ru with
        | v r =>
          cases r with
          | fl a b => exact ⟨_, rfl, ⟨_, a.sqL⟩, p μ1 H1 s1 hr1 _ (fw_lst fun μ' h' H' s' hr' _ => ⟨_, (a.gw s'.gw).sqL, s'.vrs b⟩)⟩
      | ref m =>
        dsimp only at p
        cases z : h1[m]? with
        | none => rw [z] at p; exact p.elim
        | some o =>
          rw [z] at p
          cases o with
          | lst ds =>
            refine .inr (.inl (go fun μ1 H1 u s1 hr1 ru => ?_))
            cases ru with
            | v r =>
              cases r with
              | ref l =>
                obtain ⟨xs, h2, h3⟩ := hr1.lst z
                refine ⟨_, rfl, ⟨xs, SqL.of h2⟩, p μ1 H1 s1 hr1 _ (fw_lst fun μ' h' H' s' hr' o' => ?_)⟩
                obtain ⟨ys, h4, h5⟩ := hr'.lst o'
                exact ⟨ys, by rw [← s'.ext m l]; exact SqL.of h4, h5⟩
          | _ => exact p.elim
      | _ => exact p.elim
/-- range(..) -/
def rngL (lo : Int) : Nat → List FV
  | 0 => []
  | n + 1 => .int lo :: rngL (lo + 1) n
theorem rngL_len : ∀ (n : Nat) (lo : Int), (rngL lo n).length = n
  | 0, _ => rfl
  | n + 1, lo => congrArg (· + 1) (rngL_len n (lo + 1))
theorem rngL_at : ∀ (n : Nat) (lo : Int) (i : Nat), i < n → (rngL lo n)[i]? = some (.int (lo + i))
  | 0, _, _, h => absurd h (Nat.not_lt_zero _)
  | n + 1, lo, 0, _ => by show some (FV.int lo) = _; simp
  | n + 1, lo, i + 1, h => by
    show (rngL (lo + 1) n)[i]? = _
    rw [rngL_at n (lo + 1) i (Nat.lt_of_succ_lt_succ h)]
    congr 2
    omega
theorem fw_rng {K : PySem.W.Frag} {mg : Str → Option Value} {μ1 : Nat → Addr} {h1 : FH} {H1 : Hp} {lo : Int} {n : Nat} : FWalk K mg μ1 h1 H1 (Itr lo n) ⟨rngL lo n, fun _ => True⟩ := by
  have w := walk_range (lo := lo) (n := n)
  unfold FWalk
  rw [rngL_len]
  refine w.mono (fun _ _ => trivial) fun i H x H' hi g y => ?_
  obtain ⟨rfl, y⟩ := y
  exact ⟨Same.refl _, fun μ' h' s _ _ => ⟨_, rngL_at n lo i hi, by rw [y]; exact .int _⟩⟩
def iR1 (fa : FE) : Sl → FH → Rs Wk := fun Γ h => (fa Γ h).bind fun x h1 => match x with
  | .v (.int n) => if -(2 ^ 62) ≤ n ∧ n < 2 ^ 62 then .ok ⟨rngL 0 n.toNat, fun _ => True⟩ h1 else .no
  | _ => .no
theorem si_range1 {tg : Expr} (hm : X.mg "range" = none) (ha : SE X W a fa) (hg : Gl X "range" := by rfl) (hs1 : starEach [a] X.env = [(false, eval a X.env)] := by rfl) : SI X W tg (.Call (.Name "range" p1) [a] [] p0) (iR1 fa) := by
  refine ⟨_, pi_range1 hg hm (pa_cons pe_w pa_nil hs1) hs1, fun μ Γ h σ H R s p => ?_⟩
  refine ha μ Γ h σ H _ s (p.bind.mono fun x h1 μ1 H1 _ s1 hr1 p1 u ru => ?_)
  split at p1
  · rename_i n _
    split at p1
    · rename_i hn
      exact ⟨n, by rw [rr_int ru], hn.1, hn.2, p1.last hr1 (Same.refl _) _ fw_rng⟩
    · exact p1.elim
  · exact p1.elim
def iR2 (fa fb : FE) : Sl → FH → Rs Wk := fun Γ h => (fa Γ h).bind fun x h1 => (fb Γ h1).bind fun y h2 => match x, y with
  | .v (.int lo), .v (.int n) => if -(2 ^ 62) ≤ lo ∧ lo < 2 ^ 62 ∧ -(2 ^ 62) ≤ n ∧ n < 2 ^ 62 then .ok ⟨rngL lo (n - lo).toNat, fun _ => True⟩ h2 else .no
  | _, _ => .no
theorem si_range2 {tg : Expr} (hm : X.mg "range" = none) (ha : SE X W a fa) (hb : SE X W b fb) (hg : Gl X "range" := by rfl) (hs1 : starEach [a, b] X.env = [(false, eval a X.env), (false, eval b X.env)] := by rfl) (hs2 : starEach [b] X.env = [(false, eval b X.env)] := by rfl) : SI X W tg (.Call (.Name "range" p1) [a, b] [] p0) (iR2 fa fb) := by
  refine ⟨_, pi_range2 hg hm (pa_cons pe_w (pa_cons pe_w pa_nil hs2) (by rw [hs1, hs2])) hs1 hs2, fun μ Γ h σ H R s p => ?_⟩
  refine ha μ Γ h σ H _ s (p.bind.mono fun x h1 μ1 H1 _ s1 hr1 p1 u ru => hb μ1 Γ h1 σ H1 _ (s.step s1 hr1) (p1.bind.mono fun y h2 μ2 H2 _ s2 hr2 p2 v rv => ?_))
  split at p2
  · rename_i lo n _ _
    split at p2
    · rename_i hn
      exact ⟨lo, n, by rw [rr_int (ru.step s2), rr_int rv], hn, p2.last hr2 (Same.refl _) _ fw_rng⟩
    · exact p2.elim
  · exact p2.elim

/-! ### for -/
open Classical in
/-- behind a turn -/
noncomputable def RsS.turn (r : RsS) (k : FS) : RsS := match r with
  | .nx Γ h => k Γ h
  | .ct Γ h => k Γ h
  | .bk Γ h => .nx Γ h
  | .rt r h => .rt r h
  | .ex x Γ h => .ex x Γ h
  | .no => .no
open Classical in
noncomputable def loopF (g : FG) (ok : FH → Prop) (body : FS) : List FV → FS
  | [], Γ, h => if ok h then .nx Γ h else .no
  | d :: ds, Γ, h => if ok h then (match g d Γ with
    | some Γ' => (body Γ' h).turn (loopF g ok body ds)
    | none => .no) else .no
theorem PoS.turn {K : PySem.W.Frag} {mg : Str → Option Value} {μ : Nat → Addr} {n : Nat} {H : Hp} {D : Ends} {W : WX} {r : RsS} {f : FS} (p : PoS K mg μ n H D W (r.turn f)) {N : St → Hp → Prop}
    (hn : ∀ Γ' h' μ' σ' H', Step μ n H μ' h'.length H' → SR K mg μ' Γ' h' σ' H' → PoS K mg μ' h'.length H' D W (f Γ' h') → N σ' H') : PoS K mg μ n H { D with nx := N, ct := N, bk := D.nx } W r := by
  cases r with
  | no => exact p
  | nx Γ h =>
    have p' : PoS K mg μ n H D W (f Γ h) := p
    exact fun μ' σ' H' s q => hn Γ h μ' σ' H' s q (p'.step s)
  | ct Γ h =>
    have p' : PoS K mg μ n H D W (f Γ h) := p
    exact fun μ' σ' H' s q => hn Γ h μ' σ' H' s q (p'.step s)
  | bk Γ h => exact p
  | ex x Γ h => exact p
  | rt r h => exact p
noncomputable def sFor (g : FG) (src : Sl → FH → Rs Wk) (body : FS) : FS := fun Γ h => onE (src Γ h) Γ fun s h1 => loopF g s.ok body s.items Γ h1
variable {body : List Stmt} {f : FS}
theorem ss_for {tg : Expr} {os : List Nat} {g : FG} {src : Sl → FH → Rs Wk} (hp : PassesOwn (model X.prog X.w) X.A X.env X.xe) (hc : X.calm = true) (hi : SI X W tg iter src) (ht : SGt X tg os g) (hb : SB X W body f)
    (hs : ∀ x, foldedSetIterable iter X.env x = pure x := by intro _; rfl) : SS X W (.For tg iter body [] pos) (sFor g src f) := fun μ Γ h σ H D s p => by
  obtain ⟨wi, pi, q⟩ := hi
  obtain ⟨gt, pg, qg⟩ := ht
  refine wS.of (ps_for hp hc pi pg pss_w hs) (q μ Γ h σ H _ s ((PoS.onE s p).mono fun w h1 μ1 H1 _ s1 hr1 p1 J fw => ?_))
  obtain ⟨sr, th, p2⟩ := p1
  have okof : ∀ {ds : List FV} {Γ' : Sl} {h' : FH} {μ' : Nat → Addr} {H' : Hp}, PoS X.K X.mg μ' h'.length H' D W (loopF g w.ok f ds Γ' h') → w.ok h' := fun {ds Γ' h' μ' H'} z => by
    refine Classical.byContradiction fun no => ?_
    cases ds with
    | nil => unfold loopF at z; rw [if_neg no] at z; exact z
    | cons d ds => unfold loopF at z; rw [if_neg no] at z; exact z
  refine for_it fw (fun i σ' H' => ∃ μ' Γ' h', Step μ1 h1.length H1 μ' h'.length H' ∧ SR X.K X.mg μ' Γ' h' σ' H' ∧ PoS X.K X.mg μ' h'.length H' D W (loopF g w.ok f (w.items.drop i) Γ' h')) ⟨μ1, Γ, h1, Step.refl _ _ _, sr, p2⟩ (fun i σ' H' _ z => ?_) (fun i x σ' H2 H3 hi z y => ?_) (fun σ' H' z => ?_)
  · obtain ⟨μ', Γ', h', s', sr', p'⟩ := z
    exact ⟨μ', h', s', sr'.hr, okof p'⟩
  · obtain ⟨μ', Γ', h', s', sr', p'⟩ := z
    have o := okof p'
    obtain ⟨sm, y⟩ := y
    obtain ⟨d, hd, vd⟩ := y μ' h' s' sr'.hr o
    have e : w.items.drop i = d :: w.items.drop (i + 1) := by
      have hlt : i < w.items.length := hi
      rw [List.drop_eq_getElem_cons hlt]
      congr 1
      rw [List.getElem?_eq_getElem hlt] at hd
      exact Option.some.inj hd
    rw [e] at p'
    unfold loopF at p'
    rw [if_pos o] at p'
    cases z : g d Γ' with
    | none => rw [z] at p'; exact p'.elim
    | some Γ2 =>
      rw [z] at p'
      dsimp only at p'
      have s3 : Step μ' h'.length H2 μ' h'.length H3 := Step.same sm
      refine qg μ' Γ' h' σ' H3 x d Γ2 _ (sr'.step s3 (sr'.hr.same sm)) vd z fun σ2 sr2 _ => ?_
      exact hb μ' Γ2 h' σ2 H3 _ sr2 ((p'.step s3).turn fun Γ4 h4 μ4 σ4 H4 s4 sr4 p4 => ⟨μ4, Γ4, h4, (s'.trans s3).trans s4, sr4, p4⟩)
  · obtain ⟨μ', Γ', h', s', sr', p'⟩ := z
    have o := okof p'
    rw [List.drop_length] at p'
    unfold loopF at p'
    rw [if_pos o] at p'
    exact (show ∀ μ2 σ2 H2, _ → _ → D.nx σ2 H2 from p') μ' σ' H' (Step.refl _ _ _) sr'

/-! ### while -/
noncomputable def whileF (t : FT) (body : FS) : Nat → FS
  | 0, _, _ => .no
  | n + 1, Γ, h => onE (t Γ h) Γ fun b h1 => if b = true then (body Γ h1).turn (whileF t body n) else .nx Γ h1
theorem ss_while {t : FT} (n : Nat) (hp : PassesOwn (model X.prog X.w) X.A X.env X.xe) (hc : ST X W c t) (hb : SB X W body f) : SS X W (.While c body [] pos) (whileF t f n) := fun μ Γ h σ H D s p => by
  refine wS.of (ps_while hp pt_w pss_w) ⟨fun m σ' H' => ∃ μ' Γ' h', SR X.K X.mg μ' Γ' h' σ' H' ∧ Step μ h.length H μ' h'.length H' ∧ PoS X.K X.mg μ' h'.length H' D W (whileF t f m Γ' h'), ⟨n, μ, Γ, h, s, Step.refl _ _ _, p⟩, fun m σ1 H1 z => ?_⟩
  obtain ⟨μ1, Γ1, h1, sr, s1, p1⟩ := z
  cases m with
  | zero => exact p1.elim
  | succ m =>
    unfold whileF at p1
    refine hc μ1 Γ1 h1 σ1 H1 _ sr ((PoS.onE sr p1).mono fun b h2 μ2 H2 _ s2 hr2 p2 => ?_)
    obtain ⟨sr2, th, p3⟩ := p2
    cases b with
    | false =>
      rw [if_neg (by decide)] at p3 ⊢
      exact (show ∀ μ' σ' H', _ → _ → D.nx σ' H' from p3) μ2 _ H2 (Step.refl _ _ _) sr2
    | true =>
      rw [if_pos rfl] at p3 ⊢
      refine ⟨fun σ' H' => ∃ μ' Γ' h', SR X.K X.mg μ' Γ' h' σ' H' ∧ Step μ h.length H μ' h'.length H' ∧ PoS X.K X.mg μ' h'.length H' D W (whileF t f m Γ' h'), fun σ' H' z => ⟨m, Nat.lt_succ_self m, z⟩, ?_⟩
      exact hb μ2 Γ1 h2 σ1 H2 _ sr2 (p3.turn fun Γ4 h4 μ4 σ4 H4 s4 sr4 p4 => ⟨μ4, Γ4, h4, sr4, (s1.trans s2).trans s4, p4⟩)

end
end F

/-! F: comprehensions, methods of lists, stores into lists and dicts. -/
namespace F
open PySem PySem.Spec PyProof.Rows L2 G
section
variable {X : Cx} {W : WX} {e a b c o iter elt : Expr} {es : List Expr} {pos p0 p1 p2 : Pos} {fa fb fc : FE} {k : Nat}

/-! ### comprehensions -/
theorem wipe_get : ∀ (vs : List Nat) (σ : St) (j : Nat), (wipe σ vs)[j]? = if j ∈ vs then (σ[j]?).map (fun _ => none) else σ[j]?
  | [], σ, j => by simp [wipe]
  | v :: vs, σ, j => by
    show ((wipe σ vs).set v none)[j]? = _
    rw [List.getElem?_set]
    have ih := wipe_get vs σ j
    by_cases e : v = j
    · subst e
      rw [if_pos rfl, if_pos List.mem_cons_self]
      by_cases l : v < (wipe σ vs).length
      · rw [if_pos l]
        have : (wipe σ vs)[v]? = some ((wipe σ vs)[v]) := List.getElem?_eq_getElem l
        rw [this] at ih
        by_cases m : v ∈ vs
        · rw [if_pos m] at ih
          cases q : σ[v]? with
          | none => rw [q] at ih; cases ih
          | some x => rfl
        · rw [if_neg m] at ih
          rw [← ih]; rfl
      · rw [if_neg l]
        have : (wipe σ vs)[v]? = none := List.getElem?_eq_none (Nat.le_of_not_lt l)
        rw [this] at ih
        by_cases m : v ∈ vs
        · rw [if_pos m] at ih
          cases q : σ[v]? with
          | none => rfl
          | some x => rw [q] at ih; cases ih
        · rw [if_neg m] at ih
          rw [← ih]; rfl
    · rw [if_neg e, ih]
      simp only [List.mem_cons, Ne.symm e, false_or]
theorem wipe_ch {os vs : List Nat} {σ σ' : St} (c : Ch os (wipe σ vs) σ') (h : ∀ j, j ∈ os → j ∈ vs) : wipe σ' vs = wipe σ vs := by
  apply List.ext_getElem?
  intro j
  rw [wipe_get vs σ' j]
  by_cases m : j ∈ vs
  · rw [if_pos m]
    have e1 := wipe_get vs σ j
    rw [if_pos m] at e1
    rw [e1]
    have l : σ'.length = (wipe σ vs).length := c.1
    cases q : σ[j]? with
    | none =>
      rw [q] at e1
      have : j ≥ (wipe σ vs).length := List.getElem?_eq_none_iff.mp e1
      rw [List.getElem?_eq_none (by omega)]
    | some x =>
      rw [q] at e1
      have : j < (wipe σ vs).length := (List.getElem?_eq_some_iff.mp e1).1
      rw [List.getElem?_eq_getElem (by omega)]; rfl
  · rw [if_neg m]
    exact c.2 j fun z => m (h j z)
def wipeF (Γ : Sl) : List Nat → Sl
  | [] => Γ
  | v :: vs => (wipeF Γ vs).set v none
theorem SR.wipe {K : PySem.W.Frag} {mg : Str → Option Value} {μ : Nat → Addr} {Γ : Sl} {h : FH} {σ : St} {H : Hp} (r : SR K mg μ Γ h σ H) : ∀ vs : List Nat, SR K mg μ (wipeF Γ vs) h (L2.wipe σ vs) H
  | [] => r
  | v :: vs => (r.wipe vs).drop none
abbrev Blk (X : Cx) (scope : Scope) (φ : Cx → Prop) : Prop := ∀ (s : Shared) (H : Hp) (C : Addr) (cl : List (Str × Addr)) (fp : List Addr), φ (X.blk s H scope (compEnvC scope cl C X.env) fp)
def wEB (X : Cx) (scope : Scope) (e : Expr) : TE := fun σ H Q => Blk X scope fun Y => wE Y e σ H Q
structure wPT (Y : Cx) (ifs : List Expr) (σ : L2.St) (H : Hp) (Q : Bool → Hp → Prop) : Prop where
  go : ∀ pins s, Inv Y pins σ H s → wpAny (model Y.prog Y.w) Y.A (forIn ifs true fun c r => if r = true then do let ok ← isTrue c Y.env (eval c Y.env); pure (ForInStep.yield ok) else pure (ForInStep.yield r)) (TP Y pins σ Q) Y.xe s
def wTB (X : Cx) (scope : Scope) (ifs : List Expr) : TT := fun σ H Q => Blk X scope fun Y => wPT Y ifs σ H Q
/-- the tests of a comprehension -/
def STs (Y : Cx) (W : WX) (ifs : List Expr) (f : FT) : Prop :=
  ∀ μ Γ h σ H Q, SR Y.K Y.mg μ Γ h σ H → Po Y.K Y.mg μ h.length H (fun b h' μ' H' => Q b H') (fun c d H' => W c d σ H') (f Γ h) → wPT Y ifs σ H Q
def fYes : FT := fun _ h => .ok true h
theorem sts_nil : STs X W [] fYes := fun μ Γ h σ H Q s p => ⟨fun pins s' I => pts_nil.run pins s' σ H Q I (Po.last p s.hr (Same.refl _))⟩
theorem sts_one {t : FT} (h : ST X W c t) : STs X W [c] t := fun μ Γ h0 σ H Q s p => ⟨fun pins s' I => (pts_one pt_w).run pins s' σ H Q I (h μ Γ h0 σ H Q s p)⟩
/-- no error leaves -/
def noEx {α : Type} : Rs α → Rs α
  | .ok a h => .ok a h
  | _ => .no
theorem Po.noEx {α : Type} {K : PySem.W.Frag} {mg : Str → Option Value} {μ : Nat → Addr} {n : Nat} {H : Hp} {R : α → FH → (Nat → Addr) → Hp → Prop} {E E' : XK} {r : Rs α} (p : Po K mg μ n H R E (noEx r)) : Po K mg μ n H R E' r := by
  cases r with
  | no => exact p
  | ex x h => exact p.elim
  | ok a h => exact p
open Classical in
noncomputable def compF (g : FG) (ok : FH → Prop) (t : FT) (fe : FE) (Γ0 : Sl) : List FV → FH → Rs (List FV)
  | [], h => if ok h then .ok [] h else .no
  | d :: ds, h => if ok h then (match g d Γ0 with
    | some Γ' => (noEx (t Γ' h)).bind fun b h1 => if b = true then (noEx (toV (fe Γ' h1))).bind fun v h2 => (compF g ok t fe Γ0 ds h2).bind fun vs h3 => .ok (v :: vs) h3 else compF g ok t fe Γ0 ds h1
    | none => .no) else .no
noncomputable def fComp (src : Sl → FH → Rs Wk) (g : FG) (vs : List Nat) (t : FT) (fe : FE) : FE := fun Γ h => (src Γ h).bind fun s h1 => if s.items.length ≤ LIM then (compF g s.ok t fe (wipeF Γ vs) s.items h1).bind fun es h2 => .ok (.l es) h2 else .no
theorem compF_ok {g : FG} {ok : FH → Prop} {t : FT} {fe : FE} {Γ0 : Sl} {ds : List FV} {h : FH} {K : PySem.W.Frag} {mg : Str → Option Value} {μ : Nat → Addr} {n : Nat} {H : Hp} {β : Type} {k : List FV → FH → Rs β} {R : β → FH → (Nat → Addr) → Hp → Prop} {E : XK}
    (p : Po K mg μ n H R E ((compF g ok t fe Γ0 ds h).bind k)) : ok h := by
  refine Classical.byContradiction fun no => ?_
  cases ds with
  | nil => unfold compF at p; rw [if_neg no] at p; exact p
  | cons d ds => unfold compF at p; rw [if_neg no] at p; exact p
theorem bind_assoc {α β γ : Type} (r : Rs α) (f : α → FH → Rs β) (g : β → FH → Rs γ) : (r.bind f).bind g = r.bind fun a h => (f a h).bind g := by
  cases r <;> rfl
theorem Po.bindAt {α β : Type} {K : PySem.W.Frag} {mg : Str → Option Value} {μ μ1 : Nat → Addr} {n n1 : Nat} {H H1 : Hp} {R : β → FH → (Nat → Addr) → Hp → Prop} {E : XK} {r : Rs α} {k : α → FH → Rs β} (p : Po K mg μ n H R E (r.bind k)) (s : Step μ n H μ1 n1 H1) :
    Po K mg μ1 n1 H1 (fun a h' _ _ => Po K mg μ n H R E (k a h')) E r := by
  cases r with
  | no => exact p
  | ex x h => exact fun μ' H' c d s' => p μ' H' c d (s.trans s')
  | ok a h => exact fun _ _ _ _ => p
theorem comp_w {tg : Expr} {ifs : List Expr} {scope : Scope} {g : FG} {gt : TG} {wi : TI} {src : Sl → FH → Rs Wk} {os vs : List Nat} {t : FT} {fe : FE}
    (hsrc : ∀ μ Γ h σ H R, SR X.K X.mg μ Γ h σ H → Po X.K X.mg μ h.length H (fun s h1 μ1 H1 => ∀ J, FWalk X.K X.mg μ1 h1 H1 J s → R J H1) (fun c d H' => W c d σ H') (src Γ h) → wi σ H R)
    (ht : ∀ μ Γ h σ H v d Γ' (Q : St → Hp → Prop), SR X.K X.mg μ Γ h σ H → VR X.K H μ h.length d v → g d Γ = some Γ' → (∀ σ', SR X.K X.mg μ Γ' h σ' H → Ch os σ σ' → Q σ' H) → gt v σ H Q) (hos : ∀ j, j ∈ os → j ∈ vs)
    (hts : Blk X scope fun Y => STs Y wNo ifs t) (he : Blk X scope fun Y => SE Y wNo elt fe)
    {μ : Nat → Addr} {Γ : Sl} {h : FH} {σ : St} {H : Hp} {Q : VK} (s : SR X.K X.mg μ Γ h σ H) (p : Po X.K X.mg μ h.length H (fun r h' μ' H' => ∀ u, RR X.K H μ' h'.length H' r u → Q u H') (fun c d H' => W c d σ H') (fComp src g vs t fe Γ h)) :
    tLc wi gt (wTB X scope ifs) (wEB X scope elt) vs σ H Q := by
  refine hsrc μ Γ h σ H _ s (p.bind.mono fun w h1 μ1 H1 _ s1 hr1 p1 J fw => ?_)
  intro Dd hD
  split at p1
  rotate_left
  · exact p1.elim
  rename_i hlim
  have sD : Same H1 (upd H1 Dd (.lst [])) := same_new hD
  have keep : ∀ {μ' μ'' : Nat → Addr} {n' n'' : Nat} {H' H'' : Hp} {xs : List V}, Step μ' n' H' μ'' n'' H'' → H' Dd = some (.lst xs) → (∀ i, i < n' → μ' i ≠ Dd) → H'' Dd = some (.lst xs) ∧ ∀ i, i < n'' → μ'' i ≠ Dd := fun {μ' μ'' n' n'' H' H'' xs} s' e nd =>
    ⟨s'.fr _ _ e nd, fun i hi z => by
      by_cases l : i < n'
      · exact nd i l ((s'.ext i l).symm.trans z)
      · have := s'.new i (Nat.le_of_not_lt l) hi
        rw [z, e] at this; cases this⟩
  refine lc_it fw (fun i H' => ∃ μ' h' acc xs, Step μ1 h1.length H1 μ' h'.length H' ∧ HR X.K X.mg μ' h' H' ∧ H' Dd = some (.lst xs) ∧ (∀ j, j < h'.length → μ' j ≠ Dd) ∧ VRs X.K H' μ' h'.length acc xs ∧ xs.length ≤ i ∧
      Po X.K X.mg μ1 h1.length H1 (fun r h'' μ'' H'' => ∀ u, RR X.K H μ'' h''.length H'' r u → Q u H'') (fun c d H' => W c d σ H') ((compF g w.ok t fe (wipeF Γ vs) (w.items.drop i) h').bind fun es h2 => .ok (.l (acc ++ es)) h2))
    ⟨μ1, h1, [], [], Step.same sD, hr1.same sD, upd_same, fun j hj z => hr1.cls hj (by rw [z]; exact hD), .nil, Nat.le_refl _, p1⟩ (fun i H' _ z => ?_) (fun i x H2 H3 hi z y => ?_) (fun H' z => ?_)
  · obtain ⟨μ', h', acc, xs, s', hr', _, _, _, _, p'⟩ := z
    exact ⟨μ', h', s', hr', compF_ok p'⟩
  · obtain ⟨μ', h', acc, xs, s', hr', eD, nD, racc, lacc, p'⟩ := z
    have o := compF_ok p'
    obtain ⟨sm, y⟩ := y
    obtain ⟨d, hd, vd⟩ := y μ' h' s' hr' o
    have e : w.items.drop i = d :: w.items.drop (i + 1) := by
      have hlt : i < w.items.length := hi
      rw [List.drop_eq_getElem_cons hlt]
      congr 1
      rw [List.getElem?_eq_getElem hlt] at hd
      exact Option.some.inj hd
    rw [e] at p'
    unfold compF at p'
    rw [if_pos o] at p'
    cases z : g d (wipeF Γ vs) with
    | none => rw [z] at p'; exact p'.elim
    | some Γ2 =>
      rw [z] at p'
      dsimp only at p'
      rw [bind_assoc] at p'
      have s3 : Step μ' h'.length H2 μ' h'.length H3 := Step.same sm
      have hr3 := hr'.same sm
      obtain ⟨eD3, nD3⟩ := keep s3 eD nD
      have t3 := s'.trans s3
      have sw : SR X.K X.mg μ' (wipeF Γ vs) h' (L2.wipe σ vs) H3 := (s.wipe vs).step (s1.trans t3) hr3
      refine ht μ' (wipeF Γ vs) h' _ H3 x d Γ2 _ sw vd z fun σ2 sr2 ch => ⟨wipe_ch ch hos, ?_⟩
      intro ss HH C cl fp
      refine hts ss HH C cl fp μ' Γ2 h' σ2 H3 _ sr2 ((p'.bindAt t3).noEx.mono fun bb h4 μ4 H4 _ s4 hr4 p4 => ?_)
      obtain ⟨eD4, nD4⟩ := keep s4 eD3 nD3
      have racc4 := s4.vrs (s3.vrs racc)
      have t4 := t3.trans s4
      cases bb with
      | false =>
        rw [if_neg (by decide)] at p4 ⊢
        exact ⟨μ4, h4, acc, xs, t4, hr4, eD4, nD4, racc4, Nat.le_succ_of_le lacc, p4⟩
      | true =>
        rw [if_pos rfl] at p4 ⊢
        intro ss HH C cl fp
        rw [bind_assoc] at p4
        refine he ss HH C cl fp μ4 Γ2 h4 σ2 H4 _ (sr2.step s4 hr4) ((p4.bindAt t4).noEx.toV.mono fun rv h5 μ5 H5 _ s5 hr5 p5 u ru => ?_)
        obtain ⟨dv, h6, μ6, s6, hr6, v6, p6⟩ := p5 u ru
        obtain ⟨eD6, nD6⟩ := keep s6 eD4 nD4
        have racc6 := s6.vrs racc4
        have t6 := t4.trans s6
        have mu : Mut (H5 Dd) := by rw [eD6]; trivial
        have gw := gw_mut (o := .lst (xs ++ [u])) mu
        have hi' : i < w.items.length := hi
        refine ⟨xs, eD6, lim_lt (Nat.lt_of_lt_of_le (Nat.lt_of_le_of_lt lacc hi') hlim), μ6, h6, acc ++ [dv], xs ++ [u], ?_, ?_, upd_same, nD6, ?_, by rw [List.length_append]; exact Nat.succ_le_succ lacc, ?_⟩
        · refine ⟨t6.le, t6.ext, t6.new, fun a o ha hk => ?_, fun a ha => ?_, t6.gw.trans gw⟩
          · rw [upd_ne (fun z => by rw [z, hD] at ha; cases ha)]; exact t6.fr a o ha hk
          · by_cases z : a = Dd
            · rw [z, upd_same]; exact fun z => nomatch z
            · rw [upd_ne z]; exact t6.th a ha
        · exact ⟨fun j o hj => (hr6.at' j o hj).mono gw (fun _ _ => rfl) (Nat.le_refl _) (upd_ne (nD6 j (List.getElem?_eq_some_iff.mp hj).1)), hr6.inj⟩
        · exact VRs.mono gw (fun _ _ => rfl) (Nat.le_refl _) _ _ (racc6.append (.cons v6 .nil))
        · rw [bind_assoc] at p6
          have e2 : (fun (es : List FV) (h2 : FH) => Rs.ok (RV.l (acc ++ [dv] ++ es)) h2) = fun es h2 => (Rs.ok (dv :: es) h2).bind fun es h2 => Rs.ok (RV.l (acc ++ es)) h2 := by
            funext es h2
            show _ = Rs.ok (RV.l (acc ++ (dv :: es))) h2
            rw [List.append_assoc]; rfl
          rw [e2]
          exact p6
  · obtain ⟨μ', h', acc, xs, s', hr', eD, nD, racc, _, p'⟩ := z
    have o := compF_ok p'
    rw [List.drop_length] at p'
    unfold compF at p'
    rw [if_pos o] at p'
    have p2 : Po X.K X.mg μ1 h1.length H1 _ _ (Rs.ok (RV.l (acc ++ [])) h') := p'
    rw [List.append_nil] at p2
    refine p2 μ' H' s' hr' _ (.l ⟨?_, nD⟩ eD racc)
    cases q : H Dd with
    | none => rfl
    | some o => exact absurd hD (s1.th Dd (by rw [q]; exact fun z => nomatch z))
/-! targets within a block -/
def SGtB (X : Cx) (scope : Scope) (tg : Expr) (os : List Nat) (f : FG) : Prop := ∃ g, (Blk X scope fun Y => PG Y tg g) ∧ ∀ μ Γ h σ H v d Γ' (Q : St → Hp → Prop), SR X.K X.mg μ Γ h σ H → VR X.K H μ h.length d v → f d Γ = some Γ' → (∀ σ', SR X.K X.mg μ Γ' h σ' H → Ch os σ σ' → Q σ' H) → g v σ H Q
theorem sgb_name {scope : Scope} (i : Nat) {x : Str} (h : Blk X scope fun Y => PG Y (.Name x pos) (gName i)) : SGtB X scope (.Name x pos) [i] (tgN i) :=
  ⟨_, h, fun μ Γ h σ H v d Γ' Q s r e q => by
    cases e
    exact q _ (s.put r) ⟨by rw [List.length_set], fun j hj => by rw [List.getElem?_set_ne (fun z => hj (by rw [z]; exact List.mem_cons_self))]⟩⟩
def SGsB (X : Cx) (scope : Scope) (tgs : List Expr) (os : List Nat) (n : Nat) (f : FGs) : Prop := ∃ g, (Blk X scope fun Y => PGs Y tgs g) ∧ (∀ ds Γ Γ', f ds Γ = some Γ' → ds.length = n) ∧
  ∀ μ Γ h σ H vs ds Γ' (Q : St → Hp → Prop), SR X.K X.mg μ Γ h σ H → VRs X.K H μ h.length ds vs → f ds Γ = some Γ' → (∀ σ', SR X.K X.mg μ Γ' h σ' H → Ch os σ σ' → Q σ' H) → g vs σ H Q
theorem sgb_nil {scope : Scope} : SGsB X scope [] [] 0 tgNil := by
  obtain ⟨g, p, l, q⟩ := sg_nil (X := X)
  refine ⟨gNil, fun _ _ _ _ _ => pgs_nil, l, fun μ Γ h σ H vs ds Γ' Q s r e q => ?_⟩
  cases r with
  | nil => cases e; exact ⟨rfl, q _ s ⟨rfl, fun _ _ => rfl⟩⟩
  | cons a b => cases e
theorem sgb_cons {scope : Scope} {n : Nat} {os os' : List Nat} {f : FG} {g : FGs} (h1 : SGtB X scope e os f) (h2 : SGsB X scope es os' n g) (hs : Blk X scope fun Y => (assignEach (e :: es) Y.env).map (·.2) = assign e Y.env :: (assignEach es Y.env).map (·.2) := by intro _ _ _ _ _; rfl) : SGsB X scope (e :: es) (os ++ os') (n + 1) (tgCons f g) := by
  obtain ⟨t1, g1, q1⟩ := h1
  obtain ⟨t2, g2, l2, q2⟩ := h2
  refine ⟨_, fun a b c d e => pgs_cons (g1 a b c d e) (g2 a b c d e) (hs a b c d e), fun ds Γ Γ' e => ?_, fun μ Γ h σ H vs ds Γ' Q s r e k => ?_⟩
  · cases ds with
    | nil => cases e
    | cons d ds =>
      have e' : (f d Γ).bind (fun Γ' => g ds Γ') = some Γ' := e
      cases q : f d Γ with
      | none => rw [q] at e'; cases e'
      | some Γ1 => rw [q] at e'; exact congrArg (· + 1) (l2 ds Γ1 Γ' e')
  · cases r with
    | nil => cases e
    | cons a b =>
      rename_i d ds v vs
      have e' : (f d Γ).bind (fun Γ' => g ds Γ') = some Γ' := e
      cases q : f d Γ with
      | none => rw [q] at e'; cases e'
      | some Γ1 =>
        rw [q] at e'
        exact ⟨v, vs, rfl, q1 μ Γ h σ H v d Γ1 _ s a q fun σ1 s1 c1 => q2 μ Γ1 h σ1 H vs ds Γ' Q s1 b e' fun σ2 s2 c2 => k σ2 s2 (c1.trans c2)⟩
theorem sgb_tup {scope : Scope} {n kk : Nat} {os : List Nat} {g : FGs} (hc : Blk X scope fun Y => Y.calm = true) (h : SGsB X scope es os n g) (hn : Blk X scope fun Y => (assignEach es Y.env).length = n := by intro _ _ _ _ _; rfl) (hst : Blk X scope fun Y => (assignEach es Y.env).findIdx? (·.1) = none := by intro _ _ _ _ _; rfl) : SGtB X scope (.Tuple es kk pos) os (tgT g) := by
  obtain ⟨t, p, l, q⟩ := h
  refine ⟨L2.gTup X.K n t, fun a b c d e => pg_tup (hc a b c d e) (p a b c d e) (hn a b c d e) (hst a b c d e), fun μ Γ h σ H v d Γ' Q s r e k => ?_⟩
  unfold tgT at e
  split at e
  · cases r with
    | tup r1 r2 => exact ⟨_, _, rfl, r1, by rw [r2.len]; exact l _ _ _ e, q μ Γ h σ H _ _ Γ' Q s r2 e k⟩
  · cases e
theorem se_lc {tg : Expr} {ifs : List Expr} {scope : Scope} (own : List (Str × Nat)) {g : FG} {src : Sl → FH → Rs Wk} {os : List Nat} {t : FT} {fe : FE} (hc : X.calm = true) (hN : X.N.Nodup) (hi : SI X W tg iter src) (ok : BlkOk X.N X.env.scope scope own)
    (ht : SGtB X scope tg os g) (hos : ∀ j, j ∈ os → j ∈ own.map (·.2))
    (hts : Blk X scope fun Y => STs Y wNo ifs t) (he : Blk X scope fun Y => SE Y wNo elt fe)
    (hs : ∀ x, foldedSetIterable iter X.env x = pure x := by intro _; rfl) : SE X W (.ListComp elt [⟨tg, iter, ifs, 0⟩] scope pos) (fComp src g (own.map (·.2)) t fe) := fun μ Γ h σ H Q s p => by
  obtain ⟨wi, pi, q⟩ := hi
  obtain ⟨gt, pg, qg⟩ := ht
  exact wE.of (pe_lc (te := wEB X scope elt) (tt := wTB X scope ifs) hc hN pi ok pg (fun s H C cl fp => ⟨fun pins s' σ' H' Q' I q => (q s H C cl fp).go pins s' I⟩) (fun s H C cl fp => ⟨fun pins s' σ' H' Q' I q => (q s H C cl fp).go pins s' I⟩) hs) (comp_w (tg := tg) q qg hos hts he s p)
/-- y = [..] on one line -/
theorem ss_setLC (j : Nat) {tg : Expr} {ifs : List Expr} {scope : Scope} {y : Str} {py : Pos} (own : List (Str × Nat)) {g : FG} {src : Sl → FH → Rs Wk} {os : List Nat} {t : FT} {fe : FE} (hc : X.calm = true) (hN : X.N.Nodup) (hi : SI X W tg iter src) (ok : BlkOk X.N X.env.scope scope own)
    (ht : SGtB X scope tg os g) (hos : ∀ j, j ∈ os → j ∈ own.map (·.2))
    (hts : Blk X scope fun Y => STs Y wNo ifs t) (he : Blk X scope fun Y => SE Y wNo elt fe)
    (hj : X.N[j]? = some y := by rfl) (hyl : X.env.scope.names.lookup y = some .local := by rfl) (hk : X.env.scope.kind = .function := by rfl) (hpl : (py.line == p0.line) = true := by rfl) (hyn : (scope.names.any fun (n, k) => n == y && (k == .local || k == .cell)) = false := by decide +kernel)
    (hs : ∀ x, foldedSetIterable iter X.env x = pure x := by intro _; rfl) : SS X W (.Assign [.Name y py] (.ListComp elt [⟨tg, iter, ifs, 0⟩] scope p0) pos) (sSet j (fComp src g (own.map (·.2)) t fe)) := fun μ Γ h σ H D s p => by
  obtain ⟨wi, pi, q⟩ := hi
  obtain ⟨gt, pg, qg⟩ := ht
  refine wS.of (ps_setLc (te := wEB X scope elt) (tt := wTB X scope ifs) hc hN hj hyl (sw_true hk hyl hpl hyn) pi ok pg (fun s H C cl fp => ⟨fun pins s' σ' H' Q' I q => (q s H C cl fp).go pins s' I⟩) (fun s H C cl fp => ⟨fun pins s' σ' H' Q' I q => (q s H C cl fp).go pins s' I⟩) hs)
    (comp_w (Q := fun x H1 => gName j x σ H1 D.nx) (tg := tg) q qg hos hts he s ((PoS.onE s p).toV.mono fun x h1 μ1 H1 _ s1 hr1 p1 u ru => ?_))
  obtain ⟨d, h2, μ2, s2, hr2, v2, sr, th, p2⟩ := p1 u ru
  exact (show ∀ μ' σ' H', _ → _ → D.nx σ' H' from p2) μ2 _ H1 (Step.refl _ _ _) (sr.put v2)

/-! ### methods -/
def liftP {α : Type} : Option (α × FH) → Rs α
  | some (a, h) => .ok a h
  | none => .no
/-- by values: the receiver, the arguments; what it gives and the heap told behind it -/
def MtOk (X : Cx) (r : V → List V → Hp → VK → Prop) (g : RV → List FV → FH → Option (RV × FH)) : Prop :=
  ∀ μ h H0 H x u vs us (Q : VK) z h', HR X.K X.mg μ h H → (∀ a, H0 a ≠ none → H a ≠ none) → RR X.K H0 μ h.length H x u → VRs X.K H μ h.length vs us → g x vs h = some (z, h') →
    (∀ μ' w H', Step μ h.length H μ' h'.length H' → HR X.K X.mg μ' h' H' → RR X.K H0 μ' h'.length H' z w → Q w H') → r u us H Q
theorem tyV_ok {K : PySem.W.Frag} {mg : Str → Option Value} {H H0 : Hp} {μ : Nat → Addr} {h : FH} {x : RV} {u : V} {T : String} (hr : HR K mg μ h H) (r : RR K H0 μ h.length H x u) (e : tyR x h = some T) (hT : T ≠ "tuple") (hT2 : T ≠ "NoneType") (hT3 : T ≠ "bool") : tyV K T u H := by
  cases r with
  | l f a b => cases e; exact .inl ⟨rfl, _, SqL.of a⟩
  | d f a b => cases e; exact .inr (.inr (.inl ⟨rfl, .inl ⟨_, a⟩⟩))
  | v q =>
    cases q with
    | non => cases e; exact absurd rfl hT2
    | bl b => cases e; exact absurd rfl hT3
    | int i => cases e; exact rfl
    | str y => cases e; exact rfl
    | tup a b => cases e; exact absurd rfl hT
    | fl a b => cases e; exact .inl ⟨rfl, _, a.sqL⟩
    | ref l =>
      rename_i i
      have e' : (match h[i]? with | some (.lst _) => some "list" | some (.dK _) => some "dict" | some (.dT _) => some "dict" | _ => none) = some T := e
      split at e'
      · rename_i z zh
        cases e'
        obtain ⟨xs, h1, h2⟩ := hr.at' _ _ zh
        exact .inl ⟨rfl, _, SqL.of h1⟩
      · rename_i z zh
        cases e'
        obtain ⟨xs, h1, h2⟩ := hr.at' _ _ zh
        exact .inr (.inr (.inl ⟨rfl, .inl ⟨_, h1⟩⟩))
      · rename_i z zh
        cases e'
        obtain ⟨xs, h1, h2⟩ := hr.at' _ _ zh
        exact .inr (.inr (.inl ⟨rfl, .inr ⟨_, h1⟩⟩))
      · cases e'
def fMt (T : String) (g : RV → List FV → FH → Option (RV × FH)) (fo : FE) (fs : FA) : FE := fun Γ h => (fo Γ h).bind fun x h1 => if tyR x h1 = some T then (fs Γ h1).bind fun vs h2 => liftP (g x vs h2) else .no
theorem se_mt {name : Str} {apos : Pos} {T : String} {r : V → List V → Hp → VK → Prop} {g : RV → List FV → FH → Option (RV × FH)} {fo : FE} {fs : FA}
    (pe : ∀ {to : TE} {t : TA}, PE X o to → PA X (e :: es) t → PE X (.Call (.Attribute o name apos) (e :: es) [] pos) (tBM X.K T r to t)) (hg : MtOk X r g) (hT : T ≠ "tuple" ∧ T ≠ "NoneType" ∧ T ≠ "bool") (ho : SE X W o fo) (ha : SA X W (e :: es) fs) :
    SE X W (.Call (.Attribute o name apos) (e :: es) [] pos) (fMt T g fo fs) := fun μ Γ h σ H Q s p =>
  wE.of (pe pe_w pa_w) (ho μ Γ h σ H _ s (p.bind.mono fun x h1 μ1 H1 _ s1 hr1 p1 u ru => by
    split at p1
    · rename_i ht
      refine ⟨tyV_ok hr1 ru ht hT.1 hT.2.1 hT.2.2, ha μ1 Γ h1 σ H1 _ (s.step s1 hr1) (p1.bind.mono fun vs h2 μ2 H2 _ s2 hr2 p2 us rus => ?_)⟩
      cases z : g x vs h2 with
      | none => rw [z] at p2; exact p2.elim
      | some y =>
        rw [z] at p2
        exact hg μ2 h2 H H2 x u vs us Q y.1 y.2 hr2 (fun a q => s2.th a (s1.th a q)) (ru.step s2) rus z fun μ' w H' s' hr' rw' => p2 μ' H' s' hr' w rw'
    · exact p1.elim))
def gAppend (x : RV) (vs : List FV) (h : FH) : Option (RV × FH) := match x, vs with
  | .v (.ref m), [y] => match h[m]? with
    | some (.lst ds) => if ds.length < LIM then some (.v .non, h.set m (.lst (ds ++ [y]))) else none
    | _ => none
  | _, _ => none
theorem ref_inv {K : PySem.W.Frag} {H H0 : Hp} {μ : Nat → Addr} {n m : Nat} {u : V} (r : RR K H0 μ n H (.v (.ref m)) u) : u = .ref (μ m) ∧ m < n := by
  cases r with | v q => cases q with | ref l => exact ⟨rfl, l⟩
theorem append_ok : MtOk X rAppend gAppend := fun μ h H0 H x u vs us Q z h' hr th rx rvs e k => by
  unfold gAppend at e
  split at e
  · rename_i m y
    split at e
    · rename_i ds q
      split at e
      · rename_i hl
        cases e
        obtain ⟨rfl, lm⟩ := ref_inv rx
        obtain ⟨xs, h1, h2⟩ := hr.lst q
        cases rvs with
        | cons a b =>
          cases b
          rename_i v
          refine ⟨μ m, xs, v, rfl, rfl, h1, by rw [h2.len]; exact lim_lt hl, ?_⟩
          have mu : Mut (H (μ m)) := by rw [h1]; trivial
          have st : Step μ h.length H μ (h.set m (.lst (ds ++ [y]))).length (upd H (μ m) (.lst (xs ++ [v]))) := by rw [List.length_set]; exact Step.mut lm mu
          refine k μ _ _ st (hr.set lm ⟨_, upd_same, ?_⟩) (.v .non)
          exact VRs.mono (gw_mut mu) (fun _ _ => rfl) (Nat.le_refl _) _ _ (h2.append (.cons a .nil))
      · cases e
    · cases e
  · cases e
theorem se_append {apos : Pos} {fo : FE} {fs : FA} (ho : SE X W o fo) (ha : SA X W [e] fs)
    (pe : ∀ {to : TE} {t : TA}, PE X o to → PA X [e] t → PE X (.Call (.Attribute o "append" apos) [e] [] pos) (tBM X.K "list" rAppend to t) := by intro to t h1 h2; exact pe_bm PySem.F.plainAttrs_list PySem.F.slot_list_append PySem.F.type_list_append mt_append h1 h2) :
    SE X W (.Call (.Attribute o "append" apos) [e] [] pos) (fMt "list" gAppend fo fs) := se_mt pe append_ok (by decide) ho ha
def gInsert (x : RV) (vs : List FV) (h : FH) : Option (RV × FH) := match x, vs with
  | .v (.ref m), [.int i, y] => match h[m]? with
    | some (.lst ds) => if ds.length < LIM ∧ 0 ≤ i ∧ i < 2 ^ 63 then some (.v .non, h.set m (.lst (ds.take i.toNat ++ [y] ++ ds.drop i.toNat))) else none
    | _ => none
  | _, _ => none
/-! ### xs[i] = e, d[k] = e -/
def rSetG : TSet := fun o i v H Q => rSetL o i v H Q ∨ ∃ a H', o = .ref a ∧ DPut H a i v H' ∧ Q H'
theorem set_g (hu : X.A.units + 1 < cLine) : PSet X rSetG := by
  intro pins s σ H o i v ov iv u Q I ro ri rv h
  rcases h with h | ⟨a, H', rfl, g, q⟩
  · exact set_list pins s σ H o i v ov iv u Q I ro ri rv h
  · obtain rfl : ov = Value.ref a := ro
    exact d_setItem hu I g ri rv fun s' I' => ⟨H', I', q⟩
def putF (kvs : List (Key × FV)) (k : Key) (v : FV) : List (Key × FV) :=
  if (kvs.any fun kv => decide (kv.1 = k)) = true then kvs.map (fun kv => if kv.1 = k then (kv.1, v) else kv) else kvs ++ [(k, v)]
theorem KvR.any {κ : Type} [DecidableEq κ] {K : PySem.W.Frag} {H : Hp} {μ : Nat → Addr} {n : Nat} (k : κ) : ∀ {ds : List (κ × FV)} {ws : List (κ × V)}, KvR K H μ n ds ws → (ws.any fun kv => decide (kv.1 = k)) = (ds.any fun kv => decide (kv.1 = k))
  | _, _, .nil => rfl
  | _, _, .cons a b => by rw [List.any_cons, List.any_cons, KvR.any k b, a.1]
theorem KvR.map {K : PySem.W.Frag} {H : Hp} {μ : Nat → Addr} {n : Nat} {k : Key} {v : V} {d : FV} (m : VR K H μ n d v) : ∀ {ds : List (Key × FV)} {ws : List (Key × V)}, KvR K H μ n ds ws → KvR K H μ n (ds.map fun kv => if kv.1 = k then (kv.1, d) else kv) (ws.map fun kv => if kv.1 = k then (kv.1, v) else kv)
  | _, _, .nil => .nil
  | p :: _, q :: _, .cons h t => by
    refine .cons ?_ (KvR.map m t)
    by_cases e : p.1 = k
    · dsimp only; rw [if_pos e, if_pos (h.1 ▸ e)]; exact ⟨h.1, m⟩
    · dsimp only; rw [if_neg e, if_neg (h.1 ▸ e)]; exact h
theorem KvR.app {κ : Type} {K : PySem.W.Frag} {H : Hp} {μ : Nat → Addr} {n : Nat} {k : κ} {v : V} {d : FV} (m : VR K H μ n d v) : ∀ {ds : List (κ × FV)} {ws : List (κ × V)}, KvR K H μ n ds ws → KvR K H μ n (ds ++ [(k, d)]) (ws ++ [(k, v)])
  | _, _, .nil => .cons ⟨rfl, m⟩ .nil
  | _, _, .cons h t => .cons h (KvR.app m t)
theorem KvR.put {K : PySem.W.Frag} {H : Hp} {μ : Nat → Addr} {n : Nat} {k : Key} {v : V} {d : FV} {ds : List (Key × FV)} {ws : List (Key × V)} (m : VR K H μ n d v) (h : KvR K H μ n ds ws) : KvR K H μ n (putF ds k d) (putK ws k v) := by
  unfold putK putF
  rw [h.any k]
  split
  · exact h.map m
  · exact h.app m
def gSet (v : FV) (x i : RV) (h : FH) : Option FH := match x, i with
  | .v (.ref m), .v d => match h[m]? with
    | some (.lst ds) => match d with
      | .int j => (ixN ds.length j).map fun n => h.set m (.lst (ds.set n v))
      | _ => none
    | some (.dK kvs) => match d.key with
      | some kk => if kvs.length < LIM then some (h.set m (.dK (putF kvs kk v))) else none
      | none => none
    | _ => none
  | _, _ => none
def sPut (fe fo fi : FE) : FS := fun Γ h => onE (toV (fe Γ h)) Γ fun v h1 => onE (fo Γ h1) Γ fun x h2 => onE (fi Γ h2) Γ fun i h3 => match gSet v x i h3 with
  | some h4 => .nx Γ h4
  | none => .no
theorem ss_put {ppos : Pos} {fe fo fi : FE} {i : Expr} (hr : Room k X.A) (he : SE X W e fe) (ho : SE X W o fo) (hi : SE X W i fi)
    (hp : ∀ {to ti te : TE}, PE X o to → PE X i ti → PE X e te → PS X (.Assign [.Subscript o i ppos] e pos) (tAsg te (gSub to ti rSetG)) := by
      intro to ti te h1 h2 h3; exact ps_asg h3 (pg_sub h1 h2 (set_g (hu_of (by assumption))))) : SS X W (.Assign [.Subscript o i ppos] e pos) (sPut fe fo fi) := fun μ Γ h σ H D s p =>
  wS.of (hp pe_w pe_w pe_w) (he μ Γ h σ H _ s ((PoS.onE s p).toV.mono fun x0 h1 μ1 H1 _ s1 hr1 p1 u ru => by
    obtain ⟨d, h2, μ2, s2, hr2, v2, sr2, th2, p2⟩ := p1 u ru
    refine ho μ2 Γ h2 σ H1 _ sr2 ((PoS.onE sr2 p2).mono fun x h3 μ3 H3 _ s3 hr3 p3 ux rux => ?_)
    obtain ⟨sr3, th3, p3⟩ := p3
    refine hi μ3 Γ h3 σ H3 _ sr3 ((PoS.onE sr3 p3).mono fun iv h4 μ4 H4 _ s4 hr4 p4 ui rui => ?_)
    obtain ⟨sr4, th4, p4⟩ := p4
    have v4 := s4.vr (s3.vr v2)
    have rx4 := rux.step s4
    cases z : gSet d x iv h4 with
    | none => rw [z] at p4; exact p4.elim
    | some h5 =>
      rw [z] at p4
      unfold gSet at z
      split at z
      · rename_i m dd _ _
        obtain ⟨rfl, lm⟩ := ref_inv rx4
        split at z
        · rename_i ds q
          split at z
          · rename_i j _
            cases qj : ixN ds.length j with
            | none => rw [qj] at z; cases z
            | some n =>
              rw [qj] at z
              cases z
              obtain ⟨xs, h6, h7⟩ := hr4.lst q
              have mu : Mut (H4 (μ4 m)) := by rw [h6]; trivial
              refine .inl ⟨μ4 m, xs, j, n, rfl, rr_int rui, h6, by rw [h7.len]; exact qj, ?_⟩
              have st : Step μ4 h4.length H4 μ4 (h4.set m (.lst (ds.set n d))).length (upd H4 (μ4 m) (.lst (xs.set n u))) := by rw [List.length_set]; exact Step.mut lm mu
              have hr5 := hr4.set (o := .lst (ds.set n d)) (u := .lst (xs.set n u)) lm ⟨_, upd_same, VRs.mono (gw_mut mu) (fun _ _ => rfl) (Nat.le_refl _) _ _ (h7.set n v4)⟩
              exact (show ∀ μ' σ' H', _ → _ → D.nx σ' H' from p4) μ4 σ _ st (sr4.step st hr5)
          · cases z
        · rename_i kvs q
          split at z
          · rename_i kk qk
            split at z
            · rename_i hl
              cases z
              obtain ⟨ws, h6, h7⟩ := hr4.at' m _ q
              have mu : Mut (H4 (μ4 m)) := by rw [h6]; trivial
              have eu := key_ok rui qk
              subst eu
              refine .inr ⟨μ4 m, _, rfl, DPut.k h6 (by rw [h7.len]; exact lim_lt hl), ?_⟩
              have st : Step μ4 h4.length H4 μ4 (h4.set m (.dK (putF kvs kk d))).length (upd H4 (μ4 m) (.dK (putK ws kk u))) := by rw [List.length_set]; exact Step.mut lm mu
              have hr5 := hr4.set (o := .dK (putF kvs kk d)) (u := .dK (putK ws kk u)) lm ⟨_, upd_same, (h7.put v4).mono (gw_mut mu) (fun _ _ => rfl) (Nat.le_refl _)⟩
              exact (show ∀ μ' σ' H', _ → _ → D.nx σ' H' from p4) μ4 σ _ st (sr4.step st hr5)
            · cases z
          · cases z
        · cases z
      · cases z))
end
end F

/-! F: the end of a law. -/
namespace F
open PySem PySem.Spec PyProof.Rows L2 G
theorem vrs_ints {K : PySem.W.Frag} {H : Hp} {μ : Nat → Addr} {n : Nat} : ∀ ns : List Int, VRs K H μ n (ns.map FV.int) (ns.map V.int)
  | [] => .nil
  | i :: ns => .cons (.int i) (vrs_ints ns)
def spLaw (K : PySem.W.Frag) : Sp := fun vs H Q _ => ∃ (a : Addr) (ns : List Int), vs = [.ref a] ∧ ns.length ≤ 63 ∧ SqF K H a (ns.map V.int) ∧ ∀ H', Q (.bl true) H'
theorem spLaw_to {K : PySem.W.Frag} {mg : Str → Option Value} {f : FDef} (hf : ∀ ns : List Int, ns.length ≤ 63 → ∃ h', f [.fl (ns.map .int)] [] = .ok (.v (.bl true)) h') {vs : List V} {H : Hp} {Q : VK} {E : XK} (q : spLaw K vs H Q E) : spF K mg f vs H Q E := by
  obtain ⟨a, ns, rfl, hl, hq, k⟩ := q
  obtain ⟨h', e⟩ := hf ns hl
  refine ⟨fun _ => 0, [], [.fl (ns.map .int)], ⟨(fun i o z => by cases z), fun i j z => absurd z (Nat.not_lt_zero _)⟩, .cons (.fl hq (vrs_ints ns)) .nil, ?_⟩
  rw [e]
  intro μ' H' s hr u ru
  cases ru with
  | v r => cases r; exact k H'
theorem walkF {l : PySem.W.OpenLaw} {q : Program} {loose : List Str} {XP : (Str → Option Value) → Heap → Prop} {YP : World → Heap → Prop} {d : DefRec} {K : Params → PySem.W.Frag} {k : Nat} {f : FDef} (hn : l.most = some 63) (hdf : d.params.defaults = [])
    (hY : ∀ (w : World) (h : Heap), YP w h → (K w.params).In h) (hr : Room k callerA)
    (F : ∀ (w : World) (mg : Str → Option Value) (fa : Addr) (h : Heap), (K w.params).In h → h.Ns mainGlobals mg → mg d.name = some (.ref fa) →
      ∃ fd : FuncData, (∀ (s : Shared) (u : Value), BindsTo s fd ⟨[u], []⟩ [("_law_script", u)]) ∧ ∀ base : Heap, (K w.params).In base → base.Ns mainGlobals mg → FnOk l.prog w (K w.params) mg base (L2.CX l.prog w) k fa fd ["_law_script"] (spF (K w.params) mg f))
    (hf : ∀ ns : List Int, ns.length ≤ 63 → ∃ h', f [.fl (ns.map .int)] [] = .ok (.v (.bl true)) h') :
    PySem.W.WalkO q loose XP YP l.row.toRowW d [] (fun f vs => PySem.call f vs) :=
  L2.walk_of (n := 63) (k := k) (x := "_law_script") (CX := fun w => L2.CX l.prog w) (sp := fun w => spLaw (K w.params)) hn (by decide) hdf hr hY (fun w mg fa h a b c => by
    obtain ⟨fd, h1, h2⟩ := F w mg fa h a b c
    exact ⟨fd, h1, fun base x y => (h2 base x y).imp fun vs H Q E z => spLaw_to hf z⟩) (fun w H a ns hl ho hs => ⟨a, ns, rfl, hl, by
      rcases hs with (hs | hs) | hs
      · rcases ho a with z | ⟨o, xs, z⟩
        · rw [z] at hs; cases hs
        · rw [z] at hs; cases hs
      · exact .inl hs
      · exact .inr hs, fun _ => rfl⟩) fun w H s e s' h => by
    obtain ⟨_, _, _, _, _, _, _, _, _, _, _, _, z⟩ := h
    exact z.elim
/-- no def: nothing is said -/
def fNo : FDef := fun _ _ => .no
theorem hasNo {P : Program} {w : World} {K : PySem.W.Frag} {mg : Str → Option Value} {base : Heap} {n : Nat} {x : Str} {ps : List Str} {a : Addr} {fd : FuncData} (hm : mg x = some (.ref a)) (k : PySem.W.keepIn K (.ref a) = true) (b : L2.Binds K fd ps []) : HasF P w K mg base n x ps fNo :=
  ⟨a, fd, ⟨fun vs H Q E ⟨_, _, _, _, _, p⟩ => p.elim, fun _ _ _ _ _ _ _ _ _ _ _ _ _ ⟨_, _, _, _, _, p⟩ => p.elim⟩, hm, k, b⟩
end F

/-! F: dicts displayed and copied, the module's tuples and dicts of texts. -/
namespace F
open PySem PySem.Spec PyProof.Rows L2 G
theorem Step.own {μ μ' : Nat → Addr} {n n' : Nat} {H H2 : Hp} {p : Addr} {o : HO} (s : Step μ n H μ' n' H2) (hp : H p = none) (mu : Mut (H2 p)) : Step μ n H μ' n' (upd H2 p o) where
  le := s.le
  ext := s.ext
  new := s.new
  fr a u ha hk := by rw [upd_ne (fun z => by rw [z, hp] at ha; cases ha)]; exact s.fr a u ha hk
  th a ha := by
    by_cases z : a = p
    · rw [z, upd_same]; exact fun z => nomatch z
    · rw [upd_ne z]; exact s.th a ha
  gw := s.gw.trans (gw_mut mu)
theorem HR.own {K : PySem.W.Frag} {mg : Str → Option Value} {μ : Nat → Addr} {h : FH} {H : Hp} {p : Addr} {o : HO} (r : HR K mg μ h H) (mu : Mut (H p)) (nd : ∀ i, i < h.length → μ i ≠ p) : HR K mg μ h (upd H p o) :=
  ⟨fun j u hj => (r.at' j u hj).mono (gw_mut mu) (fun _ _ => rfl) (Nat.le_refl _) (upd_ne (nd j (List.getElem?_eq_some_iff.mp hj).1)), r.inj⟩
theorem Fre.keep {μ μ' : Nat → Addr} {n n' : Nat} {H H' : Hp} {p : Addr} {o : HO} (s : Step μ n H μ' n' H') (e : H p = some o) (nd : ∀ i, i < n → μ i ≠ p) : H' p = some o ∧ ∀ i, i < n' → μ' i ≠ p :=
  ⟨s.fr _ _ e nd, fun i hi z => by
    by_cases l : i < n
    · exact nd i l ((s.ext i l).symm.trans z)
    · have := s.new i (Nat.le_of_not_lt l) hi
      rw [z, e] at this; cases this⟩
section
variable {X : Cx} {W : WX} {e a b c o : Expr} {es : List Expr} {pos p0 p1 : Pos} {fa fb : FE} {k : Nat}
/-! ### dict(d) -/
def gDict (x : RV) (h : FH) : Option RV := match x.dict h with
  | some kvs => some (.d kvs)
  | none => none
theorem se_dict (hm : X.mg "dict" = none) (ha : SE X W e fa) (hg : Gl X "dict" := by rfl)
    (he : starEach (e :: []) X.env = (false, eval e X.env) :: starEach [] X.env := by exact star1 rfl) (hpl : (backTo pos (starEach [] X.env)).any (·.1) = false := by rfl) : SE X W (.Call (.Name "dict" p0) [e] [] pos) (fUn gDict fa) :=
  se_t1 call_dictD (fun μ h H0 H x u Q z hr th ru hz k => by
    unfold gDict at hz
    split at hz
    · rename_i kvs e1
      cases hz
      obtain ⟨q, ws, rfl, h4, h5⟩ := dict_ok hr ru e1
      exact ⟨q, ws, rfl, .inl h4, fun l hl => k _ _ (same_new hl) (rr_dct hr th hl h5)⟩
    · cases hz) hm (by decide +kernel) ha hg (by decide) (by decide) he hpl

/-! ### {k: v, ..} -/
abbrev FPs := Sl → FH → Rs (List (Key × FV))
def dNil : FPs := fun _ h => .ok [] h
def dCons (fk fv : FE) (f : FPs) : FPs := fun Γ h => (F.toV (fk Γ h)).bind fun k h1 => (F.toV (fv Γ h1)).bind fun v h2 => match k.key with
  | some kk => (f Γ h2).bind fun r h3 => .ok ((kk, v) :: r) h3
  | none => .no
def SPs (X : Cx) (W : WX) (pos : Pos) (keys : List (Option Expr)) (values : List Expr) (f : FPs) : Prop := ∃ trs, PPs X pos keys values trs ∧ ∀ μ Γ h σ H Q, SR X.K X.mg μ Γ h σ H →
  Po X.K X.mg μ h.length H (fun kvs h' μ' H' => ∀ ws, KvR X.K H' μ' h'.length kvs ws → Q (ws.map fun kv => (L2.kV kv.1, kv.2)) H') (fun c d H' => W c d σ H') (f Γ h) → tPairs trs σ H Q
theorem sps_nil : SPs X W pos [] [] dNil := ⟨_, pps_nil, fun μ Γ h σ H Q s p => Po.last p s.hr (Same.refl _) [] .nil⟩
theorem key_ok' {K : PySem.W.Frag} {H : Hp} {μ : Nat → Addr} {n : Nat} {d : FV} {u : V} {k : Key} (q : VR K H μ n d u) (e : d.key = some k) : u = L2.kV k := by
  cases q with
  | int i => cases e; rfl
  | str x => cases e; rfl
  | _ => cases e
theorem sps_cons {keys : List (Option Expr)} {values : List Expr} {f : FPs} (ha : SE X W a fa) (hb : SE X W b fb) (h : SPs X W pos keys values f) : SPs X W pos (some a :: keys) (b :: values) (dCons fa fb f) := by
  obtain ⟨trs, pp, q⟩ := h
  refine ⟨_, pps_cons pe_w pe_w pp, fun μ Γ h σ H Q s p => ?_⟩
  refine ha μ Γ h σ H _ s (p.bind.toV.mono fun x h1 μ1 H1 _ s1 hr1 p1 u ru => ?_)
  obtain ⟨d, h2, μ2, s2, hr2, v2, p2⟩ := p1 u ru
  have sr2 := s.step s2 hr2
  refine hb μ2 Γ h2 σ H1 _ sr2 (p2.bind.toV.mono fun y h3 μ3 H3 _ s3 hr3 p3 v rv => ?_)
  obtain ⟨d', h4, μ4, s4, hr4, v4, p4⟩ := p3 v rv
  cases z : d.key with
  | none => rw [z] at p4; exact p4.elim
  | some kk =>
    rw [z] at p4
    have eu := key_ok' v2 z
    subst eu
    refine q μ4 Γ h4 σ H3 _ (sr2.step s4 hr4) (p4.bind.mono fun kvs h5 μ5 H5 _ s5 hr5 p5 ws rws => ?_)
    exact p5.last hr5 (Same.refl _) ((kk, v) :: ws) (.cons ⟨rfl, s5.vr v4⟩ rws)
def mergeF (kvs more : List (Key × FV)) : List (Key × FV) := more.foldl (fun acc kv => putF acc kv.1 kv.2) kvs
theorem KvR.merge {K : PySem.W.Frag} {H : Hp} {μ : Nat → Addr} {n : Nat} {more : List (Key × FV)} {ws : List (Key × V)} (h : KvR K H μ n more ws) : ∀ {kvs : List (Key × FV)} {us : List (Key × V)}, KvR K H μ n kvs us → KvR K H μ n (mergeF kvs more) (mergeK us ws) := by
  unfold KvR at h
  induction h with
  | nil => exact fun q => q
  | @cons p q ps qs h t ih =>
    intro kvs us r
    have e : KvR K H μ n (putF kvs p.1 p.2) (putK us q.1 q.2) := by
      rw [← h.1]
      exact KvR.put h.2 r
    exact ih e
def fDis (f : FPs) : FE := fun Γ h => (f Γ h).bind fun kvs h1 => if kvs.length ≤ 15 then .ok (.d (mergeF [] kvs)) h1 else .no
theorem se_dis {keys : List (Option Expr)} {values : List Expr} {f : FPs} (h : SPs X W pos keys values f) (hall : keys.all (·.isSome) = true := by rfl) (hl : keys.length = values.length := by rfl) (h0 : keys ≠ [] := by exact fun z => nomatch z)
    (h15 : keys.length ≤ 15 := by decide) : SE X W (.Dict keys values pos) (fDis f) := fun μ Γ h0' σ H Q s p => by
  obtain ⟨trs, pp, q⟩ := h
  refine wE.of (pe_disp pp hall hl h0 h15) (fun dp hp => ?_)
  have sn : Same H (upd H dp (.dK [])) := same_new hp
  have nd : ∀ i, i < h0'.length → μ i ≠ dp := fun i hi z => s.hr.cls hi (by rw [z]; exact hp)
  have s0 : Step μ h0'.length H μ h0'.length (upd H dp (.dK [])) := Step.same sn
  refine q μ Γ h0' σ _ _ (s.step s0 (s.hr.same sn)) ((p.bindAt s0).mono fun kvs h1 μ1 H1 _ s1 hr1 p1 ws rws => ?_)
  obtain ⟨e1, nd1⟩ := Fre.keep s1 upd_same nd
  have t1 := s0.trans s1
  split at p1
  · rename_i hl15
    have mu : Mut (H1 dp) := by rw [e1]; trivial
    refine ⟨e1, ws, rfl, by rw [rws.len]; exact hl15, ?_⟩
    refine p1 μ1 _ (t1.own hp mu) (hr1.own mu nd1) _ (.d ⟨hp, nd1⟩ upd_same ?_)
    exact (KvR.merge rws .nil).mono (gw_mut mu) (fun _ _ => rfl) (Nat.le_refl _)
  · exact p1.elim

/-! ### the module's tuples of texts -/
def tupOf (o : Obj) (xs : List Str) : Bool := (o.cls == .type "tuple") && match o.data with
  | .seq its _ => decide (its.size ≤ 100) && (its.toList.length == xs.length) && (its.toList.zip xs).all fun p => Value.isStrOf p.2 p.1
  | _ => false
theorem gc_tup {K : PySem.W.Frag} {mg : Str → Option Value} {x : Str} {a : Addr} {o : Obj} {xs : List Str} (hm : mg x = some (.ref a)) (hl : K.lookup a = some o) (ht : tupOf o xs = true) : GC K mg x (.tup (xs.map .str)) := by
  obtain ⟨cls, dd, data, sl⟩ := o
  unfold tupOf at ht
  rw [Bool.and_eq_true] at ht
  obtain ⟨hc, hd⟩ := ht
  have hc' : cls = .type "tuple" := by simpa using hc
  cases data with
  | seq its n =>
    simp only [Bool.and_eq_true] at hd
    obtain ⟨⟨h1, h2⟩, h3⟩ := hd
    have h1' : its.size ≤ 100 := by simpa using h1
    have key : ∀ (us : List Value) (xs : List Str), us.length = xs.length → ((us.zip xs).all fun p => Value.isStrOf p.2 p.1) = true → Vals (xs.map V.str) us := by
      intro us
      induction us with
      | nil => intro xs e _; cases xs with
        | nil => exact .nil
        | cons _ _ => cases e
      | cons u us ih =>
        intro xs e f
        cases xs with
        | nil => cases e
        | cons x xs =>
          rw [List.zip_cons_cons, List.all_cons, Bool.and_eq_true] at f
          obtain ⟨t, e1⟩ := Value.isStrOf_shape (x := x) (v := u) f.1
          exact .cons ⟨t, e1⟩ (ih xs (Nat.succ.inj e) f.2)
    have vs := key its.toList xs (by simpa using h2) h3
    refine ⟨.ref a, .ref a, hm, rfl, fun H μ n' => .tup (xs := xs.map V.str) (.inr ⟨_, its, n, hl, hc', rfl, Nat.le_trans h1' (by decide), vs⟩) ?_⟩
    clear key vs h1 h2 h3 h1' hl hm
    induction xs with
    | nil => exact .nil
    | cons x xs ih => exact .cons (.str x) ih
  | _ => cases hd

/-! ### the module's dicts of texts -/
structure GD (K : PySem.W.Frag) (w : World) (mg : Str → Option Value) (x : Str) (kvs : List (Str × Str)) : Prop where
  ex : ∃ a, mg x = some (.ref a) ∧ ∀ z y, kvs.lookup z = some y → KDct K w a z (.str y)
def gKd (kvs : List (Str × Str)) (y : RV) (_ : FH) : Option RV := match y with
  | .v (.str z) => (kvs.lookup z).map fun x => .v (.str x)
  | _ => none
theorem se_kd {x : Str} {kvs : List (Str × Str)} (g : GD X.K X.w X.mg x kvs) (hb : SE X W b fb) (hg : Gl X x := by rfl) (hd : (x == ("__debug__" : Str)) = false := by decide) (hs : PlainIx b := by exact fun _ _ => rfl) : SE X W (.Subscript (.Name x p0) b pos) (fUn (gKd kvs) fb) := fun μ Γ h σ H Q s p => by
  obtain ⟨a, hm, hk⟩ := g.ex
  refine wE.of (pe_ix ix_kdict (pe_glob (v := .ref a) hg hm rfl hd) pe_w hs) (hb μ Γ h σ H _ s (p.bind.mono fun y h1 μ1 H1 _ s1 hr1 p1 u ru => ?_))
  obtain ⟨z, hz, p2⟩ := p1.lift
  unfold gKd at hz
  split at hz
  · rename_i q _
    cases e : kvs.lookup q with
    | none => rw [e] at hz; cases hz
    | some r =>
      rw [e] at hz
      cases hz
      exact ⟨a, q, .str r, rfl, rr_str ru, hk q r e, p2.last hr1 (Same.refl _) _ (.v (.str r))⟩
  · cases hz
theorem gd_mk {K : PySem.W.Frag} {w : World} {mg : Str → Option Value} {x : Str} {a : Addr} {es : Array DictEntry} {n : Nat} {kvs : List (Str × Str)} (hm : mg x = some (.ref a)) (hl : K.lookup a = some ⟨.type "dict", none, .dict es n, #[]⟩) (hk : PySem.W.KeysLit w.params es.toList)
    (hv : ∀ p, p ∈ kvs → ∃ u, PySem.W.nsIn K a p.1 = some (some u) ∧ RelV (.str p.2) u) : GD K w mg x kvs := ⟨a, hm, fun z y e => by
  have : (z, y) ∈ kvs := by
    clear hv
    induction kvs with
    | nil => cases e
    | cons p kvs ih =>
      obtain ⟨p1, p2⟩ := p
      rw [List.lookup_cons] at e
      split at e
      · rename_i h
        have h' : z = p1 := by simpa using h
        cases e
        rw [h']; exact List.mem_cons_self
      · exact List.mem_cons_of_mem _ (ih e)
  obtain ⟨u, h1, h2⟩ := hv _ this
  exact ⟨es, n, u, hl, hk, h1, h2⟩⟩
/-! ### a, b = x, y -/
def sPar (i j : Nat) (fs : FA) : FS := fun Γ h => onE (fs Γ h) Γ fun vs h1 => match vs with
  | [v, w] => .nx ((Γ.set i (some v)).set j (some w)) h1
  | _ => .no
theorem ss_par (i j : Nat) {x y : Str} {px py pt : Pos} {kt k2 pt2} {fs : FA} (hc : X.calm = true) (hN : X.N.Nodup) (ha : SA X W [a, b] fs) (hi : X.N[i]? = some x := by rfl) (hj : X.N[j]? = some y := by rfl) (hij : i ≠ j := by decide)
    (hx : X.env.scope.names.lookup x = some .local := by rfl) (hy : X.env.scope.names.lookup y = some .local := by rfl)
    (hw : swappedStores [.Tuple [.Name x px, .Name y py] kt pt] (.Tuple [a, b] k2 pt2) X.env = pure (some [x, y]) := by rfl) (hs : swapsWithSole [.Tuple [.Name x px, .Name y py] kt pt] (.Tuple [a, b] k2 pt2) pos.line X.env = pure false := by rfl) :
    SS X W (.Assign [.Tuple [.Name x px, .Name y py] kt pt] (.Tuple [a, b] k2 pt2) pos) (sPar i j fs) := fun μ Γ h σ H D s p =>
  wS.of (ps_par hc hN hi hj hij hx hy pa_w hw hs) (ha μ Γ h σ H _ s ((PoS.onE s p).mono fun vs h1 μ1 H1 _ s1 hr1 p1 us rus => by
    obtain ⟨sr, th, p2⟩ := p1
    split at p2
    · cases rus with
      | cons q1 q2 =>
        cases q2 with
        | cons q2 q3 =>
          cases q3
          exact ⟨_, _, rfl, (show ∀ μ' σ' H', _ → _ → D.nx σ' H' from p2) μ1 _ H1 (Step.refl _ _ _) ((sr.put q1).put q2)⟩
    · exact p2.elim))
end
end F

/-! F: reckoning with the functions. -/
namespace F
open PySem PySem.Spec PyProof.Rows L2
section
variable {α β : Type} {Γ Γ' : Sl} {h h' : FH} {fa fb fc : FE} {t u : FT} {fs : FA} {f g : FS}
@[simp] theorem bind_ok' (a : α) (h : FH) (k : α → FH → Rs β) : (Rs.ok a h).bind k = k a h := (rfl)
@[simp] theorem bind_no' (k : α → FH → Rs β) : (Rs.no : Rs α).bind k = .no := (rfl)
@[simp] theorem bind_ex' (x : Exn) (h : FH) (k : α → FH → Rs β) : (Rs.ex x h : Rs α).bind k = .ex x h := (rfl)
@[simp] theorem lift_some (a : α) (h : FH) : lift (some a) h = .ok a h := (rfl)
@[simp] theorem lift_none (h : FH) : lift (none : Option α) h = .no := (rfl)
@[simp] theorem liftP_some (a : α) (h : FH) : liftP (some (a, h)) = .ok a h := (rfl)
@[simp] theorem sg_z (x : Option FV) (r : Sl) : sg (x :: r) 0 = x := (rfl)
@[simp] theorem sg_s (x : Option FV) (r : Sl) (i : Nat) : sg (x :: r) (i + 1) = sg r i := (rfl)
@[simp] theorem fVar_d (i : Nat) : fVar i Γ h = match sg Γ i with | some v => .ok (.v v) h | none => .no := (rfl)
@[simp] theorem fC_d (v : FV) : fC v Γ h = .ok (.v v) h := (rfl)
@[simp] theorem fBin_d (g) : fBin g fa fb Γ h = (fa Γ h).bind fun x h1 => (fb Γ h1).bind fun y h2 => lift (g x y h2) h2 := (rfl)
@[simp] theorem fUn_d (g) : fUn g fa Γ h = (fa Γ h).bind fun x h1 => lift (g x h1) h1 := (rfl)
@[simp] theorem fCmp_d (g) : fCmp g fa fb Γ h = (fa Γ h).bind fun x h1 => (fb Γ h1).bind fun y h2 => lift (g x y h2) h2 := (rfl)
@[simp] theorem fBl_d : fBl t Γ h = (t Γ h).bind fun b h1 => .ok (.v (.bl b)) h1 := (rfl)
@[simp] theorem fTst_d : fTst fa Γ h = (fa Γ h).bind fun x h1 => match x with | .v (.bl b) => .ok b h1 | _ => .no := (rfl)
@[simp] theorem fNot_d : fNot t Γ h = (t Γ h).bind fun b h1 => .ok (!b) h1 := (rfl)
@[simp] theorem fAnd_d : fAnd t u Γ h = (t Γ h).bind fun b h1 => if b = true then u Γ h1 else .ok false h1 := (rfl)
@[simp] theorem fOr_d : fOr t u Γ h = (t Γ h).bind fun b h1 => if b = true then .ok true h1 else u Γ h1 := (rfl)
@[simp] theorem fAndV_d : fAndV fa fb Γ h = (fa Γ h).bind fun x h1 => match x with | .v (.bl b) => if b = true then fb Γ h1 else .ok (.v (.bl false)) h1 | _ => .no := (rfl)
@[simp] theorem fOrV_d : fOrV fa fb Γ h = (fa Γ h).bind fun x h1 => match x with | .v (.bl b) => if b = true then .ok (.v (.bl true)) h1 else fb Γ h1 | _ => .no := (rfl)
@[simp] theorem fNotV_d : fNotV fa Γ h = (fa Γ h).bind fun x h1 => match x with | .v (.bl b) => .ok (.v (.bl (!b))) h1 | _ => .no := (rfl)
@[simp] theorem fIfE_d : fIfE t fa fb Γ h = (t Γ h).bind fun b h1 => if b = true then fa Γ h1 else fb Γ h1 := (rfl)
@[simp] theorem aNil_d : aNil Γ h = .ok [] h := (rfl)
@[simp] theorem toV_v (x : FV) (h : FH) : toV (.ok (.v x) h) = .ok x h := (rfl)
@[simp] theorem toV_l (x : List FV) (h : FH) : toV (.ok (.l x) h) = .ok (.ref h.length) (h ++ [.lst x]) := (rfl)
@[simp] theorem toV_d' (x) (h : FH) : toV (.ok (.d x) h) = .ok (.ref h.length) (h ++ [.dK x]) := (rfl)
@[simp] theorem toV_no : toV .no = .no := (rfl)
@[simp] theorem toV_ex (x h) : toV (.ex x h) = .ex x h := (rfl)
@[simp] theorem aCons_d : aCons fa fs Γ h = (toV (fa Γ h)).bind fun v h1 => (fs Γ h1).bind fun vs h2 => .ok (v :: vs) h2 := (rfl)
@[simp] theorem fTup_d : fTup fs Γ h = (fs Γ h).bind fun vs h1 => if vs.length ≤ LIM then .ok (.v (.tup vs)) h1 else .no := (rfl)
@[simp] theorem fLst_d : fLst fs Γ h = (fs Γ h).bind fun vs h1 => if vs.length ≤ LIM then .ok (.l vs) h1 else .no := (rfl)
@[simp] theorem fD0_d : fD0 Γ h = .ok (.d []) h := (rfl)
@[simp] theorem oNone_d : oNone Γ h = .ok none h := (rfl)
@[simp] theorem oSome_d : oSome fa Γ h = (fa Γ h).bind fun x h1 => match x with | .v (.int i) => .ok (some i) h1 | _ => .no := (rfl)
@[simp] theorem fSl_d (fl fh : FP) : fSl fa fl fh Γ h = (fa Γ h).bind fun x h1 => (fl Γ h1).bind fun l h2 => (fh Γ h2).bind fun u h3 => lift (gSl x l u h3) h3 := (rfl)
@[simp] theorem fCall_d (d : FDef) : fCall d fs Γ h = (fs Γ h).bind fun vs h1 => d vs h1 := (rfl)
@[simp] theorem fMt_d (T g) (fo : FE) : fMt T g fo fs Γ h = (fo Γ h).bind fun x h1 => if tyR x h1 = some T then (fs Γ h1).bind fun vs h2 => liftP (g x vs h2) else .no := (rfl)
@[simp] theorem dNil_d : dNil Γ h = .ok [] h := (rfl)
@[simp] theorem dCons_d (f : FPs) : dCons fa fb f Γ h = (toV (fa Γ h)).bind fun k h1 => (toV (fb Γ h1)).bind fun v h2 => match k.key with | some kk => (f Γ h2).bind fun r h3 => .ok ((kk, v) :: r) h3 | none => .no := (rfl)
@[simp] theorem fDis_d (f : FPs) : fDis f Γ h = (f Γ h).bind fun kvs h1 => if kvs.length ≤ 15 then .ok (.d (mergeF [] kvs)) h1 else .no := (rfl)
/-! statements -/
@[simp] theorem bNil_d : bNil Γ h = .nx Γ h := (rfl)
@[simp] theorem bSeq_d : bSeq f g Γ h = (f Γ h).seq g := (rfl)
@[simp] theorem seq_nx : (RsS.nx Γ h).seq g = g Γ h := (rfl)
@[simp] theorem seq_rt (r) : (RsS.rt r h).seq g = .rt r h := (rfl)
@[simp] theorem seq_bk : (RsS.bk Γ h).seq g = .bk Γ h := (rfl)
@[simp] theorem seq_ct : (RsS.ct Γ h).seq g = .ct Γ h := (rfl)
@[simp] theorem seq_ex (x) : (RsS.ex x Γ h).seq g = .ex x Γ h := (rfl)
@[simp] theorem seq_no : (RsS.no).seq g = .no := (rfl)
@[simp] theorem onE_ok (a : α) (k : α → FH → RsS) : onE (.ok a h) Γ k = k a h := (rfl)
@[simp] theorem onE_ex (x) (k : α → FH → RsS) : onE (.ex x h) Γ k = .ex x Γ h := (rfl)
@[simp] theorem onE_no (k : α → FH → RsS) : onE .no Γ k = .no := (rfl)
@[simp] theorem sSet_d (i) : sSet i fa Γ h = onE (toV (fa Γ h)) Γ fun v h1 => .nx (Γ.set i (some v)) h1 := (rfl)
@[simp] theorem sExpr_d : sExpr fa Γ h = onE (fa Γ h) Γ fun _ h1 => .nx Γ h1 := (rfl)
@[simp] theorem sRet_d : sRet fa Γ h = onE (fa Γ h) Γ fun r h1 => .rt r h1 := (rfl)
@[simp] theorem sRetN_d : sRetN Γ h = .rt (.v .non) h := (rfl)
@[simp] theorem sIf_d : sIf t f g Γ h = onE (t Γ h) Γ fun b h1 => if b = true then f Γ h1 else g Γ h1 := (rfl)
@[simp] theorem sBreak_d : sBreak Γ h = .bk Γ h := (rfl)
@[simp] theorem sCont_d : sCont Γ h = .ct Γ h := (rfl)
@[simp] theorem sPut_d (fe fo fi : FE) : sPut fe fo fi Γ h = onE (toV (fe Γ h)) Γ fun v h1 => onE (fo Γ h1) Γ fun x h2 => onE (fi Γ h2) Γ fun i h3 => match gSet v x i h3 with | some h4 => .nx Γ h4 | none => .no := (rfl)
@[simp] theorem sPar_d (i j) : sPar i j fs Γ h = onE (fs Γ h) Γ fun vs h1 => match vs with | [v, w] => .nx ((Γ.set i (some v)).set j (some w)) h1 | _ => .no := (rfl)
@[simp] theorem sAsgT_d (g : FG) : sAsgT g fa Γ h = onE (toV (fa Γ h)) Γ fun v h1 => match g v Γ with | some Γ' => .nx Γ' h1 | none => .no := (rfl)
@[simp] theorem sFor_d (g : FG) (src) : sFor g src f Γ h = onE (src Γ h) Γ fun s h1 => loopF g s.ok f s.items Γ h1 := (rfl)
@[simp] theorem tgN_d (i d) : tgN i d Γ = some (Γ.set i (some d)) := (rfl)
@[simp] theorem tgT_d (g : FGs) (ds) : tgT g (.tup ds) Γ = g ds Γ := (rfl)
@[simp] theorem tgNil_d : tgNil [] Γ = some Γ := (rfl)
@[simp] theorem tgCons_d (f : FG) (g : FGs) (d ds) : tgCons f g (d :: ds) Γ = (f d Γ).bind fun Γ' => g ds Γ' := (rfl)
@[simp] theorem iR1_d : iR1 fa Γ h = (fa Γ h).bind fun x h1 => match x with | .v (.int n) => if -(2 ^ 62) ≤ n ∧ n < 2 ^ 62 then .ok ⟨rngL 0 n.toNat, fun _ => True⟩ h1 else .no | _ => .no := (rfl)
@[simp] theorem iR2_d : iR2 fa fb Γ h = (fa Γ h).bind fun x h1 => (fb Γ h1).bind fun y h2 => match x, y with
  | .v (.int lo), .v (.int n) => if -(2 ^ 62) ≤ lo ∧ lo < 2 ^ 62 ∧ -(2 ^ 62) ≤ n ∧ n < 2 ^ 62 then .ok ⟨rngL lo (n - lo).toNat, fun _ => True⟩ h2 else .no | _, _ => .no := (rfl)
@[simp] theorem iSeq_d : iSeq fa Γ h = (fa Γ h).bind fun x h1 => match x with
  | .v (.tup ds) => .ok ⟨ds, fun _ => True⟩ h1
  | .v (.fl ds) => .ok ⟨ds, fun _ => True⟩ h1
  | .l ds => .ok ⟨ds, fun _ => True⟩ h1
  | .v (.ref m) => match h1[m]? with
    | some (.lst ds) => .ok ⟨ds, fun h' => h'[m]? = some (.lst ds)⟩ h1
    | _ => .no
  | _ => .no := (rfl)
@[simp] theorem turn_nx (k : FS) : (RsS.nx Γ h).turn k = k Γ h := (rfl)
@[simp] theorem turn_ct (k : FS) : (RsS.ct Γ h).turn k = k Γ h := (rfl)
@[simp] theorem turn_bk (k : FS) : (RsS.bk Γ h).turn k = .nx Γ h := (rfl)
@[simp] theorem turn_rt (r) (k : FS) : (RsS.rt r h).turn k = .rt r h := (rfl)
@[simp] theorem turn_ex (x) (k : FS) : (RsS.ex x Γ h).turn k = .ex x Γ h := (rfl)
@[simp] theorem turn_no (k : FS) : (RsS.no).turn k = .no := (rfl)
theorem loop_nil {g : FG} {ok : FH → Prop} (o : ok h) : loopF g ok f [] Γ h = .nx Γ h := by unfold loopF; rw [if_pos o]
theorem loop_cons {g : FG} {ok : FH → Prop} {d ds} (o : ok h) (e : g d Γ = some Γ') : loopF g ok f (d :: ds) Γ h = (f Γ' h).turn (loopF g ok f ds) := by
  rw [loopF, if_pos o, e]
@[simp] theorem loop_nilT {g : FG} : loopF g (fun _ => True) f [] Γ h = .nx Γ h := loop_nil trivial
@[simp] theorem loop_consT {i : Nat} {d ds} : loopF (tgN i) (fun _ => True) f (d :: ds) Γ h = (f (Γ.set i (some d)) h).turn (loopF (tgN i) (fun _ => True) f ds) := loop_cons trivial rfl
theorem while_s (n : Nat) : whileF t f (n + 1) Γ h = onE (t Γ h) Γ fun b h1 => if b = true then (f Γ h1).turn (whileF t f n) else .nx Γ h1 := (rfl)
/-! comprehensions -/
@[simp] theorem fYes_d : fYes Γ h = .ok true h := (rfl)
@[simp] theorem noEx_ok (a : α) : noEx (.ok a h) = .ok a h := (rfl)
@[simp] theorem fComp_d (src) (g : FG) (vs) (fe : FE) : fComp src g vs t fe Γ h = (src Γ h).bind fun s h1 => if s.items.length ≤ LIM then (compF g s.ok t fe (wipeF Γ vs) s.items h1).bind fun es h2 => .ok (.l es) h2 else .no := (rfl)
@[simp] theorem wipeF_n : wipeF Γ [] = Γ := (rfl)
@[simp] theorem wipeF_c (v vs) : wipeF Γ (v :: vs) = (wipeF Γ vs).set v none := (rfl)
@[simp] theorem comp_nilT {g : FG} {fe : FE} {Γ0} : compF g (fun _ => True) t fe Γ0 [] h = .ok [] h := by unfold compF; rw [if_pos trivial]
theorem comp_consT {i : Nat} {fe : FE} {Γ0 d ds} : compF (tgN i) (fun _ => True) t fe Γ0 (d :: ds) h = (noEx (t (Γ0.set i (some d)) h)).bind fun b h1 => if b = true then (noEx (toV (fe (Γ0.set i (some d)) h1))).bind fun v h2 => (compF (tgN i) (fun _ => True) t fe Γ0 ds h2).bind fun vs h3 => .ok (v :: vs) h3 else compF (tgN i) (fun _ => True) t fe Γ0 ds h1 := by
  rw [compF, if_pos trivial]; rfl
/-- each item has a value that leaves the heap -/
theorem comp_map {i : Nat} {fe : FE} {Γ0 : Sl} {φ : FV → FV} : ∀ {ds : List FV}, (∀ d, d ∈ ds → toV (fe (Γ0.set i (some d)) h) = .ok (φ d) h) → compF (tgN i) (fun _ => True) fYes fe Γ0 ds h = .ok (ds.map φ) h
  | [], _ => comp_nilT
  | d :: ds, k => by
    rw [comp_consT, fYes_d, noEx_ok, bind_ok', if_pos rfl, k d List.mem_cons_self, noEx_ok, bind_ok', comp_map fun d' hd => k d' (List.mem_cons_of_mem _ hd)]
    rfl
/-! operators -/
@[simp] theorem gAdd_i (i j : Int) : gAdd (.v (.int i)) (.v (.int j)) h = some (.v (.int (i + j))) := (rfl)
@[simp] theorem gAdd_t (i j : List FV) : gAdd (.v (.tup i)) (.v (.tup j)) h = if i.length + j.length ≤ LIM then some (.v (.tup (i ++ j))) else none := (rfl)
@[simp] theorem gAdd_s (i j : Str) : gAdd (.v (.str i)) (.v (.str j)) h = if i.length + j.length ≤ LIM then some (.v (.str (i ++ j))) else none := (rfl)
@[simp] theorem gMul_i (i j : Int) : gMul (.v (.int i)) (.v (.int j)) h = (cMul i j).map fun k => .v (.int k) := (rfl)
@[simp] theorem gI_i (c) (i j : Int) : gI c (.v (.int i)) (.v (.int j)) h = (c i j).map fun k => .v (.int k) := (rfl)
@[simp] theorem gOrd_i (f) (i j : Int) : gOrd f (.v (.int i)) (.v (.int j)) h = some (f i j) := (rfl)
@[simp] theorem gLt_i (i j : Int) : gLt (.v (.int i)) (.v (.int j)) h = some (decide (i < j)) := (rfl)
@[simp] theorem gNeg_i (i : Int) : gNeg (.v (.int i)) h = some (.v (.int (-i))) := (rfl)
@[simp] theorem gAbs_i (i : Int) : gAbs (.v (.int i)) h = some (.v (.int (if i < 0 then -i else i))) := (rfl)
@[simp] theorem gInt_i (i : Int) : gInt (.v (.int i)) h = some (.v (.int i)) := (rfl)
@[simp] theorem gTup_l (ds) : gTup (.l ds) h = some (.v (.tup ds)) := (rfl)
@[simp] theorem gTup_t (ds) : gTup (.v (.tup ds)) h = some (.v (.tup ds)) := (rfl)
@[simp] theorem gLen_t (ds) : gLen (.v (.tup ds)) h = some (.v (.int ds.length)) := (rfl)
@[simp] theorem gLen_l (ds) : gLen (.l ds) h = some (.v (.int ds.length)) := (rfl)
@[simp] theorem gLen_f (ds) : gLen (.v (.fl ds)) h = some (.v (.int ds.length)) := (rfl)
@[simp] theorem gIx_t (ds) (i : Int) : gIx (.v (.tup ds)) (.v (.int i)) h = (atI ds i).map .v := (rfl)
@[simp] theorem gIx_f (ds) (i : Int) : gIx (.v (.fl ds)) (.v (.int i)) h = (atI ds i).map .v := (rfl)
@[simp] theorem gIx_l (ds) (i : Int) : gIx (.l ds) (.v (.int i)) h = (atI ds i).map .v := (rfl)
theorem gIx_rl {m : Nat} {ds} (e : h[m]? = some (.lst ds)) (i : Int) : gIx (.v (.ref m)) (.v (.int i)) h = (atI ds i).map .v := by
  simp [gIx, RV.seq, e]
theorem gIx_rd {m : Nat} {ds} (e : h[m]? = some (.dK ds)) (x : Str) : gIx (.v (.ref m)) (.v (.str x)) h = (lookK ds (.inr x)).map .v := by
  simp [gIx, RV.seq, RV.dictL, e, FV.key]
theorem gLen_r {m : Nat} {ds} (e : h[m]? = some (.lst ds)) : gLen (.v (.ref m)) h = some (.v (.int ds.length)) := by
  simp [gLen, RV.seq, e]
@[simp] theorem at_0 {α : Type} (d : α) (ds : List α) : atI (d :: ds) 0 = some d := atI_nat (j := 0) rfl
@[simp] theorem at_1 {α : Type} (d e : α) (ds : List α) : atI (d :: e :: ds) 1 = some e := atI_nat (j := 1) rfl
@[simp] theorem at_2 {α : Type} (d e c : α) (ds : List α) : atI (d :: e :: c :: ds) 2 = some c := atI_nat (j := 2) rfl
@[simp] theorem at_3 {α : Type} (d e c b : α) (ds : List α) : atI (d :: e :: c :: b :: ds) 3 = some b := atI_nat (j := 3) rfl
@[simp] theorem gSl_1 (d ds) : gSl (.v (.tup (d :: ds))) (some 1) none h = some (.v (.tup ds)) := by
  show some (RV.v (.tup (cutF (d :: ds) (some 1) none))) = _
  congr 3
  unfold cutF
  have e1 : HT.sIx (d :: ds).length 0 (some (1 : Int)) = 1 := by
    have := HT.sIx_nat (n := (d :: ds).length) (d := 0) 1
    rw [show ((1 : Nat) : Int) = 1 from rfl] at this
    rw [this]; simp
  rw [e1, HT.sIx_none]
  simp
end
end F

/-! F: the script and what is drawn from it. -/
namespace F
open PySem PySem.Spec PyProof.Rows L2
local macro_rules | `(tactic| and_intros) => `(tactic| simp only [*, F.bind_ok', F.bind_no', F.bind_ex', F.lift_some, F.lift_none, F.liftP_some, F.sg_z, F.sg_s, F.fVar_d, F.fC_d, F.fBin_d, F.fUn_d, F.fCmp_d, F.fBl_d, F.fTst_d, F.fNot_d, F.fAnd_d, F.fOr_d, F.fAndV_d, F.fOrV_d, F.fNotV_d, F.fIfE_d, F.aNil_d, F.toV_v, F.toV_l, F.toV_d', F.toV_no, F.toV_ex, F.aCons_d, F.fTup_d, F.fLst_d, F.fD0_d, F.oNone_d, F.oSome_d, F.fSl_d, F.fCall_d, F.fMt_d, F.dNil_d, F.dCons_d, F.fDis_d, F.bNil_d, F.bSeq_d, F.seq_nx, F.seq_rt, F.seq_bk, F.seq_ct, F.seq_ex, F.seq_no, F.onE_ok, F.onE_ex, F.onE_no, F.sSet_d, F.sExpr_d, F.sRet_d, F.sRetN_d, F.sIf_d, F.sBreak_d, F.sCont_d, F.sPut_d, F.sPar_d, F.sAsgT_d, F.sFor_d, F.tgN_d, F.tgT_d, F.tgNil_d, F.tgCons_d, F.iR1_d, F.iR2_d, F.iSeq_d, F.turn_nx, F.turn_ct, F.turn_bk, F.turn_rt, F.turn_ex, F.turn_no, F.loop_nilT, F.loop_consT, F.fYes_d, F.noEx_ok, F.fComp_d, F.wipeF_n, F.wipeF_c, F.comp_nilT, F.gAdd_i, F.gAdd_t, F.gAdd_s, F.gMul_i, F.gI_i, F.gOrd_i, F.gLt_i, F.gNeg_i, F.gAbs_i, F.gInt_i, F.gTup_l, F.gTup_t, F.gLen_t, F.gLen_l, F.gLen_f, F.gIx_t, F.gIx_f, F.gIx_l, F.at_0, F.at_1, F.at_2, F.at_3, F.gSl_1, List.set_cons_succ, List.set_cons_zero, Option.map_some, Option.map_none, Option.bind_some, if_true, ite_true, ite_false, decide_true, decide_false, Bool.false_eq_true, List.getElem?_cons_zero, List.getElem?_cons_succ, List.nil_append, List.length_nil, List.length_cons, Bool.not_true, Bool.not_false, reduceCtorEq, Nat.zero_le, true_and, and_true, and_self])
def cIn : FS := sIf (fCmp (gOrd fun i j => decide (j < i)) (fVar 4) (fC (.int 0))) (bSeq (sExpr (fMt "list" gAppend (fVar 1) (aCons (fBin (gI cMod) (fUn gInt (fVar 4)) (fC (.int 840))) aNil))) (sSet 4 (fBin (gI cDiv) (fVar 4) (fC (.int 840))))) bNil
noncomputable def cBody : FS := bSeq (sSet 4 (fUn gAbs (fBin gIx (fVar 0) (fVar 3)))) (bSeq (sSet 2 (fBin (gI cMod) (fUn gInt (fBin gAdd (fBin gAdd (fBin gMul (fVar 2) (fC (.int 31))) (fVar 4)) (fVar 3))) (fC (.int 2147483647)))) (sIf (fCmp (gOrd fun i j => decide (j ≤ i)) (fVar 4) (fBin (gI cPow) (fC (.int 10)) (fC (.int 18))))
  (bSeq (sSet 4 (fBin (gI fun i j => some (i - j)) (fVar 4) (fBin (gI cPow) (fC (.int 10)) (fC (.int 18))))) (sFor (tgN 5) (iR1 (fC (.int 60))) cIn))
  (bSeq (sSet 6 (fBin (gI cMod) (fUn gInt (fBin gAdd (fBin gMul (fBin gAdd (fVar 4) (fC (.int 1))) (fC (.int 48271))) (fBin gMul (fVar 3) (fC (.int 69621))))) (fC (.int 2147483647)))) (bSeq (sSet 6 (fBin (gI cMod) (fUn gInt (fBin gAdd (fBin gMul (fVar 6) (fC (.int 40692))) (fC (.int 5)))) (fC (.int 2147483399)))) (sExpr (fMt "list" gAppend (fVar 1) (aCons (fBin (gI cMod) (fBin (gI cDiv) (fVar 6) (fC (.int 13))) (fC (.int 840))) aNil)))))))
noncomputable def cStart : FS := bSeq (sSet 1 (fLst aNil)) (bSeq (sSet 2 (fC (.int 17))) (bSeq (sFor (tgN 3) (iR1 (fUn gLen (fVar 0))) cBody) (sRet (fLst (aCons (fVar 1) (aCons (fC (.int 0)) (aCons (fVar 2) aNil)))))))
theorem mul_l {i j : Int} (h : -(2 ^ 64) < j ∧ j < 2 ^ 64) : CMul i j := .inr h
theorem app_ok {h : FH} {m : Nat} {ds : List FV} {y : FV} (e : h[m]? = some (.lst ds)) (l : ds.length < LIM) : gAppend (.v (.ref m)) [y] h = some (.v .non, h.set m (.lst (ds ++ [y]))) := by
  simp only [gAppend, e, if_pos l]
theorem ty_l {h : FH} {m : Nat} {ds : List FV} (e : h[m]? = some (.lst ds)) : tyR (.v (.ref m)) h = some "list" := by
  simp only [tyR, e]
theorem lim_eq : LIM = 1000000 := rfl
theorem cIn_t (sc : FV) (sd c : Int) (x3 x5 x6 : Option FV) (row : List Int) (hc : 0 < c) (hl : row.length < LIM) : cIn [some sc, some (.ref 0), some (.int sd), x3, some (.int c), x5, x6] [.lst (row.map .int)] = .nx [some sc, some (.ref 0), some (.int sd), x3, some (.int (c / 840)), x5, x6] [.lst ((row ++ [c % 840]).map .int)] := by
  have l : (row.map FV.int).length < LIM := by rw [List.length_map]; exact hl
  have e1 : cMod c 840 = some (c % 840) := by unfold cMod; rw [if_pos (by decide)]
  have e2 : cDiv c 840 = some (c / 840) := by unfold cDiv; rw [if_pos (by exact ⟨by decide, by decide⟩)]
  have e3 : tyR (.v (.ref 0)) [.lst (row.map .int)] = some "list" := rfl
  have e4 : gAppend (.v (.ref 0)) [.int (c % 840)] [.lst (row.map .int)] = some (.v .non, [.lst ((row ++ [c % 840]).map .int)]) := by
    rw [app_ok (ds := row.map .int) rfl l, List.map_append]; rfl
  have e5 : decide (0 < c) = true := decide_eq_true hc
  unfold cIn
  and_intros
theorem cIn_f (sc : FV) (sd c : Int) (x3 x5 x6 : Option FV) (h : FH) (hc : ¬ 0 < c) : cIn [some sc, some (.ref 0), some (.int sd), x3, some (.int c), x5, x6] h = .nx [some sc, some (.ref 0), some (.int sd), x3, some (.int c), x5, x6] h := by
  have e5 : decide (0 < c) = false := decide_eq_false hc
  unfold cIn
  and_intros
theorem cIn_loop (sc : FV) (sd : Int) (x6 : Option FV) : ∀ (m : Nat) (lo : Int) (row : List Int) (c : Int) (x3 x5 : Option FV), row.length + m < LIM → ∃ (row' : List Int) (c' : Int) (y5 : Option FV),
    row'.length ≤ row.length + m ∧ loopF (tgN 5) (fun _ => True) cIn (rngL lo m) [some sc, some (.ref 0), some (.int sd), x3, some (.int c), x5, x6] [.lst (row.map .int)] = .nx [some sc, some (.ref 0), some (.int sd), x3, some (.int c'), y5, x6] [.lst (row'.map .int)]
  | 0, lo, row, c, x3, x5, _ => ⟨row, c, x5, Nat.le_refl _, loop_nilT⟩
  | m + 1, lo, row, c, x3, x5, hl => by
    rw [rngL, loop_consT]
    by_cases hc : 0 < c
    · obtain ⟨row', c', y5, h1, h2⟩ := cIn_loop sc sd x6 m (lo + 1) (row ++ [c % 840]) (c / 840) x3 (some (.int lo)) (by rw [List.length_append]; show row.length + 1 + m < _; omega)
      refine ⟨row', c', y5, by rw [List.length_append] at h1; have : [c % 840].length = 1 := rfl; omega, ?_⟩
      show (cIn [some sc, some (.ref 0), some (.int sd), x3, some (.int c), some (.int lo), x6] _).turn _ = _
      rw [cIn_t sc sd c x3 _ x6 row hc (by omega), turn_nx, h2]
    · obtain ⟨row', c', y5, h1, h2⟩ := cIn_loop sc sd x6 m (lo + 1) row c x3 (some (.int lo)) (by omega)
      refine ⟨row', c', y5, by omega, ?_⟩
      show (cIn [some sc, some (.ref 0), some (.int sd), x3, some (.int c), some (.int lo), x6] _).turn _ = _
      rw [cIn_f sc sd c x3 _ x6 _ hc, turn_nx, h2]
theorem cBody_ok (ns : List Int) (lo : Nat) (hlo : lo < ns.length) (row : List Int) (sd : Int) (x4 x5 x6 : Option FV) (hr : row.length ≤ 60 * 63) : ∃ (row' : List Int) (sd' : Int) (y4 y5 y6 : Option FV), row'.length ≤ row.length + 60 ∧
    cBody [some (.fl (ns.map .int)), some (.ref 0), some (.int sd), some (.int lo), x4, x5, x6] [.lst (row.map .int)] = .nx [some (.fl (ns.map .int)), some (.ref 0), some (.int sd'), some (.int lo), y4, y5, y6] [.lst (row'.map .int)] := by
  have hat : atI (ns.map FV.int) (lo : Nat) = some (.int ns[lo]) := atI_nat (by rw [List.getElem?_map, List.getElem?_eq_getElem hlo]; rfl)
  generalize hcell : (if ns[lo] < 0 then -ns[lo] else ns[lo]) = cell
  have p18 : cPow 10 18 = some 1000000000000000000 := by
    unfold cPow; rw [if_pos (by exact ⟨by decide, by decide, by decide⟩)]; rfl
  have m0 : ∀ i : Int, cMul i 31 = some (i * 31) := fun i => by unfold cMul; rw [if_pos (mul_l (by decide))]
  have q1 : ∀ i : Int, cMod i 2147483647 = some (i % 2147483647) := fun i => by unfold cMod; rw [if_pos (by decide)]
  have lim := lim_eq
  generalize hs : (sd * 31 + cell + lo) % 2147483647 = s1
  by_cases hc : (1000000000000000000 : Int) ≤ cell
  · obtain ⟨row', c', y5, h1, h2⟩ := cIn_loop (.fl (ns.map .int)) s1 x6 60 0 row (cell - 1000000000000000000) (some (.int lo)) x5 (by omega)
    refine ⟨row', s1, some (.int c'), y5, x6, h1, ?_⟩
    have hd : decide ((1000000000000000000 : Int) ≤ cell) = true := decide_eq_true hc
    have i60 : -(2 ^ 62) ≤ (60 : Int) ∧ (60 : Int) < 2 ^ 62 := by decide
    have t60 : (60 : Int).toNat = 60 := rfl
    clear hr lim hc h1
    unfold cBody
    and_intros
  · generalize hm : (((cell + 1) * 48271 + lo * 69621) % 2147483647 * 40692 + 5) % 2147483399 = mx
    refine ⟨row ++ [mx / 13 % 840], s1, some (.int cell), x5, some (.int mx), by rw [List.length_append]; exact Nat.add_le_add_left (show 1 ≤ 60 by decide) _, ?_⟩
    have hd : decide ((1000000000000000000 : Int) ≤ cell) = false := decide_eq_false hc
    have m2 : ∀ i : Int, cMul i 48271 = some (i * 48271) := fun i => by unfold cMul; rw [if_pos (mul_l (by decide))]
    have m3 : ∀ i : Int, cMul i 69621 = some (i * 69621) := fun i => by unfold cMul; rw [if_pos (mul_l (by decide))]
    have m4 : ∀ i : Int, cMul i 40692 = some (i * 40692) := fun i => by unfold cMul; rw [if_pos (mul_l (by decide))]
    have d13 : ∀ i : Int, cDiv i 13 = some (i / 13) := fun i => by unfold cDiv; rw [if_pos (by exact ⟨by decide, by decide⟩)]
    have q2 : ∀ i : Int, cMod i 2147483399 = some (i % 2147483399) := fun i => by unfold cMod; rw [if_pos (by decide)]
    have q3 : ∀ i : Int, cMod i 840 = some (i % 840) := fun i => by unfold cMod; rw [if_pos (by decide)]
    have e3 : tyR (.v (.ref 0)) [.lst (row.map .int)] = some "list" := rfl
    have l : (row.map FV.int).length < LIM := by rw [List.length_map]; omega
    have e4 : gAppend (.v (.ref 0)) [.int (mx / 13 % 840)] [.lst (row.map .int)] = some (.v .non, [.lst ((row ++ [mx / 13 % 840]).map .int)]) := by
      rw [app_ok (ds := row.map .int) rfl l, List.map_append]; rfl
    clear hr lim hc l
    unfold cBody
    and_intros
theorem cStart_loop (ns : List Int) (hns : ns.length ≤ 63) : ∀ (m lo : Nat) (row : List Int) (sd : Int) (x3 x4 x5 x6 : Option FV), lo + m = ns.length → row.length ≤ 60 * lo → ∃ (row' : List Int) (sd' : Int) (y3 y4 y5 y6 : Option FV),
    loopF (tgN 3) (fun _ => True) cBody (rngL lo m) [some (.fl (ns.map .int)), some (.ref 0), some (.int sd), x3, x4, x5, x6] [.lst (row.map .int)] = .nx [some (.fl (ns.map .int)), some (.ref 0), some (.int sd'), y3, y4, y5, y6] [.lst (row'.map .int)]
  | 0, lo, row, sd, x3, x4, x5, x6, _, _ => ⟨row, sd, x3, x4, x5, x6, loop_nilT⟩
  | m + 1, lo, row, sd, x3, x4, x5, x6, hl, hr => by
    rw [rngL, loop_consT]
    obtain ⟨row', s1, y4, y5, y6, h1, h2⟩ := cBody_ok ns lo (by omega) row sd x4 x5 x6 (by omega)
    obtain ⟨row2, sd2, z3, z4, z5, z6, h3⟩ := cStart_loop ns hns m (lo + 1) row' s1 (some (.int lo)) y4 y5 y6 (by omega) (by omega)
    refine ⟨row2, sd2, z3, z4, z5, z6, ?_⟩
    show (cBody [some (.fl (ns.map .int)), some (.ref 0), some (.int sd), some (.int lo), x4, x5, x6] _).turn _ = _
    have e1 : ((lo : Nat) : Int) + 1 = ((lo + 1 : Nat) : Int) := by omega
    rw [h2, turn_nx, e1, h3]
theorem start_ok (ns : List Int) (hns : ns.length ≤ 63) : ∃ (row : List Int) (sd : Int), cStart [some (.fl (ns.map .int)), none, none, none, none, none, none] [] = .rt (.l [.ref 0, .int 0, .int sd]) [.lst (row.map .int)] := by
  obtain ⟨row, sd, y3, y4, y5, y6, e⟩ := cStart_loop ns hns ns.length 0 [] 17 none none none none (by omega) (Nat.zero_le _)
  refine ⟨row, sd, ?_⟩
  have i1 : -(2 ^ 62) ≤ (ns.length : Int) ∧ (ns.length : Int) < 2 ^ 62 := by omega
  have e' : loopF (tgN 3) (fun _ => True) cBody (rngL 0 ns.length) [some (.fl (ns.map .int)), some (.ref 0), some (.int 17), none, none, none, none] [.lst []] = .nx [some (.fl (ns.map .int)), some (.ref 0), some (.int sd), y3, y4, y5, y6] [.lst (row.map .int)] := e
  have e2 : (ns.map FV.int).length = ns.length := List.length_map _
  have e3 : ((ns.length : Nat) : Int).toNat = ns.length := Int.toNat_natCast _
  have e4 : 0 + 1 + 1 + 1 ≤ LIM := by decide
  clear hns e
  unfold cStart
  and_intros

/-! ### a number drawn -/
noncomputable def cTake : FS := bSeq (sSet 2 (fBin gIx (fVar 0) (fC (.int 1)))) (bSeq (sPut (fBin gAdd (fVar 2) (fC (.int 1))) (fVar 0) (fC (.int 1))) (bSeq (sIf (fCmp gLt (fVar 2) (fUn gLen (fBin gIx (fVar 0) (fC (.int 0))))) (sRet (fBin (gI cMod) (fUn gInt (fBin gIx (fBin gIx (fVar 0) (fC (.int 0))) (fVar 2))) (fVar 1))) bNil)
  (bSeq (sSet 3 (fBin (gI cMod) (fUn gInt (fBin gMul (fBin gAdd (fBin gIx (fVar 0) (fC (.int 2))) (fBin gMul (fVar 2) (fC (.int 40503)))) (fC (.int 48271)))) (fC (.int 2147483647)))) (bSeq (sSet 3 (fBin (gI cMod) (fUn gInt (fBin gAdd (fBin gMul (fVar 3) (fC (.int 69621))) (fBin gMul (fVar 2) (fVar 2)))) (fC (.int 2147483629)))) (sRet (fBin (gI cMod) (fBin (gI cDiv) (fVar 3) (fC (.int 11))) (fVar 1)))))))
/-- the drawing state: the numbers, the place, the seed -/
structure DS where
  row : List Int
  at' : Nat
  sd : Int
def DS.next (s : DS) : DS := ⟨s.row, s.at' + 1, s.sd⟩
def DS.ob (s : DS) : FO := .lst [.ref 0, .int s.at', .int s.sd]
def mk (s : DS) (r : FH) : FH := .lst (s.row.map .int) :: s.ob :: r
theorem mk0 (s : DS) (r : FH) : (mk s r)[0]? = some (.lst (s.row.map .int)) := rfl
theorem mk1 (s : DS) (r : FH) : (mk s r)[1]? = some (.lst [.ref 0, .int s.at', .int s.sd]) := rfl
theorem take_ok (s : DS) (r : FH) (k : Nat) (hk : 0 < k) (ha : s.at' < 2 ^ 60) : ∃ i : Nat, i < k ∧ cTake [some (.ref 1), some (.int k), none, none] (mk s r) = .rt (.v (.int i)) (mk s.next r) := by
  have key : ∀ x : Int, ∃ i : Nat, i < k ∧ x % (k : Int) = i := fun x => by
    have h1 : 0 ≤ x % (k : Int) := Int.emod_nonneg _ (by omega)
    have h2 : x % (k : Int) < k := Int.emod_lt_of_pos _ (by omega)
    exact ⟨(x % k).toNat, by omega, by omega⟩
  have kp : ∀ i : Int, cMod i k = some (i % k) := fun i => by unfold cMod; rw [if_pos (by omega)]
  have e1 : ((s.at' : Nat) : Int) + 1 = ((s.at' + 1 : Nat) : Int) := by omega
  have g1 := gIx_rl (mk1 s r) 1
  have gs : gSet (.int ((s.at' + 1 : Nat) : Int)) (.v (.ref 1)) (.v (.int 1)) (mk s r) = some (mk s.next r) := rfl
  have g2 := gIx_rl (mk1 s.next r) 0
  have g3 := gLen_r (mk0 s.next r)
  have g4 := gIx_rl (mk0 s.next r) s.at'
  have g5 := gIx_rl (mk1 s.next r) 2
  have hn : s.next.row = s.row := rfl
  have hn2 : s.next.sd = s.sd := rfl
  have hlen : (s.row.map FV.int).length = s.row.length := List.length_map _
  by_cases hl : s.at' < s.row.length
  · have hat : atI (s.row.map FV.int) (s.at' : Nat) = some (.int s.row[s.at']) := atI_nat (by rw [List.getElem?_map, List.getElem?_eq_getElem hl]; rfl)
    obtain ⟨i, h1, h2⟩ := key s.row[s.at']
    refine ⟨i, h1, ?_⟩
    have hl' : decide (((s.at' : Nat) : Int) < (s.row.length : Nat)) = true := decide_eq_true (by omega)
    clear key hk ha h1
    unfold cTake
    and_intros
  · have hl' : decide (((s.at' : Nat) : Int) < (s.row.length : Nat)) = false := decide_eq_false (by omega)
    have m1 : ∀ i : Int, cMul i 40503 = some (i * 40503) := fun i => by unfold cMul; rw [if_pos (mul_l (by decide))]
    have m2 : ∀ i : Int, cMul i 48271 = some (i * 48271) := fun i => by unfold cMul; rw [if_pos (mul_l (by decide))]
    have m3 : ∀ i : Int, cMul i 69621 = some (i * 69621) := fun i => by unfold cMul; rw [if_pos (mul_l (by decide))]
    have m4 : cMul s.at' s.at' = some ((s.at' : Int) * s.at') := by unfold cMul; rw [if_pos (.inl ⟨by omega, by omega⟩)]
    have d11 : ∀ i : Int, cDiv i 11 = some (i / 11) := fun i => by unfold cDiv; rw [if_pos (by exact ⟨by decide, by decide⟩)]
    have q1 : ∀ i : Int, cMod i 2147483647 = some (i % 2147483647) := fun i => by unfold cMod; rw [if_pos (by decide)]
    have q2 : ∀ i : Int, cMod i 2147483629 = some (i % 2147483629) := fun i => by unfold cMod; rw [if_pos (by decide)]
    obtain ⟨i, h1, h2⟩ := key (((((s.sd + s.at' * 40503) * 48271) % 2147483647) * 69621 + s.at' * s.at') % 2147483629 / 11)
    refine ⟨i, h1, ?_⟩
    clear key hk ha hl h1
    unfold cTake
    and_intros
end F

/-! F: defs reckoned. -/
namespace F
open PySem PySem.Spec PyProof.Rows L2
mutual
theorem pure_low {n : Nat} : ∀ {x : FV}, x.pure = true → x.low n
  | .non, _ => by simp [FV.low]
  | .bl b, _ => by simp [FV.low]
  | .int b, _ => by simp [FV.low]
  | .str b, _ => by simp [FV.low]
  | .ref b, h => by simp [FV.pure] at h
  | .tup xs, h => by
    have h' : FV.pures xs = true := by simpa [FV.pure] using h
    simpa [FV.low] using pures_low (n := n) h'
  | .fl xs, h => by
    have h' : FV.pures xs = true := by simpa [FV.pure] using h
    simpa [FV.low] using pures_low (n := n) h'
theorem pures_low {n : Nat} : ∀ {xs : List FV}, FV.pures xs = true → FV.lows n xs
  | [], _ => by simp [FV.lows]
  | x :: xs, h => by
    have h' : x.pure = true ∧ FV.pures xs = true := by simpa [FV.pures] using h
    simpa [FV.lows] using ⟨pure_low (n := n) h'.1, pures_low (n := n) h'.2⟩
end
theorem pures_all : ∀ {xs : List FV}, (∀ x, x ∈ xs → x.pure = true) → FV.pures xs = true
  | [], _ => by simp [FV.pures]
  | x :: xs, h => by
    rw [FV.pures, h x List.mem_cons_self, pures_all fun y hy => h y (List.mem_cons_of_mem _ hy)]; rfl
section
variable {f : FDef} {b : FS} {nP nL : Nat} {ds : List FV} {h h' : FH} {r : RV} {x : FV} {es : List FV}
theorem run_rt (e : b (ds.map some ++ List.replicate nL none) h = .rt r h') (l : ds.length = nP := by rfl) : runF nP nL b ds h = .ok r h' := by
  unfold runF; rw [if_pos l, e]
theorem run_nx {Γ : Sl} (e : b (ds.map some ++ List.replicate nL none) h = .nx Γ h') (l : ds.length = nP := by rfl) : runF nP nL b ds h = .ok (.v .non) h' := by
  unfold runF; rw [if_pos l, e]
theorem run_ex {Γ : Sl} {y : Exn} (e : b (ds.map some ++ List.replicate nL none) h = .ex y Γ h') (l : ds.length = nP := by rfl) : runF nP nL b ds h = .ex y h' := by
  unfold runF; rw [if_pos l, e]
theorem gc_v (e : f ds h = .ok (.v x) h') (ht : h'.take h.length = h) (hx : x.pure = true) : gcP f ds h = .ok (.v x) h := by
  unfold gcP
  rw [e]
  cases x with
  | ref m => simp [FV.pure] at hx
  | _ => dsimp only; rw [if_pos ⟨ht, pure_low hx⟩]
theorem gc_l (e : f ds h = .ok (.l es) h') (ht : h'.take h.length = h) (hx : FV.pures es = true) : gcP f ds h = .ok (.l es) h := by
  unfold gcP
  rw [e]
  dsimp only
  rw [if_pos ⟨ht, pures_low hx⟩]
theorem gc_own {m : Nat} (e : f ds h = .ok (.v (.ref m)) h') (hm : h.length ≤ m) (hl : h'[m]? = some (.lst es)) (ht : h'.take h.length = h) (hx : FV.pures es = true) : gcP f ds h = .ok (.l es) h := by
  unfold gcP
  rw [e]
  dsimp only
  rw [if_neg (Nat.not_lt_of_le hm), hl]
  dsimp only
  rw [if_pos ⟨ht, pures_low hx⟩]
theorem take_self (h : FH) : h.take h.length = h := List.take_length
theorem take_app (h r : FH) : (h ++ r).take h.length = h := by simp
end
theorem lims : (0 ≤ LIM) ∧ (1 ≤ LIM) ∧ (2 ≤ LIM) ∧ (3 ≤ LIM) ∧ (4 ≤ LIM) ∧ (5 ≤ LIM) ∧ (6 ≤ LIM) ∧ (7 ≤ LIM) ∧ (8 ≤ LIM) := by decide
/-! ### data compared -/
section
variable {h : FH} {neg : Bool}
@[simp] theorem dat_s (a : Str) : RV.dat (.v (.str a)) h = some (.str a) := by simp [RV.dat, FV.pure, FV.py]
@[simp] theorem dat_i (a : Int) : RV.dat (.v (.int a)) h = some (.int a) := by simp [RV.dat, FV.pure, FV.py]
@[simp] theorem dat_b (a : Bool) : RV.dat (.v (.bl a)) h = some (.bool a) := by simp [RV.dat, FV.pure, FV.py]
theorem dat_p {x : FV} (p : x.pure = true) : RV.dat (.v x) h = some x.py := by
  cases x with
  | ref m => simp [FV.pure] at p
  | _ => simp [RV.dat, p]
theorem dat_l {ds : List FV} (p : FV.pures ds = true) : RV.dat (.l ds) h = some (.list (FV.pys ds)) := by simp [RV.dat, p]
theorem dat_r {m : Nat} {ds : List FV} (e : h[m]? = some (.lst ds)) (p : FV.pures ds = true) : RV.dat (.v (.ref m)) h = some (.list (FV.pys ds)) := by simp [RV.dat, e, p]
@[simp] theorem gEq_s (a b : Str) : gEq neg (.v (.str a)) (.v (.str b)) h = some (if neg = true then !(a == b) else (a == b)) := by
  simp [gEq, PyData.depth, PyData.eqv]
@[simp] theorem gEq_i (a b : Int) : gEq neg (.v (.int a)) (.v (.int b)) h = some (if neg = true then !(a == b) else (a == b)) := by
  simp [gEq, PyData.depth, PyData.eqv]
@[simp] theorem gEq_b (a b : Bool) : gEq neg (.v (.bl a)) (.v (.bl b)) h = some (if neg = true then !(a == b) else (a == b)) := by
  simp [gEq, PyData.depth, PyData.eqv]
theorem pys_strs : ∀ xs : List Str, FV.pys (xs.map .str) = xs.map .str
  | [] => by simp [FV.pys]
  | x :: xs => by simp [FV.pys, FV.py, pys_strs xs]
theorem pures_strs : ∀ xs : List Str, FV.pures (xs.map .str) = true
  | [] => by simp [FV.pures]
  | x :: xs => by simp [FV.pures, FV.pure, pures_strs xs]
theorem deps_strs : ∀ xs : List Str, PyData.depthAll (xs.map .str) = 0
  | [] => by simp [PyData.depthAll]
  | x :: xs => by simp [PyData.depthAll, PyData.depth, deps_strs xs]
theorem any_strs (a : Str) : ∀ xs : List Str, (xs.map PyData.str).any (fun z => PyData.eqv z (.str a)) = xs.any (· == a)
  | [] => rfl
  | x :: xs => by rw [List.map_cons, List.any_cons, List.any_cons, any_strs a xs]; simp [PyData.eqv]
theorem gIn_t (a : Str) (xs : List Str) : gIn neg (.v (.str a)) (.v (.tup (xs.map .str))) h = some (if neg = true then !(xs.any (· == a)) else xs.any (· == a)) := by
  have e : FV.pures (xs.map .str) = true ∧ min (PyData.depthAll (FV.pys (xs.map .str))) (PyData.depth (.str a)) ≤ 64 := by
    refine ⟨pures_strs xs, ?_⟩
    rw [pys_strs, deps_strs]; exact Nat.le_trans (Nat.min_le_left _ _) (Nat.zero_le _)
  simp only [gIn, RV.seq, dat_s]
  rw [if_pos e, pys_strs, any_strs]
theorem gIn_l (a : Str) (xs : List Str) : gIn neg (.v (.str a)) (.l (xs.map .str)) h = some (if neg = true then !(xs.any (· == a)) else xs.any (· == a)) := by
  have e : FV.pures (xs.map .str) = true ∧ min (PyData.depthAll (FV.pys (xs.map .str))) (PyData.depth (.str a)) ≤ 64 := by
    refine ⟨pures_strs xs, ?_⟩
    rw [pys_strs, deps_strs]; exact Nat.le_trans (Nat.min_le_left _ _) (Nat.zero_le _)
  simp only [gIn, RV.seq, dat_s]
  rw [if_pos e, pys_strs, any_strs]
theorem gIn_2 (w a b : Str) : gIn neg (.v (.str w)) (.v (.tup [.str a, .str b])) h = some (if neg = true then !(a == w || b == w) else (a == w || b == w)) := by
  have := gIn_t (neg := neg) (h := h) w [a, b]
  simpa using this
/-! equal data without bools and ints mixed -/
mutual
def FV.sto : FV → Bool
  | .str _ => true
  | .tup xs => FV.stos xs
  | _ => false
def FV.stos : List FV → Bool
  | [] => true
  | x :: xs => x.sto && FV.stos xs
end
mutual
theorem sto_pure : ∀ {x : FV}, x.sto = true → x.pure = true
  | .str _, _ => by simp [FV.pure]
  | .tup xs, h => by simpa [FV.pure] using stos_pure (xs := xs) (by simpa [FV.sto] using h)
  | .non, h => by simp [FV.sto] at h
  | .bl _, h => by simp [FV.sto] at h
  | .int _, h => by simp [FV.sto] at h
  | .ref _, h => by simp [FV.sto] at h
  | .fl _, h => by simp [FV.sto] at h
theorem stos_pure : ∀ {xs : List FV}, FV.stos xs = true → FV.pures xs = true
  | [], _ => by simp [FV.pures]
  | x :: xs, h => by
    have h' : x.sto = true ∧ FV.stos xs = true := by simpa [FV.stos] using h
    simp [FV.pures, sto_pure h'.1, stos_pure h'.2]
end
mutual
theorem sto_eqv : ∀ {x y : FV}, x.sto = true → y.sto = true → (PyData.eqv x.py y.py = true ↔ x = y)
  | .str a, .str b, _, _ => by simp [FV.py, PyData.eqv]
  | .tup xs, .tup ys, h, g => by
    have := stos_eqv (xs := xs) (ys := ys) (by simpa [FV.sto] using h) (by simpa [FV.sto] using g)
    simp only [FV.py, PyData.eqv, FV.tup.injEq]
    exact this
  | .str a, .tup ys, _, _ => by simp [FV.py, PyData.eqv]
  | .tup ys, .str a, _, _ => by simp [FV.py, PyData.eqv]
  | .non, _, h, _ => by simp [FV.sto] at h
  | .bl _, _, h, _ => by simp [FV.sto] at h
  | .int _, _, h, _ => by simp [FV.sto] at h
  | .ref _, _, h, _ => by simp [FV.sto] at h
  | .fl _, _, h, _ => by simp [FV.sto] at h
  | .str _, .non, _, h => by simp [FV.sto] at h
  | .str _, .bl _, _, h => by simp [FV.sto] at h
  | .str _, .int _, _, h => by simp [FV.sto] at h
  | .str _, .ref _, _, h => by simp [FV.sto] at h
  | .str _, .fl _, _, h => by simp [FV.sto] at h
  | .tup _, .non, _, h => by simp [FV.sto] at h
  | .tup _, .bl _, _, h => by simp [FV.sto] at h
  | .tup _, .int _, _, h => by simp [FV.sto] at h
  | .tup _, .ref _, _, h => by simp [FV.sto] at h
  | .tup _, .fl _, _, h => by simp [FV.sto] at h
theorem stos_eqv : ∀ {xs ys : List FV}, FV.stos xs = true → FV.stos ys = true → (PyData.eqvAll (FV.pys xs) (FV.pys ys) = true ↔ xs = ys)
  | [], [], _, _ => by simp [FV.pys, PyData.eqvAll]
  | x :: xs, [], _, _ => by simp [FV.pys, PyData.eqvAll]
  | [], y :: ys, _, _ => by simp [FV.pys, PyData.eqvAll]
  | x :: xs, y :: ys, h, g => by
    have h' : x.sto = true ∧ FV.stos xs = true := by simpa [FV.stos] using h
    have g' : y.sto = true ∧ FV.stos ys = true := by simpa [FV.stos] using g
    have a := sto_eqv h'.1 g'.1
    have b := stos_eqv h'.2 g'.2
    simp only [FV.pys, PyData.eqvAll, Bool.and_eq_true, List.cons.injEq, a, b]
end
theorem gEq_same {x : FV} (hx : x.sto = true) (d : x.py.depth ≤ 64) : gEq neg (.v x) (.v x) h = some (!neg) := by
  have e : PyData.eqv x.py x.py = true := (sto_eqv hx hx).mpr rfl
  have dm : min x.py.depth x.py.depth ≤ 64 := Nat.le_trans (Nat.min_le_left _ _) d
  simp only [gEq, dat_p (sto_pure hx), e, if_pos dm]
  cases neg <;> rfl
theorem gEq_diff {x y : FV} (hx : x.sto = true) (hy : y.sto = true) (d : x.py.depth ≤ 64) (ne : x ≠ y) : gEq neg (.v x) (.v y) h = some neg := by
  have e : PyData.eqv x.py y.py = false := by
    cases q : PyData.eqv x.py y.py with
    | false => rfl
    | true => exact absurd ((sto_eqv hx hy).mp q) ne
  have dm : min x.py.depth y.py.depth ≤ 64 := Nat.le_trans (Nat.min_le_left _ _) d
  simp only [gEq, dat_p (sto_pure hx), dat_p (sto_pure hy), e, if_pos dm]
  cases neg <;> rfl
end
end F

/-! the program as plain functions -/
namespace K15
open PySem F

def c_BINDERS : FV := (.tup [(.str "all"), (.str "some")])
def c_BASIC : FV := (.tup [(.str "holds"), (.str "same")])
def k_DUALS : List (Str × Str) := [("all", "some"), ("some", "all"), ("and", "or"), ("or", "and")]
structure Tab where
  d_negation_form : FDef
  d_form : FDef
  d_law_start : FDef
  d_law_take : FDef
  d_law_entry : FDef
  d_law_value : FDef
  d_law_bound : FDef
  d_law_true : FDef
  d_law_term : FDef
  d_law_basic : FDef
  d_law_sentence : FDef
  d_law_opposite : FDef
  d_law_formed : FDef
  d_law_shaped : FDef
  d_law : FDef
noncomputable def b_negation_form (t : Tab) : FS :=
  (sRet (fCall (t.d_form) (aCons (fVar 0) (aCons (fC (.bl true)) aNil))))
noncomputable def b__form (t : Tab) : FS :=
  (bSeq (sSet 2 (fBin gIx (fVar 0) (fC (.int 0)))) (bSeq (sIf (fCmp (gIn false) (fVar 2) (fC c_BASIC)) (sRet (fIfE (fTst (fVar 1)) (fVar 0) (fTup (aCons (fC (.str "not")) (aCons (fVar 0) aNil))))) bNil) (bSeq (sIf (fCmp (gEq false) (fVar 2) (fC (.str "not"))) (sRet (fCall (t.d_form) (aCons (fBin gIx (fVar 0) (fC (.int 1))) (aCons (fNotV (fVar 1)) aNil)))) bNil) (bSeq (sIf (fCmp (gIn false) (fVar 2) (fC c_BINDERS)) (sRet (fTup (aCons (fIfE (fTst (fVar 1)) (fVar 2) (fUn (gKd k_DUALS) (fVar 2))) (aCons (fBin gIx (fVar 0) (fC (.int 1))) (aCons (fCall (t.d_form) (aCons (fBin gIx (fVar 0) (fC (.int 2))) (aCons (fVar 1) aNil))) aNil))))) bNil) (bSeq (sAsgT (tgT (tgCons (tgN 3) (tgCons (tgN 4) tgNil))) (fSl (fVar 0) (oSome (fC (.int 1))) oNone)) (bSeq (sIf (fCmp (gEq false) (fVar 2) (fC (.str "implies"))) (sRet (fTup (aCons (fIfE (fTst (fVar 1)) (fC (.str "or")) (fC (.str "and"))) (aCons (fCall (t.d_form) (aCons (fVar 3) (aCons (fNotV (fVar 1)) aNil))) (aCons (fCall (t.d_form) (aCons (fVar 4) (aCons (fVar 1) aNil))) aNil))))) bNil) (bSeq (sIf (fCmp (gEq false) (fVar 2) (fC (.str "iff"))) (bSeq (sPar 5 6 (aCons (fTup (aCons (fC (.str "implies")) (aCons (fVar 3) (aCons (fVar 4) aNil)))) (aCons (fTup (aCons (fC (.str "implies")) (aCons (fVar 4) (aCons (fVar 3) aNil)))) aNil))) (sRet (fTup (aCons (fIfE (fTst (fVar 1)) (fC (.str "and")) (fC (.str "or"))) (aCons (fCall (t.d_form) (aCons (fVar 5) (aCons (fVar 1) aNil))) (aCons (fCall (t.d_form) (aCons (fVar 6) (aCons (fVar 1) aNil))) aNil)))))) bNil) (sRet (fTup (aCons (fIfE (fTst (fVar 1)) (fVar 2) (fUn (gKd k_DUALS) (fVar 2))) (aCons (fCall (t.d_form) (aCons (fVar 3) (aCons (fVar 1) aNil))) (aCons (fCall (t.d_form) (aCons (fVar 4) (aCons (fVar 1) aNil))) aNil))))))))))))
noncomputable def b__law_start (t : Tab) : FS :=
  (bSeq (sSet 1 (fLst aNil)) (bSeq (sSet 2 (fC (.int 17))) (bSeq (sFor (tgN 3) (iR1 (fUn gLen (fVar 0))) (bSeq (sSet 4 (fUn gAbs (fBin gIx (fVar 0) (fVar 3)))) (bSeq (sSet 2 (fBin (gI cMod) (fUn gInt (fBin gAdd (fBin gAdd (fBin gMul (fVar 2) (fC (.int 31))) (fVar 4)) (fVar 3))) (fC (.int 2147483647)))) (sIf (fCmp (gOrd fun i j => decide (j ≤ i)) (fVar 4) (fBin (gI cPow) (fC (.int 10)) (fC (.int 18)))) (bSeq (sSet 4 (fBin (gI fun i j => some (i - j)) (fVar 4) (fBin (gI cPow) (fC (.int 10)) (fC (.int 18))))) (sFor (tgN 5) (iR1 (fC (.int 60))) (sIf (fCmp (gOrd fun i j => decide (j < i)) (fVar 4) (fC (.int 0))) (bSeq (sExpr (fMt "list" gAppend (fVar 1) (aCons (fBin (gI cMod) (fUn gInt (fVar 4)) (fC (.int 840))) aNil))) (sSet 4 (fBin (gI cDiv) (fVar 4) (fC (.int 840))))) bNil))) (bSeq (sSet 6 (fBin (gI cMod) (fUn gInt (fBin gAdd (fBin gMul (fBin gAdd (fVar 4) (fC (.int 1))) (fC (.int 48271))) (fBin gMul (fVar 3) (fC (.int 69621))))) (fC (.int 2147483647)))) (bSeq (sSet 6 (fBin (gI cMod) (fUn gInt (fBin gAdd (fBin gMul (fVar 6) (fC (.int 40692))) (fC (.int 5)))) (fC (.int 2147483399)))) (sExpr (fMt "list" gAppend (fVar 1) (aCons (fBin (gI cMod) (fBin (gI cDiv) (fVar 6) (fC (.int 13))) (fC (.int 840))) aNil))))))))) (sRet (fLst (aCons (fVar 1) (aCons (fC (.int 0)) (aCons (fVar 2) aNil))))))))
noncomputable def b__law_take (t : Tab) : FS :=
  (bSeq (sSet 2 (fBin gIx (fVar 0) (fC (.int 1)))) (bSeq (sPut (fBin gAdd (fVar 2) (fC (.int 1))) (fVar 0) (fC (.int 1))) (bSeq (sIf (fCmp gLt (fVar 2) (fUn gLen (fBin gIx (fVar 0) (fC (.int 0))))) (sRet (fBin (gI cMod) (fUn gInt (fBin gIx (fBin gIx (fVar 0) (fC (.int 0))) (fVar 2))) (fVar 1))) bNil) (bSeq (sSet 3 (fBin (gI cMod) (fUn gInt (fBin gMul (fBin gAdd (fBin gIx (fVar 0) (fC (.int 2))) (fBin gMul (fVar 2) (fC (.int 40503)))) (fC (.int 48271)))) (fC (.int 2147483647)))) (bSeq (sSet 3 (fBin (gI cMod) (fUn gInt (fBin gAdd (fBin gMul (fVar 3) (fC (.int 69621))) (fBin gMul (fVar 2) (fVar 2)))) (fC (.int 2147483629)))) (sRet (fBin (gI cMod) (fBin (gI cDiv) (fVar 3) (fC (.int 11))) (fVar 1))))))))
noncomputable def b__law_entry (t : Tab) : FS :=
  (bSeq (sSet 4 (fC (.int 0))) (bSeq (sFor (tgN 5) (iSeq (fVar 3)) (sSet 4 (fBin gAdd (fBin gMul (fVar 4) (fVar 1)) (fVar 5)))) (sRet (fBin gIx (fBin gIx (fVar 0) (fVar 2)) (fVar 4)))))
noncomputable def b__law_value (t : Tab) : FS :=
  (bSeq (sIf (fTst (fUn (gIs "str") (fVar 2))) (sRet (fBin gIx (fVar 3) (fVar 2))) bNil) (sRet (fCall (t.d_law_entry) (aCons (fVar 0) (aCons (fVar 1) (aCons (fBin gIx (fVar 2) (fC (.int 0))) (aCons (fComp (iSeq (fSl (fVar 2) (oSome (fC (.int 1))) oNone)) (tgN 4) [4] fYes (fCall (t.d_law_value) (aCons (fVar 0) (aCons (fVar 1) (aCons (fVar 4) (aCons (fVar 3) aNil)))))) aNil)))))))
noncomputable def b__law_bound (t : Tab) : FS :=
  (bSeq (sSet 4 (fBl (fCmp (gEq false) (fBin gIx (fVar 2) (fC (.int 0))) (fC (.str "some"))))) (bSeq (sFor (tgN 5) (iR1 (fVar 1)) (bSeq (sSet 6 (fUn gDict (fVar 3))) (bSeq (sPut (fVar 5) (fVar 6) (fBin gIx (fVar 2) (fC (.int 1)))) (sIf (fCmp (gEq false) (fCall (t.d_law_true) (aCons (fVar 0) (aCons (fVar 1) (aCons (fBin gIx (fVar 2) (fC (.int 2))) (aCons (fVar 6) aNil))))) (fVar 4)) (sRet (fVar 4)) bNil)))) (sRet (fNotV (fVar 4)))))
noncomputable def b__law_true (t : Tab) : FS :=
  (bSeq (sSet 4 (fBin gIx (fVar 2) (fC (.int 0)))) (bSeq (sIf (fCmp (gEq false) (fVar 4) (fC (.str "holds"))) (bSeq (sSet 5 (fBin gIx (fVar 2) (fC (.int 1)))) (sRet (fCall (t.d_law_entry) (aCons (fVar 0) (aCons (fVar 1) (aCons (fBin gIx (fVar 5) (fC (.int 0))) (aCons (fComp (iSeq (fSl (fVar 5) (oSome (fC (.int 1))) oNone)) (tgN 8) [8] fYes (fCall (t.d_law_value) (aCons (fVar 0) (aCons (fVar 1) (aCons (fVar 8) (aCons (fVar 3) aNil)))))) aNil))))))) bNil) (bSeq (sIf (fCmp (gEq false) (fVar 4) (fC (.str "same"))) (sRet (fBl (fCmp (gEq false) (fCall (t.d_law_value) (aCons (fVar 0) (aCons (fVar 1) (aCons (fBin gIx (fVar 2) (fC (.int 1))) (aCons (fVar 3) aNil))))) (fCall (t.d_law_value) (aCons (fVar 0) (aCons (fVar 1) (aCons (fBin gIx (fVar 2) (fC (.int 2))) (aCons (fVar 3) aNil)))))))) bNil) (bSeq (sIf (fCmp (gEq false) (fVar 4) (fC (.str "not"))) (sRet (fNotV (fCall (t.d_law_true) (aCons (fVar 0) (aCons (fVar 1) (aCons (fBin gIx (fVar 2) (fC (.int 1))) (aCons (fVar 3) aNil))))))) bNil) (bSeq (sIf (fCmp (gIn false) (fVar 4) (fTup (aCons (fC (.str "all")) (aCons (fC (.str "some")) aNil)))) (sRet (fCall (t.d_law_bound) (aCons (fVar 0) (aCons (fVar 1) (aCons (fVar 2) (aCons (fVar 3) aNil)))))) bNil) (bSeq (sSet 6 (fCall (t.d_law_true) (aCons (fVar 0) (aCons (fVar 1) (aCons (fBin gIx (fVar 2) (fC (.int 1))) (aCons (fVar 3) aNil)))))) (bSeq (sIf (fOr (fAnd (fCmp (gEq false) (fVar 4) (fC (.str "and"))) (fNot (fTst (fVar 6)))) (fAnd (fCmp (gEq false) (fVar 4) (fC (.str "or"))) (fTst (fVar 6)))) (sRet (fVar 6)) bNil) (bSeq (sIf (fAnd (fCmp (gEq false) (fVar 4) (fC (.str "implies"))) (fNot (fTst (fVar 6)))) (sRet (fC (.bl true))) bNil) (bSeq (sSet 7 (fCall (t.d_law_true) (aCons (fVar 0) (aCons (fVar 1) (aCons (fBin gIx (fVar 2) (fC (.int 2))) (aCons (fVar 3) aNil)))))) (bSeq (sIf (fCmp (gEq false) (fVar 4) (fC (.str "iff"))) (sRet (fBl (fCmp (gEq false) (fVar 6) (fVar 7)))) bNil) (sRet (fVar 7))))))))))))
noncomputable def b__law_term (t : Tab) : FS :=
  (bSeq (sSet 2 (fCall (t.d_law_take) (aCons (fVar 0) (aCons (fC (.int 4)) aNil)))) (bSeq (sIf (fCmp (gEq false) (fVar 2) (fC (.int 0))) (sRet (fTup (aCons (fC (.str "a")) aNil))) bNil) (bSeq (sIf (fCmp (gEq false) (fVar 2) (fC (.int 1))) (sRet (fTup (aCons (fC (.str "f")) (aCons (fBin gIx (fVar 1) (fCall (t.d_law_take) (aCons (fVar 0) (aCons (fUn gLen (fVar 1)) aNil)))) aNil)))) bNil) (sRet (fBin gIx (fVar 1) (fCall (t.d_law_take) (aCons (fVar 0) (aCons (fUn gLen (fVar 1)) aNil))))))))
noncomputable def b__law_basic (t : Tab) : FS :=
  (bSeq (sSet 2 (fCall (t.d_law_take) (aCons (fVar 0) (aCons (fC (.int 4)) aNil)))) (bSeq (sIf (fCmp (gEq false) (fVar 2) (fC (.int 0))) (sRet (fTup (aCons (fC (.str "same")) (aCons (fCall (t.d_law_term) (aCons (fVar 0) (aCons (fVar 1) aNil))) (aCons (fCall (t.d_law_term) (aCons (fVar 0) (aCons (fVar 1) aNil))) aNil))))) bNil) (bSeq (sIf (fCmp (gEq false) (fVar 2) (fC (.int 1))) (sRet (fTup (aCons (fC (.str "holds")) (aCons (fTup (aCons (fC (.str "R")) (aCons (fCall (t.d_law_term) (aCons (fVar 0) (aCons (fVar 1) aNil))) (aCons (fCall (t.d_law_term) (aCons (fVar 0) (aCons (fVar 1) aNil))) aNil)))) aNil)))) bNil) (bSeq (sIf (fCmp (gEq false) (fVar 2) (fC (.int 2))) (sRet (fTup (aCons (fC (.str "holds")) (aCons (fTup (aCons (fC (.str "P")) (aCons (fCall (t.d_law_term) (aCons (fVar 0) (aCons (fVar 1) aNil))) aNil))) aNil)))) bNil) (sRet (fTup (aCons (fC (.str "holds")) (aCons (fTup (aCons (fC (.str "Q")) aNil)) aNil))))))))
noncomputable def b__law_sentence (t : Tab) : FS :=
  (bSeq (sSet 3 (fCall (t.d_law_take) (aCons (fVar 0) (aCons (fC (.int 10)) aNil)))) (bSeq (sIf (fOr (fCmp (gEq false) (fVar 2) (fC (.int 0))) (fCmp (gEq false) (fVar 3) (fC (.int 0)))) (sRet (fCall (t.d_law_basic) (aCons (fVar 0) (aCons (fVar 1) aNil)))) bNil) (bSeq (sIf (fCmp gLt (fVar 3) (fC (.int 3))) (sRet (fTup (aCons (fC (.str "not")) (aCons (fCall (t.d_law_sentence) (aCons (fVar 0) (aCons (fVar 1) (aCons (fBin (gI fun i j => some (i - j)) (fVar 2) (fC (.int 1))) aNil)))) aNil)))) bNil) (bSeq (sIf (fCmp gLt (fVar 3) (fC (.int 5))) (bSeq (sSet 4 (fBin gIx (fLst (aCons (fC (.str "x")) (aCons (fC (.str "y")) (aCons (fC (.str "z")) aNil)))) (fCall (t.d_law_take) (aCons (fVar 0) (aCons (fC (.int 3)) aNil))))) (bSeq (sSet 5 (fBin gAdd (fComp (iSeq (fVar 1)) (tgN 7) [7] (fCmp (gEq true) (fVar 7) (fVar 4)) (fVar 7)) (fLst (aCons (fVar 4) aNil)))) (sRet (fTup (aCons (fBin gIx (fLst (aCons (fC (.str "all")) (aCons (fC (.str "some")) aNil))) (fCall (t.d_law_take) (aCons (fVar 0) (aCons (fC (.int 2)) aNil)))) (aCons (fVar 4) (aCons (fCall (t.d_law_sentence) (aCons (fVar 0) (aCons (fVar 5) (aCons (fBin (gI fun i j => some (i - j)) (fVar 2) (fC (.int 1))) aNil)))) aNil))))))) bNil) (bSeq (sSet 6 (fBin gIx (fLst (aCons (fC (.str "and")) (aCons (fC (.str "or")) (aCons (fC (.str "implies")) (aCons (fC (.str "iff")) (aCons (fC (.str "iff")) aNil)))))) (fBin (gI fun i j => some (i - j)) (fVar 3) (fC (.int 5))))) (sRet (fTup (aCons (fVar 6) (aCons (fCall (t.d_law_sentence) (aCons (fVar 0) (aCons (fVar 1) (aCons (fBin (gI fun i j => some (i - j)) (fVar 2) (fC (.int 1))) aNil)))) (aCons (fCall (t.d_law_sentence) (aCons (fVar 0) (aCons (fVar 1) (aCons (fBin (gI fun i j => some (i - j)) (fVar 2) (fC (.int 1))) aNil)))) aNil))))))))))
noncomputable def b__law_opposite (t : Tab) : FS :=
  (bSeq (sSet 1 (fBin gIx (fVar 0) (fC (.int 0)))) (bSeq (sIf (fCmp (gEq false) (fVar 1) (fC (.str "not"))) (sRet (fBin gIx (fVar 0) (fC (.int 1)))) bNil) (bSeq (sIf (fCmp (gIn false) (fVar 1) (fTup (aCons (fC (.str "holds")) (aCons (fC (.str "same")) aNil)))) (sRet (fTup (aCons (fC (.str "not")) (aCons (fVar 0) aNil)))) bNil) (bSeq (sIf (fCmp (gIn false) (fVar 1) (fTup (aCons (fC (.str "all")) (aCons (fC (.str "some")) aNil)))) (sRet (fTup (aCons (fIfE (fCmp (gEq false) (fVar 1) (fC (.str "all"))) (fC (.str "some")) (fC (.str "all"))) (aCons (fBin gIx (fVar 0) (fC (.int 1))) (aCons (fCall (t.d_law_opposite) (aCons (fBin gIx (fVar 0) (fC (.int 2))) aNil)) aNil))))) bNil) (sRet (fTup (aCons (fIfE (fCmp (gEq false) (fVar 1) (fC (.str "and"))) (fC (.str "or")) (fC (.str "and"))) (aCons (fCall (t.d_law_opposite) (aCons (fBin gIx (fVar 0) (fC (.int 1))) aNil)) (aCons (fCall (t.d_law_opposite) (aCons (fBin gIx (fVar 0) (fC (.int 2))) aNil)) aNil)))))))))
noncomputable def b__law_formed (t : Tab) : FS :=
  (bSeq (sSet 1 (fBin gIx (fVar 0) (fC (.int 0)))) (bSeq (sIf (fCmp (gIn false) (fVar 1) (fTup (aCons (fC (.str "holds")) (aCons (fC (.str "same")) aNil)))) (sRet (fVar 0)) bNil) (bSeq (sIf (fCmp (gEq false) (fVar 1) (fC (.str "not"))) (sRet (fCall (t.d_law_opposite) (aCons (fCall (t.d_law_formed) (aCons (fBin gIx (fVar 0) (fC (.int 1))) aNil)) aNil))) bNil) (bSeq (sIf (fCmp (gIn false) (fVar 1) (fTup (aCons (fC (.str "all")) (aCons (fC (.str "some")) aNil)))) (sRet (fTup (aCons (fVar 1) (aCons (fBin gIx (fVar 0) (fC (.int 1))) (aCons (fCall (t.d_law_formed) (aCons (fBin gIx (fVar 0) (fC (.int 2))) aNil)) aNil))))) bNil) (bSeq (sSet 2 (fCall (t.d_law_formed) (aCons (fBin gIx (fVar 0) (fC (.int 1))) aNil))) (bSeq (sSet 3 (fCall (t.d_law_formed) (aCons (fBin gIx (fVar 0) (fC (.int 2))) aNil))) (bSeq (sIf (fCmp (gEq false) (fVar 1) (fC (.str "implies"))) (sRet (fTup (aCons (fC (.str "or")) (aCons (fCall (t.d_law_opposite) (aCons (fVar 2) aNil)) (aCons (fVar 3) aNil))))) bNil) (bSeq (sIf (fCmp (gEq false) (fVar 1) (fC (.str "iff"))) (sRet (fTup (aCons (fC (.str "and")) (aCons (fTup (aCons (fC (.str "or")) (aCons (fCall (t.d_law_opposite) (aCons (fVar 2) aNil)) (aCons (fVar 3) aNil)))) (aCons (fTup (aCons (fC (.str "or")) (aCons (fCall (t.d_law_opposite) (aCons (fVar 3) aNil)) (aCons (fVar 2) aNil)))) aNil))))) bNil) (sRet (fTup (aCons (fVar 1) (aCons (fVar 2) (aCons (fVar 3) aNil)))))))))))))
noncomputable def b__law_shaped (t : Tab) : FS :=
  (bSeq (sSet 1 (fBin gIx (fVar 0) (fC (.int 0)))) (bSeq (sIf (fCmp (gEq false) (fVar 1) (fC (.str "not"))) (sRet (fBl (fCmp (gIn false) (fBin gIx (fBin gIx (fVar 0) (fC (.int 1))) (fC (.int 0))) (fTup (aCons (fC (.str "holds")) (aCons (fC (.str "same")) aNil)))))) bNil) (bSeq (sIf (fCmp (gIn false) (fVar 1) (fTup (aCons (fC (.str "all")) (aCons (fC (.str "some")) aNil)))) (sRet (fCall (t.d_law_shaped) (aCons (fBin gIx (fVar 0) (fC (.int 2))) aNil))) bNil) (bSeq (sIf (fCmp (gIn false) (fVar 1) (fTup (aCons (fC (.str "and")) (aCons (fC (.str "or")) aNil)))) (sRet (fAndV (fCall (t.d_law_shaped) (aCons (fBin gIx (fVar 0) (fC (.int 1))) aNil)) (fCall (t.d_law_shaped) (aCons (fBin gIx (fVar 0) (fC (.int 2))) aNil)))) bNil) (sRet (fBl (fCmp (gIn false) (fVar 1) (fTup (aCons (fC (.str "holds")) (aCons (fC (.str "same")) aNil))))))))))
noncomputable def b_law (t : Tab) : FS :=
  (bSeq (sSet 1 (fCall (t.d_law_start) (aCons (fVar 0) aNil))) (bSeq (sSet 2 (fBin gAdd (fC (.int 1)) (fCall (t.d_law_take) (aCons (fVar 1) (aCons (fC (.int 3)) aNil))))) (bSeq (sSet 3 (fBin gAdd (fC (.int 1)) (fCall (t.d_law_take) (aCons (fVar 1) (aCons (fC (.int 4)) aNil))))) (bSeq (sSet 4 (fDis (dCons (fC (.str "a")) (fLst (aCons (fCall (t.d_law_take) (aCons (fVar 1) (aCons (fVar 2) aNil))) aNil)) (dCons (fC (.str "Q")) (fLst (aCons (fBl (fCmp (gEq false) (fCall (t.d_law_take) (aCons (fVar 1) (aCons (fC (.int 2)) aNil))) (fC (.int 1)))) aNil)) dNil)))) (bSeq (sPut (fComp (iR1 (fVar 2)) (tgN 13) [13] fYes (fCall (t.d_law_take) (aCons (fVar 1) (aCons (fVar 2) aNil)))) (fVar 4) (fC (.str "f"))) (bSeq (sPut (fComp (iR1 (fVar 2)) (tgN 13) [13] fYes (fBl (fCmp (gEq false) (fCall (t.d_law_take) (aCons (fVar 1) (aCons (fC (.int 2)) aNil))) (fC (.int 1))))) (fVar 4) (fC (.str "P"))) (bSeq (sPut (fComp (iR1 (fBin gMul (fVar 2) (fVar 2))) (tgN 13) [13] fYes (fBl (fCmp (gEq false) (fCall (t.d_law_take) (aCons (fVar 1) (aCons (fC (.int 2)) aNil))) (fC (.int 1))))) (fVar 4) (fC (.str "R"))) (bSeq (sSet 5 (fCall (t.d_law_sentence) (aCons (fVar 1) (aCons (fLst (aCons (fC (.str "x")) (aCons (fC (.str "y")) aNil))) (aCons (fVar 3) aNil))))) (bSeq (sSet 6 (fCall (t.d_law_formed) (aCons (fVar 5) aNil))) (bSeq (sSet 7 (fCall (t.d_negation_form) (aCons (fVar 5) aNil))) (bSeq (sSet 8 (fCall (t.d_negation_form) (aCons (fTup (aCons (fC (.str "not")) (aCons (fVar 5) aNil))) aNil))) (bSeq (sIf (fOr (fCmp (gEq true) (fVar 7) (fVar 6)) (fCmp (gEq true) (fVar 8) (fCall (t.d_law_opposite) (aCons (fVar 6) aNil)))) (sRet (fC (.bl false))) bNil) (bSeq (sIf (fOr (fNot (fTst (fCall (t.d_law_shaped) (aCons (fVar 7) aNil)))) (fOr (fNot (fTst (fCall (t.d_law_shaped) (aCons (fVar 8) aNil)))) (fCmp (gEq true) (fCall (t.d_negation_form) (aCons (fVar 7) aNil)) (fVar 6)))) (sRet (fC (.bl false))) bNil) (bSeq (sFor (tgN 9) (iR1 (fVar 2)) (sFor (tgN 10) (iR1 (fVar 2)) (bSeq (sSet 11 (fDis (dCons (fC (.str "x")) (fVar 9) (dCons (fC (.str "y")) (fVar 10) dNil)))) (bSeq (sSet 12 (fCall (t.d_law_true) (aCons (fVar 4) (aCons (fVar 2) (aCons (fVar 5) (aCons (fVar 11) aNil)))))) (bSeq (sIf (fCmp (gEq true) (fCall (t.d_law_true) (aCons (fVar 4) (aCons (fVar 2) (aCons (fVar 7) (aCons (fVar 11) aNil))))) (fVar 12)) (sRet (fC (.bl false))) bNil) (sIf (fCmp (gEq false) (fCall (t.d_law_true) (aCons (fVar 4) (aCons (fVar 2) (aCons (fVar 8) (aCons (fVar 11) aNil))))) (fVar 12)) (sRet (fC (.bl false))) bNil)))))) (sRet (fC (.bl true)))))))))))))))))
noncomputable def T : Nat → Tab
  | 0 => ⟨fNo, fNo, fNo, fNo, fNo, fNo, fNo, fNo, fNo, fNo, fNo, fNo, fNo, fNo, fNo⟩
  | n + 1 => {
      d_negation_form := gcP (runF 1 0 (b_negation_form (T n)))
      d_form := gcP (runF 2 5 (b__form (T n)))
      d_law_start := runF 1 6 (b__law_start (T n))
      d_law_take := runF 2 2 (b__law_take (T n))
      d_law_entry := gcP (runF 4 2 (b__law_entry (T n)))
      d_law_value := gcP (runF 4 1 (b__law_value (T n)))
      d_law_bound := gcP (runF 4 3 (b__law_bound (T n)))
      d_law_true := gcP (runF 4 5 (b__law_true (T n)))
      d_law_term := runF 2 1 (b__law_term (T n))
      d_law_basic := runF 2 1 (b__law_basic (T n))
      d_law_sentence := runF 3 5 (b__law_sentence (T n))
      d_law_opposite := gcP (runF 1 1 (b__law_opposite (T n)))
      d_law_formed := gcP (runF 1 3 (b__law_formed (T n)))
      d_law_shaped := gcP (runF 1 1 (b__law_shaped (T n)))
      d_law := runF 1 13 (b_law (T n)) }
end K15

namespace K15
open PySem PySem.Spec PyProof.Rows L2 G F

def top (i : Nat) : Stmt := PySem.Challenge.pw_worldorpaper_k15_negation_form_says_the.main.body.getD i (.Pass ⟨0, 0, 0, 0⟩)
section
variable {P : Program} {w : World} {K : PySem.W.Frag} {mg : Str → Option Value} {base : Heap}
/-! ### negation_form -/
abbrev s_negation_form : Stmt := top 4
abbrev N_negation_form : List Str := ["sentence"]
theorem sc_negation_form : FnScope N_negation_form ["sentence"] (defScope s_negation_form) := ⟨rfl, rfl, rfl, by decide +kernel, rfl, by decide +kernel, by decide +kernel⟩
theorem ok_negation_form {a : Addr} {fd : FuncData} {n : Nat} {t : Tab} (F : Fun K "negation_form" "negation_form" s_negation_form a fd) (h__form : HasF P w K mg base n "_form" ["sentence", "sign"] (t.d_form))   :
    FnOk P w K mg base (L2.CX P w) (n + 1) a fd ["sentence"] (spF K mg (runF 1 0 (b_negation_form t))) :=
  mk_fnF F sc_negation_form rfl rfl (b := b_negation_form t) fun cdv A outer s H E hr => by
    have tk : Tk (CxF P w K mg base N_negation_form "negation_form" s_negation_form a cdv A outer s H E) (fun cls d _ H => E cls d H) := .inl (takes_of rfl rfl rfl rfl)
    have hp : PassesOwn (model P w) (CxF P w K mg base N_negation_form "negation_form" s_negation_form a cdv A outer s H E).A (CxF P w K mg base N_negation_form "negation_form" s_negation_form a cdv A outer s H E).env (CxF P w K mg base N_negation_form "negation_form" s_negation_form a cdv A outer s H E).xe := passes_of rfl
    have hN : (CxF P w K mg base N_negation_form "negation_form" s_negation_form a cdv A outer s H E).N.Nodup := sc_negation_form.nd
    exact (sb_one (ss_ret (se_call tk h__form hr (Nat.le_refl _) (sa_cons (se_var 0) (sa_cons se_bl sa_nil)))))
/-! ### _form -/
abbrev s__form : Stmt := top 5
abbrev N__form : List Str := ["sentence", "sign", "word", "first", "second", "there", "back"]
theorem sc__form : FnScope N__form ["sentence", "sign"] (defScope s__form) := ⟨rfl, rfl, rfl, by decide +kernel, rfl, by decide +kernel, by decide +kernel⟩
theorem ok__form {a : Addr} {fd : FuncData} {n : Nat} {t : Tab} (F : Fun K "_form" "_form" s__form a fd) (h__form : HasF P w K mg base n "_form" ["sentence", "sign"] (t.d_form))  (g_BASIC : GC K mg "BASIC" c_BASIC) (g_BINDERS : GC K mg "BINDERS" c_BINDERS) (g_DUALS : GD K w mg "DUALS" k_DUALS) :
    FnOk P w K mg base (L2.CX P w) (n + 1) a fd ["sentence", "sign"] (spF K mg (runF 2 5 (b__form t))) :=
  mk_fnF F sc__form rfl rfl (b := b__form t) fun cdv A outer s H E hr => by
    have tk : Tk (CxF P w K mg base N__form "_form" s__form a cdv A outer s H E) (fun cls d _ H => E cls d H) := .inl (takes_of rfl rfl rfl rfl)
    have hp : PassesOwn (model P w) (CxF P w K mg base N__form "_form" s__form a cdv A outer s H E).A (CxF P w K mg base N__form "_form" s__form a cdv A outer s H E).env (CxF P w K mg base N__form "_form" s__form a cdv A outer s H E).xe := passes_of rfl
    have hN : (CxF P w K mg base N__form "_form" s__form a cdv A outer s H E).N.Nodup := sc__form.nd
    exact (sb_cons (ss_set 2 hN (se_ix hr (se_var 0) se_int)) (sb_cons (ss_if (st_in hr (se_var 2) (se_glob g_BASIC)) (sb_one (ss_ret (se_ifE (st_val (se_var 1)) (se_var 0) (se_tup (sa_cons se_str (sa_cons (se_var 0) sa_nil)))))) sb_nil) (sb_cons (ss_if (st_eq hr (se_var 2) se_str) (sb_one (ss_ret (se_call tk h__form hr (Nat.le_refl _) (sa_cons (se_ix hr (se_var 0) se_int) (sa_cons (se_not (se_var 1)) sa_nil))))) sb_nil) (sb_cons (ss_if (st_in hr (se_var 2) (se_glob g_BINDERS)) (sb_one (ss_ret (se_tup (sa_cons (se_ifE (st_val (se_var 1)) (se_var 2) (se_kd g_DUALS (se_var 2))) (sa_cons (se_ix hr (se_var 0) se_int) (sa_cons (se_call tk h__form hr (Nat.le_refl _) (sa_cons (se_ix hr (se_var 0) se_int) (sa_cons (se_var 1) sa_nil))) sa_nil)))))) sb_nil) (sb_cons (ss_asgT (sg_tup rfl (sg_cons (sg_name 3 hN) (sg_cons (sg_name 4 hN) sg_nil))) (se_sl (se_var 0) (sp_some se_int) sp_none)) (sb_cons (ss_if (st_eq hr (se_var 2) se_str) (sb_one (ss_ret (se_tup (sa_cons (se_ifE (st_val (se_var 1)) se_str se_str) (sa_cons (se_call tk h__form hr (Nat.le_refl _) (sa_cons (se_var 3) (sa_cons (se_not (se_var 1)) sa_nil))) (sa_cons (se_call tk h__form hr (Nat.le_refl _) (sa_cons (se_var 4) (sa_cons (se_var 1) sa_nil))) sa_nil)))))) sb_nil) (sb_cons (ss_if (st_eq hr (se_var 2) se_str) (sb_cons (ss_par 5 6 rfl hN (sa_cons (se_tup (sa_cons se_str (sa_cons (se_var 3) (sa_cons (se_var 4) sa_nil)))) (sa_cons (se_tup (sa_cons se_str (sa_cons (se_var 4) (sa_cons (se_var 3) sa_nil)))) sa_nil))) (sb_one (ss_ret (se_tup (sa_cons (se_ifE (st_val (se_var 1)) se_str se_str) (sa_cons (se_call tk h__form hr (Nat.le_refl _) (sa_cons (se_var 5) (sa_cons (se_var 1) sa_nil))) (sa_cons (se_call tk h__form hr (Nat.le_refl _) (sa_cons (se_var 6) (sa_cons (se_var 1) sa_nil))) sa_nil))))))) sb_nil) (sb_one (ss_ret (se_tup (sa_cons (se_ifE (st_val (se_var 1)) (se_var 2) (se_kd g_DUALS (se_var 2))) (sa_cons (se_call tk h__form hr (Nat.le_refl _) (sa_cons (se_var 3) (sa_cons (se_var 1) sa_nil))) (sa_cons (se_call tk h__form hr (Nat.le_refl _) (sa_cons (se_var 4) (sa_cons (se_var 1) sa_nil))) sa_nil)))))))))))))
/-! ### _law_start -/
abbrev s__law_start : Stmt := top 7
abbrev N__law_start : List Str := ["_law_script", "_law_row", "_law_seed", "_law_k", "_law_cell", "_law_j", "_law_mixed"]
theorem sc__law_start : FnScope N__law_start ["_law_script"] (defScope s__law_start) := ⟨rfl, rfl, rfl, by decide +kernel, rfl, by decide +kernel, by decide +kernel⟩
theorem ok__law_start {a : Addr} {fd : FuncData} {n : Nat} {t : Tab} (F : Fun K "_law_start" "_law_start" s__law_start a fd)  (m_range : mg "range" = none) (m_len : mg "len" = none) (m_abs : mg "abs" = none) (m_int : mg "int" = none)  :
    FnOk P w K mg base (L2.CX P w) (n + 1) a fd ["_law_script"] (spF K mg (runF 1 6 (b__law_start t))) :=
  mk_fnF F sc__law_start rfl rfl (b := b__law_start t) fun cdv A outer s H E hr => by
    have tk : Tk (CxF P w K mg base N__law_start "_law_start" s__law_start a cdv A outer s H E) (fun cls d _ H => E cls d H) := .inl (takes_of rfl rfl rfl rfl)
    have hp : PassesOwn (model P w) (CxF P w K mg base N__law_start "_law_start" s__law_start a cdv A outer s H E).A (CxF P w K mg base N__law_start "_law_start" s__law_start a cdv A outer s H E).env (CxF P w K mg base N__law_start "_law_start" s__law_start a cdv A outer s H E).xe := passes_of rfl
    have hN : (CxF P w K mg base N__law_start "_law_start" s__law_start a cdv A outer s H E).N.Nodup := sc__law_start.nd
    exact (sb_cons (ss_set 1 hN (se_lst sa_nil)) (sb_cons (ss_set 2 hN se_int) (sb_cons (ss_for hp rfl (si_range1 m_range (se_len m_len (se_var 0))) (sg_name 3 hN) (sb_cons (ss_set 4 hN (se_abs m_abs (se_ix hr (se_var 0) (se_var 3)))) (sb_cons (ss_set 2 hN (se_mod (se_int1 m_int (se_add (se_add (se_mul (se_var 2) se_int) (se_var 4)) (se_var 3))) se_int)) (sb_one (ss_if (st_ge (se_var 4) (se_pow se_int se_int)) (sb_cons (ss_set 4 hN (se_sub (se_var 4) (se_pow se_int se_int))) (sb_one (ss_for hp rfl (si_range1 m_range se_int) (sg_name 5 hN) (sb_one (ss_if (st_gt (se_var 4) se_int) (sb_cons (ss_expr (se_append (se_var 1) (sa_cons (se_mod (se_int1 m_int (se_var 4)) se_int) sa_nil))) (sb_one (ss_set 4 hN (se_div (se_var 4) se_int)))) sb_nil))))) (sb_cons (ss_set 6 hN (se_mod (se_int1 m_int (se_add (se_mul (se_add (se_var 4) se_int) se_int) (se_mul (se_var 3) se_int))) se_int)) (sb_cons (ss_set 6 hN (se_mod (se_int1 m_int (se_add (se_mul (se_var 6) se_int) se_int)) se_int)) (sb_one (ss_expr (se_append (se_var 1) (sa_cons (se_mod (se_div (se_var 6) se_int) se_int) sa_nil))))))))))) (sb_one (ss_ret (se_lst (sa_cons (se_var 1) (sa_cons se_int (sa_cons (se_var 2) sa_nil)))))))))
/-! ### _law_take -/
abbrev s__law_take : Stmt := top 8
abbrev N__law_take : List Str := ["_law_state", "_law_many", "_law_at", "_law_mixed"]
theorem sc__law_take : FnScope N__law_take ["_law_state", "_law_many"] (defScope s__law_take) := ⟨rfl, rfl, rfl, by decide +kernel, rfl, by decide +kernel, by decide +kernel⟩
theorem ok__law_take {a : Addr} {fd : FuncData} {n : Nat} {t : Tab} (F : Fun K "_law_take" "_law_take" s__law_take a fd)  (m_len : mg "len" = none) (m_int : mg "int" = none)  :
    FnOk P w K mg base (L2.CX P w) (n + 1) a fd ["_law_state", "_law_many"] (spF K mg (runF 2 2 (b__law_take t))) :=
  mk_fnF F sc__law_take rfl rfl (b := b__law_take t) fun cdv A outer s H E hr => by
    have tk : Tk (CxF P w K mg base N__law_take "_law_take" s__law_take a cdv A outer s H E) (fun cls d _ H => E cls d H) := .inl (takes_of rfl rfl rfl rfl)
    have hp : PassesOwn (model P w) (CxF P w K mg base N__law_take "_law_take" s__law_take a cdv A outer s H E).A (CxF P w K mg base N__law_take "_law_take" s__law_take a cdv A outer s H E).env (CxF P w K mg base N__law_take "_law_take" s__law_take a cdv A outer s H E).xe := passes_of rfl
    have hN : (CxF P w K mg base N__law_take "_law_take" s__law_take a cdv A outer s H E).N.Nodup := sc__law_take.nd
    exact (sb_cons (ss_set 2 hN (se_ix hr (se_var 0) se_int)) (sb_cons (ss_put hr (se_add (se_var 2) se_int) (se_var 0) se_int) (sb_cons (ss_if (st_lt (se_var 2) (se_len m_len (se_ix hr (se_var 0) se_int))) (sb_one (ss_ret (se_mod (se_int1 m_int (se_ix hr (se_ix hr (se_var 0) se_int) (se_var 2))) (se_var 1)))) sb_nil) (sb_cons (ss_set 3 hN (se_mod (se_int1 m_int (se_mul (se_add (se_ix hr (se_var 0) se_int) (se_mul (se_var 2) se_int)) se_int)) se_int)) (sb_cons (ss_set 3 hN (se_mod (se_int1 m_int (se_add (se_mul (se_var 3) se_int) (se_mul (se_var 2) (se_var 2)))) se_int)) (sb_one (ss_ret (se_mod (se_div (se_var 3) se_int) (se_var 1)))))))))
/-! ### _law_entry -/
abbrev s__law_entry : Stmt := top 9
abbrev N__law_entry : List Str := ["_law_tables", "_law_size", "_law_name", "_law_things", "_law_at", "_law_thing"]
theorem sc__law_entry : FnScope N__law_entry ["_law_tables", "_law_size", "_law_name", "_law_things"] (defScope s__law_entry) := ⟨rfl, rfl, rfl, by decide +kernel, rfl, by decide +kernel, by decide +kernel⟩
theorem ok__law_entry {a : Addr} {fd : FuncData} {n : Nat} {t : Tab} (F : Fun K "_law_entry" "_law_entry" s__law_entry a fd)    :
    FnOk P w K mg base (L2.CX P w) (n + 1) a fd ["_law_tables", "_law_size", "_law_name", "_law_things"] (spF K mg (runF 4 2 (b__law_entry t))) :=
  mk_fnF F sc__law_entry rfl rfl (b := b__law_entry t) fun cdv A outer s H E hr => by
    have tk : Tk (CxF P w K mg base N__law_entry "_law_entry" s__law_entry a cdv A outer s H E) (fun cls d _ H => E cls d H) := .inl (takes_of rfl rfl rfl rfl)
    have hp : PassesOwn (model P w) (CxF P w K mg base N__law_entry "_law_entry" s__law_entry a cdv A outer s H E).A (CxF P w K mg base N__law_entry "_law_entry" s__law_entry a cdv A outer s H E).env (CxF P w K mg base N__law_entry "_law_entry" s__law_entry a cdv A outer s H E).xe := passes_of rfl
    have hN : (CxF P w K mg base N__law_entry "_law_entry" s__law_entry a cdv A outer s H E).N.Nodup := sc__law_entry.nd
    exact (sb_cons (ss_set 4 hN se_int) (sb_cons (ss_for hp rfl (si_seq (se_var 3)) (sg_name 5 hN) (sb_one (ss_set 4 hN (se_add (se_mul (se_var 4) (se_var 1)) (se_var 5))))) (sb_one (ss_ret (se_ix hr (se_ix hr (se_var 0) (se_var 2)) (se_var 4))))))
/-! ### _law_value -/
abbrev s__law_value : Stmt := top 10
abbrev N__law_value : List Str := ["_law_tables", "_law_size", "_law_term_here", "_law_values", "_law_part"]
theorem sc__law_value : FnScope N__law_value ["_law_tables", "_law_size", "_law_term_here", "_law_values"] (defScope s__law_value) := ⟨rfl, rfl, rfl, by decide +kernel, rfl, by decide +kernel, by decide +kernel⟩
theorem ok__law_value {a : Addr} {fd : FuncData} {n : Nat} {t : Tab} (F : Fun K "_law_value" "_law_value" s__law_value a fd) (h__law_entry : HasF P w K mg base n "_law_entry" ["_law_tables", "_law_size", "_law_name", "_law_things"] (t.d_law_entry)) (h__law_value : HasF P w K mg base n "_law_value" ["_law_tables", "_law_size", "_law_term_here", "_law_values"] (t.d_law_value)) (m_isinstance : mg "isinstance" = none) (m_str : mg "str" = none)  :
    FnOk P w K mg base (L2.CX P w) (n + 1) a fd ["_law_tables", "_law_size", "_law_term_here", "_law_values"] (spF K mg (runF 4 1 (b__law_value t))) :=
  mk_fnF F sc__law_value rfl rfl (b := b__law_value t) fun cdv A outer s H E hr => by
    have tk : Tk (CxF P w K mg base N__law_value "_law_value" s__law_value a cdv A outer s H E) (fun cls d _ H => E cls d H) := .inl (takes_of rfl rfl rfl rfl)
    have hp : PassesOwn (model P w) (CxF P w K mg base N__law_value "_law_value" s__law_value a cdv A outer s H E).A (CxF P w K mg base N__law_value "_law_value" s__law_value a cdv A outer s H E).env (CxF P w K mg base N__law_value "_law_value" s__law_value a cdv A outer s H E).xe := passes_of rfl
    have hN : (CxF P w K mg base N__law_value "_law_value" s__law_value a cdv A outer s H E).N.Nodup := sc__law_value.nd
    exact (sb_cons (ss_if (st_val (se_isi m_isinstance m_str (se_var 2))) (sb_one (ss_ret (se_ix hr (se_var 3) (se_var 2)))) sb_nil) (sb_one (ss_ret (se_call tk h__law_entry hr (Nat.le_refl _) (sa_cons (se_var 0) (sa_cons (se_var 1) (sa_cons (se_ix hr (se_var 2) se_int) (sa_cons (se_lc [("_law_part", 4)] rfl hN (si_seq (se_sl (se_var 2) (sp_some se_int) sp_none)) (blkOk_by (N := N__law_value) (sc := defScope s__law_value) (by decide +kernel)) (sgb_name 4 (fun _ _ _ _ _ => pg_name (i := 4) hN rfl (Or.inl rfl))) (by decide) (fun _ _ _ _ _ => sts_nil) (fun _ _ _ _ _ => (se_call (.inr rfl) h__law_value hr (Nat.le_refl _) (sa_cons (se_var 0) (sa_cons (se_var 1) (sa_cons (se_var 4) (sa_cons (se_var 3) sa_nil))))))) sa_nil))))))))
/-! ### _law_bound -/
abbrev s__law_bound : Stmt := top 11
abbrev N__law_bound : List Str := ["_law_tables", "_law_size", "_law_sentence_here", "_law_values", "_law_want", "_law_thing", "_law_inner"]
theorem sc__law_bound : FnScope N__law_bound ["_law_tables", "_law_size", "_law_sentence_here", "_law_values"] (defScope s__law_bound) := ⟨rfl, rfl, rfl, by decide +kernel, rfl, by decide +kernel, by decide +kernel⟩
theorem ok__law_bound {a : Addr} {fd : FuncData} {n : Nat} {t : Tab} (F : Fun K "_law_bound" "_law_bound" s__law_bound a fd) (h__law_true : HasF P w K mg base n "_law_true" ["_law_tables", "_law_size", "_law_sentence_here", "_law_values"] (t.d_law_true)) (m_range : mg "range" = none) (m_dict : mg "dict" = none)  :
    FnOk P w K mg base (L2.CX P w) (n + 1) a fd ["_law_tables", "_law_size", "_law_sentence_here", "_law_values"] (spF K mg (runF 4 3 (b__law_bound t))) :=
  mk_fnF F sc__law_bound rfl rfl (b := b__law_bound t) fun cdv A outer s H E hr => by
    have tk : Tk (CxF P w K mg base N__law_bound "_law_bound" s__law_bound a cdv A outer s H E) (fun cls d _ H => E cls d H) := .inl (takes_of rfl rfl rfl rfl)
    have hp : PassesOwn (model P w) (CxF P w K mg base N__law_bound "_law_bound" s__law_bound a cdv A outer s H E).A (CxF P w K mg base N__law_bound "_law_bound" s__law_bound a cdv A outer s H E).env (CxF P w K mg base N__law_bound "_law_bound" s__law_bound a cdv A outer s H E).xe := passes_of rfl
    have hN : (CxF P w K mg base N__law_bound "_law_bound" s__law_bound a cdv A outer s H E).N.Nodup := sc__law_bound.nd
    exact (sb_cons (ss_set 4 hN (se_eq hr (se_ix hr (se_var 2) se_int) se_str)) (sb_cons (ss_for hp rfl (si_range1 m_range (se_var 1)) (sg_name 5 hN) (sb_cons (ss_set 6 hN (se_dict m_dict (se_var 3))) (sb_cons (ss_put hr (se_var 5) (se_var 6) (se_ix hr (se_var 2) se_int)) (sb_one (ss_if (st_eq hr (se_call tk h__law_true hr (Nat.le_refl _) (sa_cons (se_var 0) (sa_cons (se_var 1) (sa_cons (se_ix hr (se_var 2) se_int) (sa_cons (se_var 6) sa_nil))))) (se_var 4)) (sb_one (ss_ret (se_var 4))) sb_nil))))) (sb_one (ss_ret (se_not (se_var 4))))))
/-! ### _law_true -/
abbrev s__law_true : Stmt := top 12
abbrev N__law_true : List Str := ["_law_tables", "_law_size", "_law_sentence_here", "_law_values", "_law_word", "_law_atom", "_law_one", "_law_two", "_law_part"]
theorem sc__law_true : FnScope N__law_true ["_law_tables", "_law_size", "_law_sentence_here", "_law_values"] (defScope s__law_true) := ⟨rfl, rfl, rfl, by decide +kernel, rfl, by decide +kernel, by decide +kernel⟩
theorem ok__law_true {a : Addr} {fd : FuncData} {n : Nat} {t : Tab} (F : Fun K "_law_true" "_law_true" s__law_true a fd) (h__law_entry : HasF P w K mg base n "_law_entry" ["_law_tables", "_law_size", "_law_name", "_law_things"] (t.d_law_entry)) (h__law_value : HasF P w K mg base n "_law_value" ["_law_tables", "_law_size", "_law_term_here", "_law_values"] (t.d_law_value)) (h__law_true : HasF P w K mg base n "_law_true" ["_law_tables", "_law_size", "_law_sentence_here", "_law_values"] (t.d_law_true)) (h__law_bound : HasF P w K mg base n "_law_bound" ["_law_tables", "_law_size", "_law_sentence_here", "_law_values"] (t.d_law_bound))   :
    FnOk P w K mg base (L2.CX P w) (n + 1) a fd ["_law_tables", "_law_size", "_law_sentence_here", "_law_values"] (spF K mg (runF 4 5 (b__law_true t))) :=
  mk_fnF F sc__law_true rfl rfl (b := b__law_true t) fun cdv A outer s H E hr => by
    have tk : Tk (CxF P w K mg base N__law_true "_law_true" s__law_true a cdv A outer s H E) (fun cls d _ H => E cls d H) := .inl (takes_of rfl rfl rfl rfl)
    have hp : PassesOwn (model P w) (CxF P w K mg base N__law_true "_law_true" s__law_true a cdv A outer s H E).A (CxF P w K mg base N__law_true "_law_true" s__law_true a cdv A outer s H E).env (CxF P w K mg base N__law_true "_law_true" s__law_true a cdv A outer s H E).xe := passes_of rfl
    have hN : (CxF P w K mg base N__law_true "_law_true" s__law_true a cdv A outer s H E).N.Nodup := sc__law_true.nd
    exact (sb_cons (ss_set 4 hN (se_ix hr (se_var 2) se_int)) (sb_cons (ss_if (st_eq hr (se_var 4) se_str) (sb_cons (ss_set 5 hN (se_ix hr (se_var 2) se_int)) (sb_one (ss_ret (se_call tk h__law_entry hr (Nat.le_refl _) (sa_cons (se_var 0) (sa_cons (se_var 1) (sa_cons (se_ix hr (se_var 5) se_int) (sa_cons (se_lc [("_law_part", 8)] rfl hN (si_seq (se_sl (se_var 5) (sp_some se_int) sp_none)) (blkOk_by (N := N__law_true) (sc := defScope s__law_true) (by decide +kernel)) (sgb_name 8 (fun _ _ _ _ _ => pg_name (i := 8) hN rfl (Or.inl rfl))) (by decide) (fun _ _ _ _ _ => sts_nil) (fun _ _ _ _ _ => (se_call (.inr rfl) h__law_value hr (Nat.le_refl _) (sa_cons (se_var 0) (sa_cons (se_var 1) (sa_cons (se_var 8) (sa_cons (se_var 3) sa_nil))))))) sa_nil)))))))) sb_nil) (sb_cons (ss_if (st_eq hr (se_var 4) se_str) (sb_one (ss_ret (se_eq hr (se_call tk h__law_value hr (Nat.le_refl _) (sa_cons (se_var 0) (sa_cons (se_var 1) (sa_cons (se_ix hr (se_var 2) se_int) (sa_cons (se_var 3) sa_nil))))) (se_call tk h__law_value hr (Nat.le_refl _) (sa_cons (se_var 0) (sa_cons (se_var 1) (sa_cons (se_ix hr (se_var 2) se_int) (sa_cons (se_var 3) sa_nil)))))))) sb_nil) (sb_cons (ss_if (st_eq hr (se_var 4) se_str) (sb_one (ss_ret (se_not (se_call tk h__law_true hr (Nat.le_refl _) (sa_cons (se_var 0) (sa_cons (se_var 1) (sa_cons (se_ix hr (se_var 2) se_int) (sa_cons (se_var 3) sa_nil)))))))) sb_nil) (sb_cons (ss_if (st_in hr (se_var 4) (se_tup (sa_cons se_str (sa_cons se_str sa_nil)))) (sb_one (ss_ret (se_call tk h__law_bound hr (Nat.le_refl _) (sa_cons (se_var 0) (sa_cons (se_var 1) (sa_cons (se_var 2) (sa_cons (se_var 3) sa_nil))))))) sb_nil) (sb_cons (ss_set 6 hN (se_call tk h__law_true hr (Nat.le_refl _) (sa_cons (se_var 0) (sa_cons (se_var 1) (sa_cons (se_ix hr (se_var 2) se_int) (sa_cons (se_var 3) sa_nil)))))) (sb_cons (ss_if (st_bool (sw_or (st_bool (sw_and (st_eq hr (se_var 4) se_str) (sw_and1 (st_not (st_val (se_var 6)))))) (sw_or1 (st_bool (sw_and (st_eq hr (se_var 4) se_str) (sw_and1 (st_val (se_var 6)))))))) (sb_one (ss_ret (se_var 6))) sb_nil) (sb_cons (ss_if (st_bool (sw_and (st_eq hr (se_var 4) se_str) (sw_and1 (st_not (st_val (se_var 6)))))) (sb_one (ss_ret se_bl)) sb_nil) (sb_cons (ss_set 7 hN (se_call tk h__law_true hr (Nat.le_refl _) (sa_cons (se_var 0) (sa_cons (se_var 1) (sa_cons (se_ix hr (se_var 2) se_int) (sa_cons (se_var 3) sa_nil)))))) (sb_cons (ss_if (st_eq hr (se_var 4) se_str) (sb_one (ss_ret (se_eq hr (se_var 6) (se_var 7)))) sb_nil) (sb_one (ss_ret (se_var 7)))))))))))))
/-! ### _law_term -/
abbrev s__law_term : Stmt := top 13
abbrev N__law_term : List Str := ["_law_state", "_law_names", "_law_kind"]
theorem sc__law_term : FnScope N__law_term ["_law_state", "_law_names"] (defScope s__law_term) := ⟨rfl, rfl, rfl, by decide +kernel, rfl, by decide +kernel, by decide +kernel⟩
theorem ok__law_term {a : Addr} {fd : FuncData} {n : Nat} {t : Tab} (F : Fun K "_law_term" "_law_term" s__law_term a fd) (h__law_take : HasF P w K mg base n "_law_take" ["_law_state", "_law_many"] (t.d_law_take)) (m_len : mg "len" = none)  :
    FnOk P w K mg base (L2.CX P w) (n + 1) a fd ["_law_state", "_law_names"] (spF K mg (runF 2 1 (b__law_term t))) :=
  mk_fnF F sc__law_term rfl rfl (b := b__law_term t) fun cdv A outer s H E hr => by
    have tk : Tk (CxF P w K mg base N__law_term "_law_term" s__law_term a cdv A outer s H E) (fun cls d _ H => E cls d H) := .inl (takes_of rfl rfl rfl rfl)
    have hp : PassesOwn (model P w) (CxF P w K mg base N__law_term "_law_term" s__law_term a cdv A outer s H E).A (CxF P w K mg base N__law_term "_law_term" s__law_term a cdv A outer s H E).env (CxF P w K mg base N__law_term "_law_term" s__law_term a cdv A outer s H E).xe := passes_of rfl
    have hN : (CxF P w K mg base N__law_term "_law_term" s__law_term a cdv A outer s H E).N.Nodup := sc__law_term.nd
    exact (sb_cons (ss_set 2 hN (se_call tk h__law_take hr (Nat.le_refl _) (sa_cons (se_var 0) (sa_cons se_int sa_nil)))) (sb_cons (ss_if (st_eq hr (se_var 2) se_int) (sb_one (ss_ret (se_tup (sa_cons se_str sa_nil)))) sb_nil) (sb_cons (ss_if (st_eq hr (se_var 2) se_int) (sb_one (ss_ret (se_tup (sa_cons se_str (sa_cons (se_ix hr (se_var 1) (se_call tk h__law_take hr (Nat.le_refl _) (sa_cons (se_var 0) (sa_cons (se_len m_len (se_var 1)) sa_nil)))) sa_nil))))) sb_nil) (sb_one (ss_ret (se_ix hr (se_var 1) (se_call tk h__law_take hr (Nat.le_refl _) (sa_cons (se_var 0) (sa_cons (se_len m_len (se_var 1)) sa_nil)))))))))
/-! ### _law_basic -/
abbrev s__law_basic : Stmt := top 14
abbrev N__law_basic : List Str := ["_law_state", "_law_names", "_law_kind"]
theorem sc__law_basic : FnScope N__law_basic ["_law_state", "_law_names"] (defScope s__law_basic) := ⟨rfl, rfl, rfl, by decide +kernel, rfl, by decide +kernel, by decide +kernel⟩
theorem ok__law_basic {a : Addr} {fd : FuncData} {n : Nat} {t : Tab} (F : Fun K "_law_basic" "_law_basic" s__law_basic a fd) (h__law_take : HasF P w K mg base n "_law_take" ["_law_state", "_law_many"] (t.d_law_take)) (h__law_term : HasF P w K mg base n "_law_term" ["_law_state", "_law_names"] (t.d_law_term))   :
    FnOk P w K mg base (L2.CX P w) (n + 1) a fd ["_law_state", "_law_names"] (spF K mg (runF 2 1 (b__law_basic t))) :=
  mk_fnF F sc__law_basic rfl rfl (b := b__law_basic t) fun cdv A outer s H E hr => by
    have tk : Tk (CxF P w K mg base N__law_basic "_law_basic" s__law_basic a cdv A outer s H E) (fun cls d _ H => E cls d H) := .inl (takes_of rfl rfl rfl rfl)
    have hp : PassesOwn (model P w) (CxF P w K mg base N__law_basic "_law_basic" s__law_basic a cdv A outer s H E).A (CxF P w K mg base N__law_basic "_law_basic" s__law_basic a cdv A outer s H E).env (CxF P w K mg base N__law_basic "_law_basic" s__law_basic a cdv A outer s H E).xe := passes_of rfl
    have hN : (CxF P w K mg base N__law_basic "_law_basic" s__law_basic a cdv A outer s H E).N.Nodup := sc__law_basic.nd
    exact (sb_cons (ss_set 2 hN (se_call tk h__law_take hr (Nat.le_refl _) (sa_cons (se_var 0) (sa_cons se_int sa_nil)))) (sb_cons (ss_if (st_eq hr (se_var 2) se_int) (sb_one (ss_ret (se_tup (sa_cons se_str (sa_cons (se_call tk h__law_term hr (Nat.le_refl _) (sa_cons (se_var 0) (sa_cons (se_var 1) sa_nil))) (sa_cons (se_call tk h__law_term hr (Nat.le_refl _) (sa_cons (se_var 0) (sa_cons (se_var 1) sa_nil))) sa_nil)))))) sb_nil) (sb_cons (ss_if (st_eq hr (se_var 2) se_int) (sb_one (ss_ret (se_tup (sa_cons se_str (sa_cons (se_tup (sa_cons se_str (sa_cons (se_call tk h__law_term hr (Nat.le_refl _) (sa_cons (se_var 0) (sa_cons (se_var 1) sa_nil))) (sa_cons (se_call tk h__law_term hr (Nat.le_refl _) (sa_cons (se_var 0) (sa_cons (se_var 1) sa_nil))) sa_nil)))) sa_nil))))) sb_nil) (sb_cons (ss_if (st_eq hr (se_var 2) se_int) (sb_one (ss_ret (se_tup (sa_cons se_str (sa_cons (se_tup (sa_cons se_str (sa_cons (se_call tk h__law_term hr (Nat.le_refl _) (sa_cons (se_var 0) (sa_cons (se_var 1) sa_nil))) sa_nil))) sa_nil))))) sb_nil) (sb_one (ss_ret (se_tup (sa_cons se_str (sa_cons (se_tup (sa_cons se_str sa_nil)) sa_nil)))))))))
/-! ### _law_sentence -/
abbrev s__law_sentence : Stmt := top 15
abbrev N__law_sentence : List Str := ["_law_state", "_law_names", "_law_depth", "_law_kind", "_law_name", "_law_inner", "_law_word", "_law_other"]
theorem sc__law_sentence : FnScope N__law_sentence ["_law_state", "_law_names", "_law_depth"] (defScope s__law_sentence) := ⟨rfl, rfl, rfl, by decide +kernel, rfl, by decide +kernel, by decide +kernel⟩
theorem ok__law_sentence {a : Addr} {fd : FuncData} {n : Nat} {t : Tab} (F : Fun K "_law_sentence" "_law_sentence" s__law_sentence a fd) (h__law_take : HasF P w K mg base n "_law_take" ["_law_state", "_law_many"] (t.d_law_take)) (h__law_basic : HasF P w K mg base n "_law_basic" ["_law_state", "_law_names"] (t.d_law_basic)) (h__law_sentence : HasF P w K mg base n "_law_sentence" ["_law_state", "_law_names", "_law_depth"] (t.d_law_sentence))   :
    FnOk P w K mg base (L2.CX P w) (n + 1) a fd ["_law_state", "_law_names", "_law_depth"] (spF K mg (runF 3 5 (b__law_sentence t))) :=
  mk_fnF F sc__law_sentence rfl rfl (b := b__law_sentence t) fun cdv A outer s H E hr => by
    have tk : Tk (CxF P w K mg base N__law_sentence "_law_sentence" s__law_sentence a cdv A outer s H E) (fun cls d _ H => E cls d H) := .inl (takes_of rfl rfl rfl rfl)
    have hp : PassesOwn (model P w) (CxF P w K mg base N__law_sentence "_law_sentence" s__law_sentence a cdv A outer s H E).A (CxF P w K mg base N__law_sentence "_law_sentence" s__law_sentence a cdv A outer s H E).env (CxF P w K mg base N__law_sentence "_law_sentence" s__law_sentence a cdv A outer s H E).xe := passes_of rfl
    have hN : (CxF P w K mg base N__law_sentence "_law_sentence" s__law_sentence a cdv A outer s H E).N.Nodup := sc__law_sentence.nd
    exact (sb_cons (ss_set 3 hN (se_call tk h__law_take hr (Nat.le_refl _) (sa_cons (se_var 0) (sa_cons se_int sa_nil)))) (sb_cons (ss_if (st_bool (sw_or (st_eq hr (se_var 2) se_int) (sw_or1 (st_eq hr (se_var 3) se_int)))) (sb_one (ss_ret (se_call tk h__law_basic hr (Nat.le_refl _) (sa_cons (se_var 0) (sa_cons (se_var 1) sa_nil))))) sb_nil) (sb_cons (ss_if (st_lt (se_var 3) se_int) (sb_one (ss_ret (se_tup (sa_cons se_str (sa_cons (se_call tk h__law_sentence hr (Nat.le_refl _) (sa_cons (se_var 0) (sa_cons (se_var 1) (sa_cons (se_sub (se_var 2) se_int) sa_nil)))) sa_nil))))) sb_nil) (sb_cons (ss_if (st_lt (se_var 3) se_int) (sb_cons (ss_set 4 hN (se_ix hr (se_lst (sa_cons se_str (sa_cons se_str (sa_cons se_str sa_nil)))) (se_call tk h__law_take hr (Nat.le_refl _) (sa_cons (se_var 0) (sa_cons se_int sa_nil))))) (sb_cons (ss_set 5 hN (se_add (se_lc [("_law_other", 7)] rfl hN (si_seq (se_var 1)) (blkOk_by (N := N__law_sentence) (sc := defScope s__law_sentence) (by decide +kernel)) (sgb_name 7 (fun _ _ _ _ _ => pg_name (i := 7) hN rfl (Or.inl rfl))) (by decide) (fun _ _ _ _ _ => sts_one (st_ne hr (se_var 7) (se_var 4))) (fun _ _ _ _ _ => (se_var 7))) (se_lst (sa_cons (se_var 4) sa_nil)))) (sb_one (ss_ret (se_tup (sa_cons (se_ix hr (se_lst (sa_cons se_str (sa_cons se_str sa_nil))) (se_call tk h__law_take hr (Nat.le_refl _) (sa_cons (se_var 0) (sa_cons se_int sa_nil)))) (sa_cons (se_var 4) (sa_cons (se_call tk h__law_sentence hr (Nat.le_refl _) (sa_cons (se_var 0) (sa_cons (se_var 5) (sa_cons (se_sub (se_var 2) se_int) sa_nil)))) sa_nil)))))))) sb_nil) (sb_cons (ss_set 6 hN (se_ix hr (se_lst (sa_cons se_str (sa_cons se_str (sa_cons se_str (sa_cons se_str (sa_cons se_str sa_nil)))))) (se_sub (se_var 3) se_int))) (sb_one (ss_ret (se_tup (sa_cons (se_var 6) (sa_cons (se_call tk h__law_sentence hr (Nat.le_refl _) (sa_cons (se_var 0) (sa_cons (se_var 1) (sa_cons (se_sub (se_var 2) se_int) sa_nil)))) (sa_cons (se_call tk h__law_sentence hr (Nat.le_refl _) (sa_cons (se_var 0) (sa_cons (se_var 1) (sa_cons (se_sub (se_var 2) se_int) sa_nil)))) sa_nil)))))))))))
/-! ### _law_opposite -/
abbrev s__law_opposite : Stmt := top 16
abbrev N__law_opposite : List Str := ["_law_formed_here", "_law_word"]
theorem sc__law_opposite : FnScope N__law_opposite ["_law_formed_here"] (defScope s__law_opposite) := ⟨rfl, rfl, rfl, by decide +kernel, rfl, by decide +kernel, by decide +kernel⟩
theorem ok__law_opposite {a : Addr} {fd : FuncData} {n : Nat} {t : Tab} (F : Fun K "_law_opposite" "_law_opposite" s__law_opposite a fd) (h__law_opposite : HasF P w K mg base n "_law_opposite" ["_law_formed_here"] (t.d_law_opposite))   :
    FnOk P w K mg base (L2.CX P w) (n + 1) a fd ["_law_formed_here"] (spF K mg (runF 1 1 (b__law_opposite t))) :=
  mk_fnF F sc__law_opposite rfl rfl (b := b__law_opposite t) fun cdv A outer s H E hr => by
    have tk : Tk (CxF P w K mg base N__law_opposite "_law_opposite" s__law_opposite a cdv A outer s H E) (fun cls d _ H => E cls d H) := .inl (takes_of rfl rfl rfl rfl)
    have hp : PassesOwn (model P w) (CxF P w K mg base N__law_opposite "_law_opposite" s__law_opposite a cdv A outer s H E).A (CxF P w K mg base N__law_opposite "_law_opposite" s__law_opposite a cdv A outer s H E).env (CxF P w K mg base N__law_opposite "_law_opposite" s__law_opposite a cdv A outer s H E).xe := passes_of rfl
    have hN : (CxF P w K mg base N__law_opposite "_law_opposite" s__law_opposite a cdv A outer s H E).N.Nodup := sc__law_opposite.nd
    exact (sb_cons (ss_set 1 hN (se_ix hr (se_var 0) se_int)) (sb_cons (ss_if (st_eq hr (se_var 1) se_str) (sb_one (ss_ret (se_ix hr (se_var 0) se_int))) sb_nil) (sb_cons (ss_if (st_in hr (se_var 1) (se_tup (sa_cons se_str (sa_cons se_str sa_nil)))) (sb_one (ss_ret (se_tup (sa_cons se_str (sa_cons (se_var 0) sa_nil))))) sb_nil) (sb_cons (ss_if (st_in hr (se_var 1) (se_tup (sa_cons se_str (sa_cons se_str sa_nil)))) (sb_one (ss_ret (se_tup (sa_cons (se_ifE (st_eq hr (se_var 1) se_str) se_str se_str) (sa_cons (se_ix hr (se_var 0) se_int) (sa_cons (se_call tk h__law_opposite hr (Nat.le_refl _) (sa_cons (se_ix hr (se_var 0) se_int) sa_nil)) sa_nil)))))) sb_nil) (sb_one (ss_ret (se_tup (sa_cons (se_ifE (st_eq hr (se_var 1) se_str) se_str se_str) (sa_cons (se_call tk h__law_opposite hr (Nat.le_refl _) (sa_cons (se_ix hr (se_var 0) se_int) sa_nil)) (sa_cons (se_call tk h__law_opposite hr (Nat.le_refl _) (sa_cons (se_ix hr (se_var 0) se_int) sa_nil)) sa_nil))))))))))
/-! ### _law_formed -/
abbrev s__law_formed : Stmt := top 17
abbrev N__law_formed : List Str := ["_law_sentence_here", "_law_word", "_law_one", "_law_two"]
theorem sc__law_formed : FnScope N__law_formed ["_law_sentence_here"] (defScope s__law_formed) := ⟨rfl, rfl, rfl, by decide +kernel, rfl, by decide +kernel, by decide +kernel⟩
theorem ok__law_formed {a : Addr} {fd : FuncData} {n : Nat} {t : Tab} (F : Fun K "_law_formed" "_law_formed" s__law_formed a fd) (h__law_opposite : HasF P w K mg base n "_law_opposite" ["_law_formed_here"] (t.d_law_opposite)) (h__law_formed : HasF P w K mg base n "_law_formed" ["_law_sentence_here"] (t.d_law_formed))   :
    FnOk P w K mg base (L2.CX P w) (n + 1) a fd ["_law_sentence_here"] (spF K mg (runF 1 3 (b__law_formed t))) :=
  mk_fnF F sc__law_formed rfl rfl (b := b__law_formed t) fun cdv A outer s H E hr => by
    have tk : Tk (CxF P w K mg base N__law_formed "_law_formed" s__law_formed a cdv A outer s H E) (fun cls d _ H => E cls d H) := .inl (takes_of rfl rfl rfl rfl)
    have hp : PassesOwn (model P w) (CxF P w K mg base N__law_formed "_law_formed" s__law_formed a cdv A outer s H E).A (CxF P w K mg base N__law_formed "_law_formed" s__law_formed a cdv A outer s H E).env (CxF P w K mg base N__law_formed "_law_formed" s__law_formed a cdv A outer s H E).xe := passes_of rfl
    have hN : (CxF P w K mg base N__law_formed "_law_formed" s__law_formed a cdv A outer s H E).N.Nodup := sc__law_formed.nd
    exact (sb_cons (ss_set 1 hN (se_ix hr (se_var 0) se_int)) (sb_cons (ss_if (st_in hr (se_var 1) (se_tup (sa_cons se_str (sa_cons se_str sa_nil)))) (sb_one (ss_ret (se_var 0))) sb_nil) (sb_cons (ss_if (st_eq hr (se_var 1) se_str) (sb_one (ss_ret (se_call tk h__law_opposite hr (Nat.le_refl _) (sa_cons (se_call tk h__law_formed hr (Nat.le_refl _) (sa_cons (se_ix hr (se_var 0) se_int) sa_nil)) sa_nil)))) sb_nil) (sb_cons (ss_if (st_in hr (se_var 1) (se_tup (sa_cons se_str (sa_cons se_str sa_nil)))) (sb_one (ss_ret (se_tup (sa_cons (se_var 1) (sa_cons (se_ix hr (se_var 0) se_int) (sa_cons (se_call tk h__law_formed hr (Nat.le_refl _) (sa_cons (se_ix hr (se_var 0) se_int) sa_nil)) sa_nil)))))) sb_nil) (sb_cons (ss_set 2 hN (se_call tk h__law_formed hr (Nat.le_refl _) (sa_cons (se_ix hr (se_var 0) se_int) sa_nil))) (sb_cons (ss_set 3 hN (se_call tk h__law_formed hr (Nat.le_refl _) (sa_cons (se_ix hr (se_var 0) se_int) sa_nil))) (sb_cons (ss_if (st_eq hr (se_var 1) se_str) (sb_one (ss_ret (se_tup (sa_cons se_str (sa_cons (se_call tk h__law_opposite hr (Nat.le_refl _) (sa_cons (se_var 2) sa_nil)) (sa_cons (se_var 3) sa_nil)))))) sb_nil) (sb_cons (ss_if (st_eq hr (se_var 1) se_str) (sb_one (ss_ret (se_tup (sa_cons se_str (sa_cons (se_tup (sa_cons se_str (sa_cons (se_call tk h__law_opposite hr (Nat.le_refl _) (sa_cons (se_var 2) sa_nil)) (sa_cons (se_var 3) sa_nil)))) (sa_cons (se_tup (sa_cons se_str (sa_cons (se_call tk h__law_opposite hr (Nat.le_refl _) (sa_cons (se_var 3) sa_nil)) (sa_cons (se_var 2) sa_nil)))) sa_nil)))))) sb_nil) (sb_one (ss_ret (se_tup (sa_cons (se_var 1) (sa_cons (se_var 2) (sa_cons (se_var 3) sa_nil))))))))))))))
/-! ### _law_shaped -/
abbrev s__law_shaped : Stmt := top 18
abbrev N__law_shaped : List Str := ["_law_sentence_here", "_law_word"]
theorem sc__law_shaped : FnScope N__law_shaped ["_law_sentence_here"] (defScope s__law_shaped) := ⟨rfl, rfl, rfl, by decide +kernel, rfl, by decide +kernel, by decide +kernel⟩
theorem ok__law_shaped {a : Addr} {fd : FuncData} {n : Nat} {t : Tab} (F : Fun K "_law_shaped" "_law_shaped" s__law_shaped a fd) (h__law_shaped : HasF P w K mg base n "_law_shaped" ["_law_sentence_here"] (t.d_law_shaped))   :
    FnOk P w K mg base (L2.CX P w) (n + 1) a fd ["_law_sentence_here"] (spF K mg (runF 1 1 (b__law_shaped t))) :=
  mk_fnF F sc__law_shaped rfl rfl (b := b__law_shaped t) fun cdv A outer s H E hr => by
    have tk : Tk (CxF P w K mg base N__law_shaped "_law_shaped" s__law_shaped a cdv A outer s H E) (fun cls d _ H => E cls d H) := .inl (takes_of rfl rfl rfl rfl)
    have hp : PassesOwn (model P w) (CxF P w K mg base N__law_shaped "_law_shaped" s__law_shaped a cdv A outer s H E).A (CxF P w K mg base N__law_shaped "_law_shaped" s__law_shaped a cdv A outer s H E).env (CxF P w K mg base N__law_shaped "_law_shaped" s__law_shaped a cdv A outer s H E).xe := passes_of rfl
    have hN : (CxF P w K mg base N__law_shaped "_law_shaped" s__law_shaped a cdv A outer s H E).N.Nodup := sc__law_shaped.nd
    exact (sb_cons (ss_set 1 hN (se_ix hr (se_var 0) se_int)) (sb_cons (ss_if (st_eq hr (se_var 1) se_str) (sb_one (ss_ret (se_in hr (se_ix hr (se_ix hr (se_var 0) se_int) se_int) (se_tup (sa_cons se_str (sa_cons se_str sa_nil)))))) sb_nil) (sb_cons (ss_if (st_in hr (se_var 1) (se_tup (sa_cons se_str (sa_cons se_str sa_nil)))) (sb_one (ss_ret (se_call tk h__law_shaped hr (Nat.le_refl _) (sa_cons (se_ix hr (se_var 0) se_int) sa_nil)))) sb_nil) (sb_cons (ss_if (st_in hr (se_var 1) (se_tup (sa_cons se_str (sa_cons se_str sa_nil)))) (sb_one (ss_ret (se_and (se_call tk h__law_shaped hr (Nat.le_refl _) (sa_cons (se_ix hr (se_var 0) se_int) sa_nil)) (se_one (se_call tk h__law_shaped hr (Nat.le_refl _) (sa_cons (se_ix hr (se_var 0) se_int) sa_nil)))))) sb_nil) (sb_one (ss_ret (se_in hr (se_var 1) (se_tup (sa_cons se_str (sa_cons se_str sa_nil))))))))))
/-! ### law -/
abbrev s_law : Stmt := top 19
abbrev N_law : List Str := ["_law_script", "_law_state", "_law_size", "_law_depth", "_law_tables", "_law_sentence_here", "_law_due", "_law_made", "_law_turned", "_law_x", "_law_y", "_law_values", "_law_said", "_law_k"]
theorem sc_law : FnScope N_law ["_law_script"] (defScope s_law) := ⟨rfl, rfl, rfl, by decide +kernel, rfl, by decide +kernel, by decide +kernel⟩
theorem ok_law {a : Addr} {fd : FuncData} {n : Nat} {t : Tab} (F : Fun K "law" "law" s_law a fd) (h__law_start : HasF P w K mg base n "_law_start" ["_law_script"] (t.d_law_start)) (h__law_take : HasF P w K mg base n "_law_take" ["_law_state", "_law_many"] (t.d_law_take)) (h__law_sentence : HasF P w K mg base n "_law_sentence" ["_law_state", "_law_names", "_law_depth"] (t.d_law_sentence)) (h__law_formed : HasF P w K mg base n "_law_formed" ["_law_sentence_here"] (t.d_law_formed)) (h_negation_form : HasF P w K mg base n "negation_form" ["sentence"] (t.d_negation_form)) (h__law_opposite : HasF P w K mg base n "_law_opposite" ["_law_formed_here"] (t.d_law_opposite)) (h__law_shaped : HasF P w K mg base n "_law_shaped" ["_law_sentence_here"] (t.d_law_shaped)) (h__law_true : HasF P w K mg base n "_law_true" ["_law_tables", "_law_size", "_law_sentence_here", "_law_values"] (t.d_law_true)) (m_range : mg "range" = none)  :
    FnOk P w K mg base (L2.CX P w) (n + 1) a fd ["_law_script"] (spF K mg (runF 1 13 (b_law t))) :=
  mk_fnF F sc_law rfl rfl (b := b_law t) fun cdv A outer s H E hr => by
    have tk : Tk (CxF P w K mg base N_law "law" s_law a cdv A outer s H E) (fun cls d _ H => E cls d H) := .inl (takes_of rfl rfl rfl rfl)
    have hp : PassesOwn (model P w) (CxF P w K mg base N_law "law" s_law a cdv A outer s H E).A (CxF P w K mg base N_law "law" s_law a cdv A outer s H E).env (CxF P w K mg base N_law "law" s_law a cdv A outer s H E).xe := passes_of rfl
    have hN : (CxF P w K mg base N_law "law" s_law a cdv A outer s H E).N.Nodup := sc_law.nd
    exact (sb_cons (ss_set 1 hN (se_call tk h__law_start hr (Nat.le_refl _) (sa_cons (se_var 0) sa_nil))) (sb_cons (ss_set 2 hN (se_add se_int (se_call tk h__law_take hr (Nat.le_refl _) (sa_cons (se_var 1) (sa_cons se_int sa_nil))))) (sb_cons (ss_set 3 hN (se_add se_int (se_call tk h__law_take hr (Nat.le_refl _) (sa_cons (se_var 1) (sa_cons se_int sa_nil))))) (sb_cons (ss_set 4 hN (se_dis (sps_cons se_str (se_lst (sa_cons (se_call tk h__law_take hr (Nat.le_refl _) (sa_cons (se_var 1) (sa_cons (se_var 2) sa_nil))) sa_nil)) (sps_cons se_str (se_lst (sa_cons (se_eq hr (se_call tk h__law_take hr (Nat.le_refl _) (sa_cons (se_var 1) (sa_cons se_int sa_nil))) se_int) sa_nil)) sps_nil)))) (sb_cons (ss_put hr (se_lc [("_law_k", 13)] rfl hN (si_range1 m_range (se_var 2)) (blkOk_by (N := N_law) (sc := defScope s_law) (by decide +kernel)) (sgb_name 13 (fun _ _ _ _ _ => pg_name (i := 13) hN rfl (Or.inl rfl))) (by decide) (fun _ _ _ _ _ => sts_nil) (fun _ _ _ _ _ => (se_call (.inr rfl) h__law_take hr (Nat.le_refl _) (sa_cons (se_var 1) (sa_cons (se_var 2) sa_nil))))) (se_var 4) se_str) (sb_cons (ss_put hr (se_lc [("_law_k", 13)] rfl hN (si_range1 m_range (se_var 2)) (blkOk_by (N := N_law) (sc := defScope s_law) (by decide +kernel)) (sgb_name 13 (fun _ _ _ _ _ => pg_name (i := 13) hN rfl (Or.inl rfl))) (by decide) (fun _ _ _ _ _ => sts_nil) (fun _ _ _ _ _ => (se_eq hr (se_call (.inr rfl) h__law_take hr (Nat.le_refl _) (sa_cons (se_var 1) (sa_cons se_int sa_nil))) se_int))) (se_var 4) se_str) (sb_cons (ss_put hr (se_lc [("_law_k", 13)] rfl hN (si_range1 m_range (se_mul (se_var 2) (se_var 2))) (blkOk_by (N := N_law) (sc := defScope s_law) (by decide +kernel)) (sgb_name 13 (fun _ _ _ _ _ => pg_name (i := 13) hN rfl (Or.inl rfl))) (by decide) (fun _ _ _ _ _ => sts_nil) (fun _ _ _ _ _ => (se_eq hr (se_call (.inr rfl) h__law_take hr (Nat.le_refl _) (sa_cons (se_var 1) (sa_cons se_int sa_nil))) se_int))) (se_var 4) se_str) (sb_cons (ss_set 5 hN (se_call tk h__law_sentence hr (Nat.le_refl _) (sa_cons (se_var 1) (sa_cons (se_lst (sa_cons se_str (sa_cons se_str sa_nil))) (sa_cons (se_var 3) sa_nil))))) (sb_cons (ss_set 6 hN (se_call tk h__law_formed hr (Nat.le_refl _) (sa_cons (se_var 5) sa_nil))) (sb_cons (ss_set 7 hN (se_call tk h_negation_form hr (Nat.le_refl _) (sa_cons (se_var 5) sa_nil))) (sb_cons (ss_set 8 hN (se_call tk h_negation_form hr (Nat.le_refl _) (sa_cons (se_tup (sa_cons se_str (sa_cons (se_var 5) sa_nil))) sa_nil))) (sb_cons (ss_if (st_bool (sw_or (st_ne hr (se_var 7) (se_var 6)) (sw_or1 (st_ne hr (se_var 8) (se_call tk h__law_opposite hr (Nat.le_refl _) (sa_cons (se_var 6) sa_nil)))))) (sb_one (ss_ret se_bl)) sb_nil) (sb_cons (ss_if (st_bool (sw_or (st_not (st_val (se_call tk h__law_shaped hr (Nat.le_refl _) (sa_cons (se_var 7) sa_nil)))) (sw_or (st_not (st_val (se_call tk h__law_shaped hr (Nat.le_refl _) (sa_cons (se_var 8) sa_nil)))) (sw_or1 (st_ne hr (se_call tk h_negation_form hr (Nat.le_refl _) (sa_cons (se_var 7) sa_nil)) (se_var 6)))))) (sb_one (ss_ret se_bl)) sb_nil) (sb_cons (ss_for hp rfl (si_range1 m_range (se_var 2)) (sg_name 9 hN) (sb_one (ss_for hp rfl (si_range1 m_range (se_var 2)) (sg_name 10 hN) (sb_cons (ss_set 11 hN (se_dis (sps_cons se_str (se_var 9) (sps_cons se_str (se_var 10) sps_nil)))) (sb_cons (ss_set 12 hN (se_call tk h__law_true hr (Nat.le_refl _) (sa_cons (se_var 4) (sa_cons (se_var 2) (sa_cons (se_var 5) (sa_cons (se_var 11) sa_nil)))))) (sb_cons (ss_if (st_ne hr (se_call tk h__law_true hr (Nat.le_refl _) (sa_cons (se_var 4) (sa_cons (se_var 2) (sa_cons (se_var 7) (sa_cons (se_var 11) sa_nil))))) (se_var 12)) (sb_one (ss_ret se_bl)) sb_nil) (sb_one (ss_if (st_eq hr (se_call tk h__law_true hr (Nat.le_refl _) (sa_cons (se_var 4) (sa_cons (se_var 2) (sa_cons (se_var 8) (sa_cons (se_var 11) sa_nil))))) (se_var 12)) (sb_one (ss_ret se_bl)) sb_nil)))))))) (sb_one (ss_ret se_bl))))))))))))))))
end
end K15

namespace K15
open PySem F
local macro_rules | `(tactic| and_intros) => `(tactic| simp only [*, F.dat_s, F.dat_i, F.dat_b, F.gEq_s, F.gEq_i, F.gEq_b, F.gIn_2, F.lims, F.bind_ok', F.bind_no', F.bind_ex', F.lift_some, F.lift_none, F.liftP_some, F.sg_z, F.sg_s, F.fVar_d, F.fC_d, F.fBin_d, F.fUn_d, F.fCmp_d, F.fBl_d, F.fTst_d, F.fNot_d, F.fAnd_d, F.fOr_d, F.fAndV_d, F.fOrV_d, F.fNotV_d, F.fIfE_d, F.aNil_d, F.toV_v, F.toV_l, F.toV_d', F.toV_no, F.toV_ex, F.aCons_d, F.fTup_d, F.fLst_d, F.fD0_d, F.oNone_d, F.oSome_d, F.fSl_d, F.fCall_d, F.fMt_d, F.dNil_d, F.dCons_d, F.fDis_d, F.bNil_d, F.bSeq_d, F.seq_nx, F.seq_rt, F.seq_bk, F.seq_ct, F.seq_ex, F.seq_no, F.onE_ok, F.onE_ex, F.onE_no, F.sSet_d, F.sExpr_d, F.sRet_d, F.sRetN_d, F.sIf_d, F.sBreak_d, F.sCont_d, F.sPut_d, F.sPar_d, F.sAsgT_d, F.sFor_d, F.tgN_d, F.tgT_d, F.tgNil_d, F.tgCons_d, F.iR1_d, F.iR2_d, F.iSeq_d, F.turn_nx, F.turn_ct, F.turn_bk, F.turn_rt, F.turn_ex, F.turn_no, F.loop_nilT, F.loop_consT, F.fYes_d, F.noEx_ok, F.fComp_d, F.wipeF_n, F.wipeF_c, F.comp_nilT, F.gAdd_i, F.gAdd_t, F.gAdd_s, F.gMul_i, F.gI_i, F.gOrd_i, F.gLt_i, F.gNeg_i, F.gAbs_i, F.gInt_i, F.gTup_l, F.gTup_t, F.gLen_t, F.gLen_l, F.gLen_f, F.gIx_t, F.gIx_f, F.gIx_l, F.at_0, F.at_1, F.at_2, F.at_3, F.gSl_1, List.set_cons_succ, List.set_cons_zero, Option.map_some, Option.map_none, Option.bind_some, if_true, ite_true, ite_false, decide_true, decide_false, Bool.false_eq_true, List.getElem?_cons_zero, List.getElem?_cons_succ, List.nil_append, List.cons_append, List.map_cons, List.map_nil, List.replicate_succ, List.replicate_zero, Bool.or_false, Bool.or_true, Bool.true_or, Bool.false_or, List.length_nil, List.length_cons, Bool.not_true, Bool.not_false, reduceCtorEq, Nat.zero_le, Nat.reduceAdd, Nat.zero_add, true_and, and_true, and_self])
theorem w_eq : (("holds" : Str) == "holds") = true ∧ (("holds" : Str) == "same") = false ∧ (("holds" : Str) == "not") = false ∧ (("holds" : Str) == "all") = false ∧ (("holds" : Str) == "some") = false ∧ (("holds" : Str) == "and") = false ∧ (("holds" : Str) == "or") = false ∧ (("holds" : Str) == "implies") = false ∧ (("holds" : Str) == "iff") = false ∧ (("same" : Str) == "holds") = false ∧ (("same" : Str) == "same") = true ∧ (("same" : Str) == "not") = false ∧ (("same" : Str) == "all") = false ∧ (("same" : Str) == "some") = false ∧ (("same" : Str) == "and") = false ∧ (("same" : Str) == "or") = false ∧ (("same" : Str) == "implies") = false ∧ (("same" : Str) == "iff") = false ∧ (("not" : Str) == "holds") = false ∧ (("not" : Str) == "same") = false ∧ (("not" : Str) == "not") = true ∧ (("not" : Str) == "all") = false ∧ (("not" : Str) == "some") = false ∧ (("not" : Str) == "and") = false ∧ (("not" : Str) == "or") = false ∧ (("not" : Str) == "implies") = false ∧ (("not" : Str) == "iff") = false ∧ (("all" : Str) == "holds") = false ∧ (("all" : Str) == "same") = false ∧ (("all" : Str) == "not") = false ∧ (("all" : Str) == "all") = true ∧ (("all" : Str) == "some") = false ∧ (("all" : Str) == "and") = false ∧ (("all" : Str) == "or") = false ∧ (("all" : Str) == "implies") = false ∧ (("all" : Str) == "iff") = false ∧ (("some" : Str) == "holds") = false ∧ (("some" : Str) == "same") = false ∧ (("some" : Str) == "not") = false ∧ (("some" : Str) == "all") = false ∧ (("some" : Str) == "some") = true ∧ (("some" : Str) == "and") = false ∧ (("some" : Str) == "or") = false ∧ (("some" : Str) == "implies") = false ∧ (("some" : Str) == "iff") = false ∧ (("and" : Str) == "holds") = false ∧ (("and" : Str) == "same") = false ∧ (("and" : Str) == "not") = false ∧ (("and" : Str) == "all") = false ∧ (("and" : Str) == "some") = false ∧ (("and" : Str) == "and") = true ∧ (("and" : Str) == "or") = false ∧ (("and" : Str) == "implies") = false ∧ (("and" : Str) == "iff") = false ∧ (("or" : Str) == "holds") = false ∧ (("or" : Str) == "same") = false ∧ (("or" : Str) == "not") = false ∧ (("or" : Str) == "all") = false ∧ (("or" : Str) == "some") = false ∧ (("or" : Str) == "and") = false ∧ (("or" : Str) == "or") = true ∧ (("or" : Str) == "implies") = false ∧ (("or" : Str) == "iff") = false ∧ (("implies" : Str) == "holds") = false ∧ (("implies" : Str) == "same") = false ∧ (("implies" : Str) == "not") = false ∧ (("implies" : Str) == "all") = false ∧ (("implies" : Str) == "some") = false ∧ (("implies" : Str) == "and") = false ∧ (("implies" : Str) == "or") = false ∧ (("implies" : Str) == "implies") = true ∧ (("implies" : Str) == "iff") = false ∧ (("iff" : Str) == "holds") = false ∧ (("iff" : Str) == "same") = false ∧ (("iff" : Str) == "not") = false ∧ (("iff" : Str) == "all") = false ∧ (("iff" : Str) == "some") = false ∧ (("iff" : Str) == "and") = false ∧ (("iff" : Str) == "or") = false ∧ (("iff" : Str) == "implies") = false ∧ (("iff" : Str) == "iff") = true := by
  refine ⟨?_, ?_, ?_, ?_, ?_, ?_, ?_, ?_, ?_, ?_, ?_, ?_, ?_, ?_, ?_, ?_, ?_, ?_, ?_, ?_, ?_, ?_, ?_, ?_, ?_, ?_, ?_, ?_, ?_, ?_, ?_, ?_, ?_, ?_, ?_, ?_, ?_, ?_, ?_, ?_, ?_, ?_, ?_, ?_, ?_, ?_, ?_, ?_, ?_, ?_, ?_, ?_, ?_, ?_, ?_, ?_, ?_, ?_, ?_, ?_, ?_, ?_, ?_, ?_, ?_, ?_, ?_, ?_, ?_, ?_, ?_, ?_, ?_, ?_, ?_, ?_, ?_, ?_, ?_, ?_, ?_⟩ <;> decide
/-! ### sentences -/
inductive Te
  | v (x : Str) | a | f (x : Str)
def Te.fv : Te → FV
  | .v x => .str x
  | .a => .tup [.str "a"]
  | .f x => .tup [.str "f", .str x]
inductive Ba
  | same (l r : Te) | rr (l r : Te) | p (t : Te) | q
def Ba.w : Ba → Str
  | .same _ _ => "same"
  | _ => "holds"
def Ba.tl : Ba → List FV
  | .same l r => [l.fv, r.fv]
  | .rr l r => [.tup [.str "R", l.fv, r.fv]]
  | .p t => [.tup [.str "P", t.fv]]
  | .q => [.tup [.str "Q"]]
def Ba.fv (b : Ba) : FV := .tup (.str b.w :: b.tl)
inductive S
  | bas (b : Ba) | neg (s : S) | q (al : Bool) (x : Str) (s : S) | cj (an : Bool) (l r : S) | imp (l r : S) | iff (l r : S)
def wq (al : Bool) : Str := if al then "all" else "some"
def wc (an : Bool) : Str := if an then "and" else "or"
def S.fv : S → FV
  | .bas b => b.fv
  | .neg s => .tup [.str "not", s.fv]
  | .q al x s => .tup [.str (wq al), .str x, s.fv]
  | .cj an l r => .tup [.str (wc an), l.fv, r.fv]
  | .imp l r => .tup [.str "implies", l.fv, r.fv]
  | .iff l r => .tup [.str "iff", l.fv, r.fv]
def form : S → Bool → S
  | .bas b, true => .bas b
  | .bas b, false => .neg (.bas b)
  | .neg s, k => form s (!k)
  | .q al x s, k => .q (al == k) x (form s k)
  | .cj an l r, k => .cj (an == k) (form l k) (form r k)
  | .imp l r, k => .cj (!k) (form l (!k)) (form r k)
  | .iff l r, k => .cj k (.cj (!k) (form l (!k)) (form r k)) (.cj (!k) (form r (!k)) (form l k))
def S.dep : S → Nat
  | .bas _ => 0
  | .neg s => 1 + s.dep
  | .q _ _ s => 1 + s.dep
  | .cj _ l r => 1 + max l.dep r.dep
  | .imp l r => 1 + max l.dep r.dep
  | .iff l r => 2 + max l.dep r.dep
theorem Te.sto : ∀ t : Te, t.fv.sto = true
  | .v x => by simp [Te.fv, FV.sto]
  | .a => by simp [Te.fv, FV.sto, FV.stos]
  | .f x => by simp [Te.fv, FV.sto, FV.stos]
theorem Ba.sto (b : Ba) : b.fv.sto = true := by
  cases b <;> simp [Ba.fv, Ba.tl, FV.sto, FV.stos, Te.sto]
theorem S.sto : ∀ s : S, s.fv.sto = true
  | .bas b => b.sto
  | .neg s => by simp [S.fv, FV.sto, FV.stos, s.sto]
  | .q al x s => by simp [S.fv, FV.sto, FV.stos, s.sto]
  | .cj an l r => by simp [S.fv, FV.sto, FV.stos, l.sto, r.sto]
  | .imp l r => by simp [S.fv, FV.sto, FV.stos, l.sto, r.sto]
  | .iff l r => by simp [S.fv, FV.sto, FV.stos, l.sto, r.sto]
theorem S.pure (s : S) : s.fv.pure = true := sto_pure s.sto
theorem inBasic (w : Str) (h : FH) : gIn false (.v (.str w)) (.v c_BASIC) h = some (("holds" : Str) == w || ("same" : Str) == w) := gIn_2 w "holds" "same"
theorem inBinders (w : Str) (h : FH) : gIn false (.v (.str w)) (.v c_BINDERS) h = some (("all" : Str) == w || ("some" : Str) == w) := gIn_2 w "all" "some"
theorem kdq (al : Bool) (h : FH) : gKd k_DUALS (.v (.str (wq al))) h = some (.v (.str (wq (!al)))) := by cases al <;> rfl
theorem kdc (al : Bool) (h : FH) : gKd k_DUALS (.v (.str (wc al))) h = some (.v (.str (wc (!al)))) := by cases al <;> rfl
theorem wq_eq (al : Bool) : (("holds" : Str) == wq al) = false ∧ (("same" : Str) == wq al) = false ∧ (wq al == ("not" : Str)) = false ∧ ((("all" : Str) == wq al) || (("some" : Str) == wq al)) = true := by cases al <;> decide
theorem bw_eq (b : Ba) : ((("holds" : Str) == b.w) || (("same" : Str) == b.w)) = true := by cases b <;> simp [Ba.w]
theorem wc_eq (al : Bool) : (("holds" : Str) == wc al) = false ∧ (("same" : Str) == wc al) = false ∧ (wc al == ("not" : Str)) = false ∧ (("all" : Str) == wc al) = false ∧ (("some" : Str) == wc al) = false ∧ (wc al == ("implies" : Str)) = false ∧ (wc al == ("iff" : Str)) = false := by cases al <;> decide
theorem bT (b : Bool) : (b == true) = b := by cases b <;> rfl
theorem bF (b : Bool) : (b == false) = !b := by cases b <;> rfl
theorem T_form (n : Nat) : (T (n + 1)).d_form = gcP (runF 2 5 (b__form (T n))) := rfl
theorem form_ok : ∀ (s : S) (b : Bool) (n : Nat) (h : FH), s.dep < n → (T n).d_form [s.fv, .bl b] h = .ok (.v (form s b).fv) h
  | .bas x, b, n + 1, h, hn => by
    rw [T_form]
    have a1 := inBasic
    have a2 := bw_eq x
    refine gc_v (run_rt (r := .v (form (.bas x) b).fv) (h' := h) ?_) (take_self h) (S.pure _)
    unfold b__form
    cases b with
    | true =>
      show _ = RsS.rt (.v (.tup (.str x.w :: x.tl))) h
      simp only [S.fv, Ba.fv]
      and_intros
    | false =>
      show _ = RsS.rt (.v (.tup [.str "not", .tup (.str x.w :: x.tl)])) h
      simp only [S.fv, Ba.fv]
      and_intros
  | .neg s, b, n + 1, h, hn => by
    rw [T_form]
    have a1 := inBasic
    have a2 := w_eq
    have ih := form_ok s (!b) n h (by simp only [S.dep] at hn; omega)
    refine gc_v (run_rt (r := .v (form (.neg s) b).fv) (h' := h) ?_) (take_self h) (S.pure _)
    unfold b__form
    show _ = RsS.rt (.v (form s (!b)).fv) h
    simp only [S.fv]
    and_intros
  | .q al x s, b, n + 1, h, hn => by
    rw [T_form]
    have a1 := inBasic
    have a2 := inBinders
    have a3 := wq_eq al
    have a4 := kdq al
    have ih := form_ok s b n h (by simp only [S.dep] at hn; omega)
    refine gc_v (run_rt (r := .v (form (.q al x s) b).fv) (h' := h) ?_) (take_self h) (S.pure _)
    unfold b__form
    show _ = RsS.rt (.v (.tup [.str (wq (al == b)), .str x, (form s b).fv])) h
    simp only [S.fv]
    cases b with
    | true => rw [bT]; and_intros
    | false => rw [bF]; and_intros
  | .cj an l r, b, n + 1, h, hn => by
    rw [T_form]
    have a1 := inBasic
    have a2 := inBinders
    have a3 := wc_eq an
    have a4 := kdc an
    have ih := form_ok l b n h (by simp only [S.dep] at hn; omega)
    have ih2 := form_ok r b n h (by simp only [S.dep] at hn; omega)
    refine gc_v (run_rt (r := .v (form (.cj an l r) b).fv) (h' := h) ?_) (take_self h) (S.pure _)
    unfold b__form
    show _ = RsS.rt (.v (.tup [.str (wc (an == b)), (form l b).fv, (form r b).fv])) h
    simp only [S.fv]
    cases b with
    | true => rw [bT]; and_intros
    | false => rw [bF]; and_intros
  | .imp l r, b, n + 1, h, hn => by
    rw [T_form]
    have a1 := inBasic
    have a2 := inBinders
    have a3 := w_eq
    have ih := form_ok l (!b) n h (by simp only [S.dep] at hn; omega)
    have ih2 := form_ok r b n h (by simp only [S.dep] at hn; omega)
    refine gc_v (run_rt (r := .v (form (.imp l r) b).fv) (h' := h) ?_) (take_self h) (S.pure _)
    unfold b__form
    show _ = RsS.rt (.v (.tup [.str (wc (!b)), (form l (!b)).fv, (form r b).fv])) h
    simp only [S.fv]
    cases b with
    | true =>
      have ih : (T n).d_form [l.fv, .bl false] h = .ok (.v (form l false).fv) h := ih
      show _ = RsS.rt (.v (.tup [.str "or", (form l false).fv, (form r true).fv])) h; and_intros
    | false =>
      have ih : (T n).d_form [l.fv, .bl true] h = .ok (.v (form l true).fv) h := ih
      show _ = RsS.rt (.v (.tup [.str "and", (form l true).fv, (form r false).fv])) h; and_intros
  | .iff l r, b, n + 1, h, hn => by
    rw [T_form]
    have a1 := inBasic
    have a2 := inBinders
    have a3 := w_eq
    have ih := form_ok (.imp l r) b n h (by simp only [S.dep] at hn ⊢; omega)
    have ih2 := form_ok (.imp r l) b n h (by simp only [S.dep] at hn ⊢; omega)
    refine gc_v (run_rt (r := .v (form (.iff l r) b).fv) (h' := h) ?_) (take_self h) (S.pure _)
    unfold b__form
    have e : (form (.iff l r) b).fv = .tup [.str (wc b), (form (.imp l r) b).fv, (form (.imp r l) b).fv] := rfl
    rw [e]
    simp only [S.fv] at ih ih2 ⊢
    cases b with
    | true => show _ = RsS.rt (.v (.tup [.str "and", _, _])) h; and_intros
    | false => show _ = RsS.rt (.v (.tup [.str "or", _, _])) h; and_intros
  termination_by s => s.dep
  decreasing_by all_goals (simp only [S.dep]; omega)
end K15

namespace K15
open PySem F
local macro_rules | `(tactic| and_intros) => `(tactic| simp only [*, F.dat_s, F.dat_i, F.dat_b, F.gEq_s, F.gEq_i, F.gEq_b, F.gIn_2, F.lims, F.bind_ok', F.bind_no', F.bind_ex', F.lift_some, F.lift_none, F.liftP_some, F.sg_z, F.sg_s, F.fVar_d, F.fC_d, F.fBin_d, F.fUn_d, F.fCmp_d, F.fBl_d, F.fTst_d, F.fNot_d, F.fAnd_d, F.fOr_d, F.fAndV_d, F.fOrV_d, F.fNotV_d, F.fIfE_d, F.aNil_d, F.toV_v, F.toV_l, F.toV_d', F.toV_no, F.toV_ex, F.aCons_d, F.fTup_d, F.fLst_d, F.fD0_d, F.oNone_d, F.oSome_d, F.fSl_d, F.fCall_d, F.fMt_d, F.dNil_d, F.dCons_d, F.fDis_d, F.bNil_d, F.bSeq_d, F.seq_nx, F.seq_rt, F.seq_bk, F.seq_ct, F.seq_ex, F.seq_no, F.onE_ok, F.onE_ex, F.onE_no, F.sSet_d, F.sExpr_d, F.sRet_d, F.sRetN_d, F.sIf_d, F.sBreak_d, F.sCont_d, F.sPut_d, F.sPar_d, F.sAsgT_d, F.sFor_d, F.tgN_d, F.tgT_d, F.tgNil_d, F.tgCons_d, F.iR1_d, F.iR2_d, F.iSeq_d, F.turn_nx, F.turn_ct, F.turn_bk, F.turn_rt, F.turn_ex, F.turn_no, F.loop_nilT, F.loop_consT, F.fYes_d, F.noEx_ok, F.fComp_d, F.wipeF_n, F.wipeF_c, F.comp_nilT, F.gAdd_i, F.gAdd_t, F.gAdd_s, F.gMul_i, F.gI_i, F.gOrd_i, F.gLt_i, F.gNeg_i, F.gAbs_i, F.gInt_i, F.gTup_l, F.gTup_t, F.gLen_t, F.gLen_l, F.gLen_f, F.gIx_t, F.gIx_f, F.gIx_l, F.at_0, F.at_1, F.at_2, F.at_3, F.gSl_1, List.set_cons_succ, List.set_cons_zero, Option.map_some, Option.map_none, Option.bind_some, if_true, ite_true, ite_false, decide_true, decide_false, Bool.false_eq_true, List.getElem?_cons_zero, List.getElem?_cons_succ, List.nil_append, List.cons_append, List.map_cons, List.map_nil, List.replicate_succ, List.replicate_zero, Bool.or_false, Bool.or_true, Bool.true_or, Bool.false_or, List.length_nil, List.length_cons, Bool.not_true, Bool.not_false, reduceCtorEq, Nat.zero_le, Nat.reduceAdd, Nat.zero_add, true_and, and_true, and_self])
def S.nnf : S → Bool
  | .bas _ => true
  | .neg (.bas _) => true
  | .q _ _ s => s.nnf
  | .cj _ l r => l.nnf && r.nnf
  | _ => false
def opp : S → S
  | .bas b => .neg (.bas b)
  | .neg s => s
  | .q al x s => .q (!al) x (opp s)
  | .cj an l r => .cj (!an) (opp l) (opp r)
  | s => s
theorem form_nnf : ∀ (s : S) (b : Bool), (form s b).nnf = true
  | .bas x, true => rfl
  | .bas x, false => rfl
  | .neg s, b => form_nnf s (!b)
  | .q al x s, b => form_nnf s b
  | .cj an l r, b => by simp [form, S.nnf, form_nnf l b, form_nnf r b]
  | .imp l r, b => by simp [form, S.nnf, form_nnf l (!b), form_nnf r b]
  | .iff l r, b => by simp [form, S.nnf, form_nnf l b, form_nnf r b, form_nnf l (!b), form_nnf r (!b)]
theorem form_opp : ∀ (s : S) (b : Bool), opp (form s b) = form s (!b)
  | .bas x, true => rfl
  | .bas x, false => rfl
  | .neg s, b => form_opp s (!b)
  | .q al x s, b => by rw [form, opp, form_opp s b, form]; cases al <;> cases b <;> rfl
  | .cj an l r, b => by rw [form, opp, form_opp l b, form_opp r b, form]; cases an <;> cases b <;> rfl
  | .imp l r, b => by rw [form, opp, form_opp l (!b), form_opp r b, form]
  | .iff l r, b => by
    rw [form, opp, opp, opp, form_opp l (!b), form_opp r b, form_opp r (!b), form_opp l b, form]
theorem form_id : ∀ (s : S), s.nnf = true → form s true = s
  | .bas x, _ => rfl
  | .neg (.bas x), _ => rfl
  | .q al x s, h => by rw [form, form_id s (by simpa [S.nnf] using h)]; cases al <;> rfl
  | .cj an l r, h => by
    have h' : l.nnf = true ∧ r.nnf = true := by simpa [S.nnf] using h
    rw [form, form_id l h'.1, form_id r h'.2]; cases an <;> rfl
theorem form_dep : ∀ (s : S) (b : Bool), (form s b).dep ≤ s.dep + 1
  | .bas x, true => by simp [form, S.dep]
  | .bas x, false => by simp [form, S.dep]
  | .neg s, b => by have := form_dep s (!b); simp only [form, S.dep]; omega
  | .q al x s, b => by have := form_dep s b; simp only [form, S.dep]; omega
  | .cj an l r, b => by have := form_dep l b; have := form_dep r b; simp only [form, S.dep]; omega
  | .imp l r, b => by have := form_dep l (!b); have := form_dep r b; simp only [form, S.dep]; omega
  | .iff l r, b => by have := form_dep l b; have := form_dep r b; have := form_dep l (!b); have := form_dep r (!b); simp only [form, S.dep]; omega
theorem wq_t : wq true = "all" := rfl
theorem wq_f : wq false = "some" := rfl
theorem wc_t : wc true = "and" := rfl
theorem wc_f : wc false = "or" := rfl
theorem T_opp (n : Nat) : (T (n + 1)).d_law_opposite = gcP (runF 1 1 (b__law_opposite (T n))) := rfl
theorem T_shaped (n : Nat) : (T (n + 1)).d_law_shaped = gcP (runF 1 1 (b__law_shaped (T n))) := rfl
theorem T_formed (n : Nat) : (T (n + 1)).d_law_formed = gcP (runF 1 3 (b__law_formed (T n))) := rfl
theorem T_nf (n : Nat) : (T (n + 1)).d_negation_form = gcP (runF 1 0 (b_negation_form (T n))) := rfl
theorem bn_eq (b : Ba) : (b.w == ("not" : Str)) = false := by cases b <;> simp only [Ba.w] <;> decide
theorem bq_eq (b : Ba) : (("all" : Str) == b.w) = false ∧ (("some" : Str) == b.w) = false ∧ (("and" : Str) == b.w) = false ∧ (("or" : Str) == b.w) = false := by
  cases b <;> simp only [Ba.w] <;> decide
theorem fv_bas (x : Ba) : (S.bas x).fv = .tup (.str x.w :: x.tl) := rfl
theorem fv_neg (s : S) : (S.neg s).fv = .tup [.str "not", s.fv] := rfl
theorem fv_q (al : Bool) (x : Str) (s : S) : (S.q al x s).fv = .tup [.str (wq al), .str x, s.fv] := rfl
theorem fv_cj (al : Bool) (l r : S) : (S.cj al l r).fv = .tup [.str (wc al), l.fv, r.fv] := rfl
theorem fv_imp (l r : S) : (S.imp l r).fv = .tup [.str "implies", l.fv, r.fv] := rfl
theorem fv_iff (l r : S) : (S.iff l r).fv = .tup [.str "iff", l.fv, r.fv] := rfl
theorem nf_ok (s : S) (n : Nat) (h : FH) (hn : s.dep < n) : (T (n + 1)).d_negation_form [s.fv] h = .ok (.v (form s true).fv) h := by
  rw [T_nf]
  have ih := form_ok s true n h hn
  refine gc_v (run_rt (r := .v (form s true).fv) (h' := h) ?_) (take_self h) (S.pure _)
  unfold b_negation_form
  clear hn
  and_intros
theorem opp_ok : ∀ (s : S) (n : Nat) (h : FH), s.nnf = true → s.dep < n → (T n).d_law_opposite [s.fv] h = .ok (.v (opp s).fv) h
  | .bas x, n + 1, h, hs, hn => by
    rw [T_opp]
    have a1 := bw_eq x
    have a2 := bn_eq x
    refine gc_v (run_rt (r := .v (opp (.bas x)).fv) (h' := h) ?_) (take_self h) (S.pure _)
    unfold b__law_opposite
    show _ = RsS.rt (.v (.tup [.str "not", .tup (.str x.w :: x.tl)])) h
    simp only [fv_bas]
    clear hs hn
    and_intros
  | .neg s, n + 1, h, hs, hn => by
    rw [T_opp]
    have a1 := w_eq
    refine gc_v (run_rt (r := .v (opp (.neg s)).fv) (h' := h) ?_) (take_self h) (S.pure _)
    unfold b__law_opposite
    show _ = RsS.rt (.v s.fv) h
    simp only [fv_neg]
    clear hs hn
    and_intros
  | .q al x s, n + 1, h, hs, hn => by
    rw [T_opp]
    have a1 := w_eq
    have ih := opp_ok s n h (by simpa [S.nnf] using hs) (by simp only [S.dep] at hn; omega)
    refine gc_v (run_rt (r := .v (opp (.q al x s)).fv) (h' := h) ?_) (take_self h) (S.pure _)
    unfold b__law_opposite
    show _ = RsS.rt (.v (.tup [.str (wq (!al)), .str x, (opp s).fv])) h
    simp only [fv_q]
    clear hs hn
    cases al with
    | true => simp only [Bool.not_true, wq_t, wq_f]; and_intros
    | false => simp only [Bool.not_false, wq_t, wq_f]; and_intros
  | .cj al l r, n + 1, h, hs, hn => by
    rw [T_opp]
    have hs' : l.nnf = true ∧ r.nnf = true := by simpa [S.nnf] using hs
    have a1 := w_eq
    have ih := opp_ok l n h hs'.1 (by simp only [S.dep] at hn; omega)
    have ih2 := opp_ok r n h hs'.2 (by simp only [S.dep] at hn; omega)
    refine gc_v (run_rt (r := .v (opp (.cj al l r)).fv) (h' := h) ?_) (take_self h) (S.pure _)
    unfold b__law_opposite
    show _ = RsS.rt (.v (.tup [.str (wc (!al)), (opp l).fv, (opp r).fv])) h
    simp only [fv_cj]
    clear hs hn hs'
    cases al with
    | true => simp only [Bool.not_true, wc_t, wc_f]; and_intros
    | false => simp only [Bool.not_false, wc_t, wc_f]; and_intros
theorem shaped_ok : ∀ (s : S) (n : Nat) (h : FH), s.nnf = true → s.dep < n → (T n).d_law_shaped [s.fv] h = .ok (.v (.bl true)) h
  | .bas x, n + 1, h, hs, hn => by
    rw [T_shaped]
    have a1 := bw_eq x
    have a2 := bn_eq x
    have a3 := bq_eq x
    refine gc_v (run_rt (r := .v (.bl true)) (h' := h) ?_) (take_self h) rfl
    unfold b__law_shaped
    simp only [fv_bas]
    clear hs hn
    and_intros
  | .neg (.bas x), n + 1, h, hs, hn => by
    rw [T_shaped]
    have a1 := w_eq
    have a2 := bw_eq x
    refine gc_v (run_rt (r := .v (.bl true)) (h' := h) ?_) (take_self h) rfl
    unfold b__law_shaped
    simp only [fv_neg, fv_bas]
    clear hs hn
    and_intros
  | .q al x s, n + 1, h, hs, hn => by
    rw [T_shaped]
    have a1 := w_eq
    have ih := shaped_ok s n h (by simpa [S.nnf] using hs) (by simp only [S.dep] at hn; omega)
    refine gc_v (run_rt (r := .v (.bl true)) (h' := h) ?_) (take_self h) rfl
    unfold b__law_shaped
    simp only [fv_q]
    clear hs hn
    cases al with
    | true => simp only [Bool.not_true, wq_t, wq_f]; and_intros
    | false => simp only [Bool.not_false, wq_t, wq_f]; and_intros
  | .cj al l r, n + 1, h, hs, hn => by
    rw [T_shaped]
    have hs' : l.nnf = true ∧ r.nnf = true := by simpa [S.nnf] using hs
    have a1 := w_eq
    have ih := shaped_ok l n h hs'.1 (by simp only [S.dep] at hn; omega)
    have ih2 := shaped_ok r n h hs'.2 (by simp only [S.dep] at hn; omega)
    refine gc_v (run_rt (r := .v (.bl true)) (h' := h) ?_) (take_self h) rfl
    unfold b__law_shaped
    simp only [fv_cj]
    clear hs hn hs'
    cases al with
    | true => simp only [Bool.not_true, wc_t, wc_f]; and_intros
    | false => simp only [Bool.not_false, wc_t, wc_f]; and_intros
theorem formed_ok : ∀ (s : S) (n : Nat) (h : FH), s.dep + 1 < n → (T n).d_law_formed [s.fv] h = .ok (.v (form s true).fv) h
  | .bas x, n + 1, h, hn => by
    rw [T_formed]
    have a1 := bw_eq x
    refine gc_v (run_rt (r := .v (form (.bas x) true).fv) (h' := h) ?_) (take_self h) (S.pure _)
    unfold b__law_formed
    show _ = RsS.rt (.v (.tup (.str x.w :: x.tl))) h
    simp only [fv_bas]
    clear hn
    and_intros
  | .neg s, n + 1, h, hn => by
    rw [T_formed]
    have a1 := w_eq
    have d1 := form_dep s true
    simp only [S.dep] at hn
    have ih := formed_ok s n h (by omega)
    have i2 := opp_ok (form s true) n h (form_nnf s true) (by omega)
    rw [form_opp] at i2
    have i2 : (T n).d_law_opposite [(form s true).fv] h = .ok (.v (form s false).fv) h := i2
    refine gc_v (run_rt (r := .v (form (.neg s) true).fv) (h' := h) ?_) (take_self h) (S.pure _)
    unfold b__law_formed
    show _ = RsS.rt (.v (form s false).fv) h
    simp only [fv_neg]
    clear hn d1
    and_intros
  | .q al x s, n + 1, h, hn => by
    rw [T_formed]
    have a1 := w_eq
    simp only [S.dep] at hn
    have ih := formed_ok s n h (by omega)
    refine gc_v (run_rt (r := .v (form (.q al x s) true).fv) (h' := h) ?_) (take_self h) (S.pure _)
    unfold b__law_formed
    have e : form (.q al x s) true = .q al x (form s true) := by rw [form]; cases al <;> rfl
    rw [e]
    simp only [fv_q]
    clear hn e
    cases al with
    | true => simp only [wq_t, wq_f]; and_intros
    | false => simp only [wq_t, wq_f]; and_intros
  | .cj al l r, n + 1, h, hn => by
    rw [T_formed]
    have a1 := w_eq
    simp only [S.dep] at hn
    have ih := formed_ok l n h (by omega)
    have ih2 := formed_ok r n h (by omega)
    refine gc_v (run_rt (r := .v (form (.cj al l r) true).fv) (h' := h) ?_) (take_self h) (S.pure _)
    unfold b__law_formed
    have e : form (.cj al l r) true = .cj al (form l true) (form r true) := by rw [form]; cases al <;> rfl
    rw [e]
    simp only [fv_cj]
    clear hn e
    cases al with
    | true => simp only [wc_t, wc_f]; and_intros
    | false => simp only [wc_t, wc_f]; and_intros
  | .imp l r, n + 1, h, hn => by
    rw [T_formed]
    have a1 := w_eq
    have d1 := form_dep l true
    simp only [S.dep] at hn
    have ih := formed_ok l n h (by omega)
    have ih2 := formed_ok r n h (by omega)
    have i2 := opp_ok (form l true) n h (form_nnf l true) (by omega)
    rw [form_opp] at i2
    have i2 : (T n).d_law_opposite [(form l true).fv] h = .ok (.v (form l false).fv) h := i2
    refine gc_v (run_rt (r := .v (form (.imp l r) true).fv) (h' := h) ?_) (take_self h) (S.pure _)
    unfold b__law_formed
    show _ = RsS.rt (.v (.tup [.str "or", (form l false).fv, (form r true).fv])) h
    simp only [fv_imp]
    clear hn d1
    and_intros
  | .iff l r, n + 1, h, hn => by
    rw [T_formed]
    have a1 := w_eq
    have d1 := form_dep l true
    have d2 := form_dep r true
    simp only [S.dep] at hn
    have ih := formed_ok l n h (by omega)
    have ih2 := formed_ok r n h (by omega)
    have i2 := opp_ok (form l true) n h (form_nnf l true) (by omega)
    rw [form_opp] at i2
    have i2 : (T n).d_law_opposite [(form l true).fv] h = .ok (.v (form l false).fv) h := i2
    have i3 := opp_ok (form r true) n h (form_nnf r true) (by omega)
    rw [form_opp] at i3
    have i3 : (T n).d_law_opposite [(form r true).fv] h = .ok (.v (form r false).fv) h := i3
    refine gc_v (run_rt (r := .v (form (.iff l r) true).fv) (h' := h) ?_) (take_self h) (S.pure _)
    unfold b__law_formed
    show _ = RsS.rt (.v (.tup [.str "and", .tup [.str "or", (form l false).fv, (form r true).fv], .tup [.str "or", (form r false).fv, (form l true).fv]])) h
    simp only [fv_iff]
    clear hn d1 d2
    and_intros
end K15

namespace K15
open PySem PySem.Spec PyProof.Rows L2 F
theorem gIs_s (x : Str) (h : FH) : gIs "str" (.v (.str x)) h = some (.v (.bl true)) := (rfl)
theorem gIs_t (x : List FV) (h : FH) : gIs "str" (.v (.tup x)) h = some (.v (.bl false)) := (rfl)
local macro_rules | `(tactic| and_intros) => `(tactic| simp only [*, F.dat_s, F.dat_i, F.dat_b, F.gEq_s, F.gEq_i, F.gEq_b, F.gIn_2, F.lims, F.bind_ok', F.bind_no', F.bind_ex', F.lift_some, F.lift_none, F.liftP_some, F.sg_z, F.sg_s, F.fVar_d, F.fC_d, F.fBin_d, F.fUn_d, F.fCmp_d, F.fBl_d, F.fTst_d, F.fNot_d, F.fAnd_d, F.fOr_d, F.fAndV_d, F.fOrV_d, F.fNotV_d, F.fIfE_d, F.aNil_d, F.toV_v, F.toV_l, F.toV_d', F.toV_no, F.toV_ex, F.aCons_d, F.fTup_d, F.fLst_d, F.fD0_d, F.oNone_d, F.oSome_d, F.fSl_d, F.fCall_d, F.fMt_d, F.dNil_d, F.dCons_d, F.fDis_d, F.bNil_d, F.bSeq_d, F.seq_nx, F.seq_rt, F.seq_bk, F.seq_ct, F.seq_ex, F.seq_no, F.onE_ok, F.onE_ex, F.onE_no, F.sSet_d, F.sExpr_d, F.sRet_d, F.sRetN_d, F.sIf_d, F.sBreak_d, F.sCont_d, F.sPut_d, F.sPar_d, F.sAsgT_d, F.sFor_d, F.tgN_d, F.tgT_d, F.tgNil_d, F.tgCons_d, F.iR1_d, F.iR2_d, F.iSeq_d, F.turn_nx, F.turn_ct, F.turn_bk, F.turn_rt, F.turn_ex, F.turn_no, F.loop_nilT, F.loop_consT, F.fYes_d, F.noEx_ok, F.fComp_d, F.wipeF_n, F.wipeF_c, F.comp_nilT, F.comp_consT, gIs_s, gIs_t, F.gAdd_i, F.gAdd_t, F.gAdd_s, F.gMul_i, F.gI_i, F.gOrd_i, F.gLt_i, F.gNeg_i, F.gAbs_i, F.gInt_i, F.gTup_l, F.gTup_t, F.gLen_t, F.gLen_l, F.gLen_f, F.gIx_t, F.gIx_f, F.gIx_l, F.at_0, F.at_1, F.at_2, F.at_3, F.gSl_1, List.set_cons_succ, List.set_cons_zero, Option.map_some, Option.map_none, Option.bind_some, if_true, ite_true, ite_false, decide_true, decide_false, Bool.false_eq_true, List.getElem?_cons_zero, List.getElem?_cons_succ, List.nil_append, List.cons_append, List.map_cons, List.map_nil, List.replicate_succ, List.replicate_zero, Bool.or_false, Bool.or_true, Bool.true_or, Bool.false_or, List.length_nil, List.length_cons, Bool.not_true, Bool.not_false, reduceCtorEq, Nat.zero_le, Nat.reduceAdd, Nat.zero_add, true_and, and_true, and_self])
/-! ### worlds -/
structure Md where
  n : Nat
  a : Nat
  q : Bool
  f : List Nat
  p : List Bool
  r : List Bool
structure Md.ok (m : Md) : Prop where
  n0 : 0 < m.n
  n3 : m.n ≤ 3
  al : m.a < m.n
  fl : m.f.length = m.n
  fb : ∀ x, x ∈ m.f → x < m.n
  pl : m.p.length = m.n
  rl : m.r.length = m.n * m.n
def Md.f' (m : Md) (i : Nat) : Nat := m.f.getD i 0
def Md.p' (m : Md) (i : Nat) : Bool := m.p.getD i false
def Md.r' (m : Md) (i j : Nat) : Bool := m.r.getD (i * m.n + j) false
def Md.kvs (a q f p r : Nat) : List (Key × FV) := [(.inr "a", .ref a), (.inr "Q", .ref q), (.inr "f", .ref f), (.inr "P", .ref p), (.inr "R", .ref r)]
/-- the tables stand in the heap -/
def Tb (m : Md) (d : Nat) (h : FH) : Prop := ∃ ia iq jf ip ir, h[d]? = some (.dK (Md.kvs ia iq jf ip ir)) ∧ h[ia]? = some (.lst [.int m.a]) ∧ h[iq]? = some (.lst [.bl m.q])
  ∧ h[jf]? = some (.lst (m.f.map fun x : Nat => FV.int (x : Int))) ∧ h[ip]? = some (.lst (m.p.map .bl)) ∧ h[ir]? = some (.lst (m.r.map .bl))
theorem app_at {h g : FH} {i : Nat} {o : FO} (e : h[i]? = some o) : (h ++ g)[i]? = some o := by
  rw [List.getElem?_append_left]; exact e
  exact (List.getElem?_eq_some_iff.mp e).1
theorem Tb.app {m : Md} {d : Nat} {h g : FH} : Tb m d h → Tb m d (h ++ g)
  | ⟨ia, iq, jf, ip, ir, a, b, c, d, e, f⟩ => ⟨ia, iq, jf, ip, ir, app_at a, app_at b, app_at c, app_at d, app_at e, app_at f⟩
/-- the values stand in the heap -/
structure Ctx (m : Md) (sc : List Str) (ρ : Str → Nat) (d e L : Nat) (h : FH) : Prop where
  tb : Tb m d h
  ev : ∃ kvs, h[e]? = some (.dK kvs) ∧ kvs.length ≤ L ∧ ∀ x, x ∈ sc → lookK kvs (.inr x) = some (.int (ρ x))
  bd : ∀ x, x ∈ sc → ρ x < m.n
theorem Ctx.app {m : Md} {sc : List Str} {ρ : Str → Nat} {d e L : Nat} {h g : FH} (c : Ctx m sc ρ d e L h) : Ctx m sc ρ d e L (h ++ g) :=
  ⟨c.tb.app, let ⟨k, a, b⟩ := c.ev; ⟨k, app_at a, b⟩, c.bd⟩
def Te.sc (sc : List Str) : Te → Prop
  | .v x => x ∈ sc
  | .a => True
  | .f x => x ∈ sc
def Ba.sc (sc : List Str) : Ba → Prop
  | .same l r => l.sc sc ∧ r.sc sc
  | .rr l r => l.sc sc ∧ r.sc sc
  | .p t => t.sc sc
  | .q => True
def S.sc (sc : List Str) : S → Prop
  | .bas b => b.sc sc
  | .neg s => s.sc sc
  | .q _ x s => s.sc (x :: sc)
  | .cj _ l r => l.sc sc ∧ r.sc sc
  | .imp l r => l.sc sc ∧ r.sc sc
  | .iff l r => l.sc sc ∧ r.sc sc
theorem form_sc : ∀ (s : S) (b : Bool) (sc : List Str), s.sc sc → (form s b).sc sc
  | .bas x, true, sc, h => h
  | .bas x, false, sc, h => h
  | .neg s, b, sc, h => form_sc s (!b) sc h
  | .q al x s, b, sc, h => form_sc s b (x :: sc) h
  | .cj an l r, b, sc, h => ⟨form_sc l b sc h.1, form_sc r b sc h.2⟩
  | .imp l r, b, sc, h => ⟨form_sc l (!b) sc h.1, form_sc r b sc h.2⟩
  | .iff l r, b, sc, h => ⟨⟨form_sc l (!b) sc h.1, form_sc r b sc h.2⟩, ⟨form_sc r (!b) sc h.2, form_sc l b sc h.1⟩⟩
def Te.val (m : Md) (ρ : Str → Nat) : Te → Nat
  | .v x => ρ x
  | .a => m.a
  | .f x => m.f' (ρ x)
def Ba.val (m : Md) (ρ : Str → Nat) : Ba → Bool
  | .same l r => l.val m ρ == r.val m ρ
  | .rr l r => m.r' (l.val m ρ) (r.val m ρ)
  | .p t => m.p' (t.val m ρ)
  | .q => m.q
def upd (ρ : Str → Nat) (x : Str) (i : Nat) : Str → Nat := fun y => if y = x then i else ρ y
def qv (al : Bool) (n : Nat) (f : Nat → Bool) : Bool := if al then (List.range n).all f else (List.range n).any f
def S.val (m : Md) : S → (Str → Nat) → Bool
  | .bas b, ρ => b.val m ρ
  | .neg s, ρ => !(s.val m ρ)
  | .q al x s, ρ => qv al m.n fun i => s.val m (upd ρ x i)
  | .cj an l r, ρ => if an then l.val m ρ && r.val m ρ else l.val m ρ || r.val m ρ
  | .imp l r, ρ => !(l.val m ρ) || r.val m ρ
  | .iff l r, ρ => l.val m ρ == r.val m ρ
theorem all_not (l : List Nat) (f : Nat → Bool) : (l.all fun i => f i == false) = !(l.any f) := by
  induction l with
  | nil => rfl
  | cons x l ih => rw [List.all_cons, List.any_cons, ih]; cases f x <;> simp
theorem any_not (l : List Nat) (f : Nat → Bool) : (l.any fun i => f i == false) = !(l.all f) := by
  induction l with
  | nil => rfl
  | cons x l ih => rw [List.all_cons, List.any_cons, ih]; cases f x <;> simp
theorem qv_form (al b : Bool) (n : Nat) (f : Nat → Bool) : qv (al == b) n (fun i => f i == b) = (qv al n f == b) := by
  cases b with
  | true => simp only [bT]
  | false => cases al with
    | true => have := any_not (List.range n) f; simpa [qv] using this
    | false => have := all_not (List.range n) f; simpa [qv] using this
theorem form_val (m : Md) : ∀ (s : S) (b : Bool) (ρ : Str → Nat), (form s b).val m ρ = (s.val m ρ == b)
  | .bas x, true, ρ => by simp only [form, S.val, bT]
  | .bas x, false, ρ => by simp only [form, S.val, bF]
  | .neg s, b, ρ => by rw [form, form_val m s (!b) ρ, S.val]; cases s.val m ρ <;> cases b <;> rfl
  | .q al x s, b, ρ => by
    rw [form, S.val, S.val, ← qv_form]
    congr 1
    funext i
    exact form_val m s b _
  | .cj an l r, b, ρ => by rw [form, S.val, S.val, form_val m l b ρ, form_val m r b ρ]; cases an <;> cases l.val m ρ <;> cases r.val m ρ <;> cases b <;> rfl
  | .imp l r, b, ρ => by rw [form, S.val, S.val, form_val m l (!b) ρ, form_val m r b ρ]; cases l.val m ρ <;> cases r.val m ρ <;> cases b <;> rfl
  | .iff l r, b, ρ => by
    rw [form, S.val, S.val, S.val, S.val, form_val m l (!b) ρ, form_val m r b ρ, form_val m r (!b) ρ, form_val m l b ρ]
    cases l.val m ρ <;> cases r.val m ρ <;> cases b <;> rfl
theorem f_lt {m : Md} (ok : m.ok) {i : Nat} (hi : i < m.n) : m.f' i < m.n := by
  have l : i < m.f.length := by rw [ok.fl]; exact hi
  unfold Md.f'
  rw [List.getD_eq_getElem?_getD, List.getElem?_eq_getElem l]
  exact ok.fb _ (List.getElem_mem l)
theorem Te.val_lt {m : Md} {sc : List Str} {ρ : Str → Nat} (ok : m.ok) (b : ∀ x, x ∈ sc → ρ x < m.n) : ∀ (t : Te), t.sc sc → t.val m ρ < m.n
  | .v x, h => b x h
  | .a, _ => ok.al
  | .f x, h => f_lt ok (b x h)
/-! ### entries -/
theorem T_entry (n : Nat) : (T (n + 1)).d_law_entry = gcP (runF 4 2 (b__law_entry (T n))) := rfl
theorem T_value (n : Nat) : (T (n + 1)).d_law_value = gcP (runF 4 1 (b__law_value (T n))) := rfl
theorem T_bound (n : Nat) : (T (n + 1)).d_law_bound = gcP (runF 4 3 (b__law_bound (T n))) := rfl
theorem T_true (n : Nat) : (T (n + 1)).d_law_true = gcP (runF 4 5 (b__law_true (T n))) := rfl
section
variable {h : FH} {d L i : Nat} {kvs : List (Key × FV)} {es : List FV} {name : Str} {v : FV}
theorem cMul_n (n : Nat) (hn : n ≤ 3) : ∀ i : Int, cMul i n = some (i * n) := fun i => by
  unfold cMul; rw [if_pos (mul_l ⟨by omega, by omega⟩)]
theorem entry0 (n k : Nat) (hn : n ≤ 3) (e1 : h[d]? = some (.dK kvs)) (e2 : lookK kvs (.inr name) = some (.ref i)) (e3 : h[i]? = some (.lst es)) (e4 : h[L]? = some (.lst [])) (e5 : atI es 0 = some v) (p : v.pure = true) :
    (T (k + 1)).d_law_entry [.ref d, .int n, .str name, .ref L] h = .ok (.v v) h := by
  rw [T_entry]
  refine gc_v (run_rt (r := .v v) (h' := h) ?_) (take_self h) p
  have l0 : ∀ {f Γ}, loopF (tgN 5) (fun h' => h'[L]? = some (.lst [])) f [] Γ h = .nx Γ h := loop_nil e4
  have g1 := fun x => gIx_rd e1 x
  have g2 := fun x => gIx_rl e3 x
  unfold b__law_entry
  clear hn p
  and_intros
theorem entry1 (n k : Nat) (hn : n ≤ 3) (x : Nat) (e1 : h[d]? = some (.dK kvs)) (e2 : lookK kvs (.inr name) = some (.ref i)) (e3 : h[i]? = some (.lst es)) (e4 : h[L]? = some (.lst [.int x])) (e5 : es[x]? = some v) (p : v.pure = true) :
    (T (k + 1)).d_law_entry [.ref d, .int n, .str name, .ref L] h = .ok (.v v) h := by
  rw [T_entry]
  refine gc_v (run_rt (r := .v v) (h' := h) ?_) (take_self h) p
  have l0 : ∀ {f Γ}, loopF (tgN 5) (fun h' => h'[L]? = some (.lst [.int x])) f [] Γ h = .nx Γ h := loop_nil e4
  have l1 : ∀ {f Γ dd ds}, loopF (tgN 5) (fun h' => h'[L]? = some (.lst [.int x])) f (dd :: ds) Γ h = (f (Γ.set 5 (some dd)) h).turn (loopF (tgN 5) (fun h' => h'[L]? = some (.lst [.int x])) f ds) := loop_cons e4 rfl
  have g1 := fun x => gIx_rd e1 x
  have g2 := fun x => gIx_rl e3 x
  have m1 := cMul_n n hn
  have z : (0 : Int) * n + x = x := by omega
  have e6 : atI es x = some v := atI_nat e5
  unfold b__law_entry
  clear hn p
  and_intros
theorem entry2 (n k : Nat) (hn : n ≤ 3) (x y : Nat) (e1 : h[d]? = some (.dK kvs)) (e2 : lookK kvs (.inr name) = some (.ref i)) (e3 : h[i]? = some (.lst es)) (e4 : h[L]? = some (.lst [.int x, .int y])) (e5 : es[x * n + y]? = some v) (p : v.pure = true) :
    (T (k + 1)).d_law_entry [.ref d, .int n, .str name, .ref L] h = .ok (.v v) h := by
  rw [T_entry]
  refine gc_v (run_rt (r := .v v) (h' := h) ?_) (take_self h) p
  have l0 : ∀ {f Γ}, loopF (tgN 5) (fun h' => h'[L]? = some (.lst [.int x, .int y])) f [] Γ h = .nx Γ h := loop_nil e4
  have l1 : ∀ {f Γ dd ds}, loopF (tgN 5) (fun h' => h'[L]? = some (.lst [.int x, .int y])) f (dd :: ds) Γ h = (f (Γ.set 5 (some dd)) h).turn (loopF (tgN 5) (fun h' => h'[L]? = some (.lst [.int x, .int y])) f ds) := loop_cons e4 rfl
  have g1 := fun x => gIx_rd e1 x
  have g2 := fun x => gIx_rl e3 x
  have m1 := cMul_n n hn
  have z : (0 : Int) * n + x = x := by omega
  have z2 : (x : Int) * n + y = ((x * n + y : Nat) : Int) := by push_cast; rfl
  have e6 : atI es ((x * n + y : Nat) : Int) = some v := atI_nat e5
  unfold b__law_entry
  clear hn p
  and_intros
end
end K15

namespace K15
open PySem PySem.Spec PyProof.Rows L2 F
local macro_rules | `(tactic| and_intros) => `(tactic| simp only [*, F.dat_s, F.dat_i, F.dat_b, F.gEq_s, F.gEq_i, F.gEq_b, F.gIn_2, F.lims, F.bind_ok', F.bind_no', F.bind_ex', F.lift_some, F.lift_none, F.liftP_some, F.sg_z, F.sg_s, F.fVar_d, F.fC_d, F.fBin_d, F.fUn_d, F.fCmp_d, F.fBl_d, F.fTst_d, F.fNot_d, F.fAnd_d, F.fOr_d, F.fAndV_d, F.fOrV_d, F.fNotV_d, F.fIfE_d, F.aNil_d, F.toV_v, F.toV_l, F.toV_d', F.toV_no, F.toV_ex, F.aCons_d, F.fTup_d, F.fLst_d, F.fD0_d, F.oNone_d, F.oSome_d, F.fSl_d, F.fCall_d, F.fMt_d, F.dNil_d, F.dCons_d, F.fDis_d, F.bNil_d, F.bSeq_d, F.seq_nx, F.seq_rt, F.seq_bk, F.seq_ct, F.seq_ex, F.seq_no, F.onE_ok, F.onE_ex, F.onE_no, F.sSet_d, F.sExpr_d, F.sRet_d, F.sRetN_d, F.sIf_d, F.sBreak_d, F.sCont_d, F.sPut_d, F.sPar_d, F.sAsgT_d, F.sFor_d, F.tgN_d, F.tgT_d, F.tgNil_d, F.tgCons_d, F.iR1_d, F.iR2_d, F.iSeq_d, F.turn_nx, F.turn_ct, F.turn_bk, F.turn_rt, F.turn_ex, F.turn_no, F.loop_nilT, F.loop_consT, F.fYes_d, F.noEx_ok, F.fComp_d, F.wipeF_n, F.wipeF_c, F.comp_nilT, F.comp_consT, gIs_s, gIs_t, F.gAdd_i, F.gAdd_t, F.gAdd_s, F.gMul_i, F.gI_i, F.gOrd_i, F.gLt_i, F.gNeg_i, F.gAbs_i, F.gInt_i, F.gTup_l, F.gTup_t, F.gLen_t, F.gLen_l, F.gLen_f, F.gIx_t, F.gIx_f, F.gIx_l, F.at_0, F.at_1, F.at_2, F.at_3, F.gSl_1, List.set_cons_succ, List.set_cons_zero, Option.map_some, Option.map_none, Option.bind_some, if_true, ite_true, ite_false, decide_true, decide_false, Bool.false_eq_true, List.getElem?_cons_zero, List.getElem?_cons_succ, List.nil_append, List.cons_append, List.map_cons, List.map_nil, List.replicate_succ, List.replicate_zero, Bool.or_false, Bool.or_true, Bool.true_or, Bool.false_or, List.length_nil, List.length_cons, Bool.not_true, Bool.not_false, reduceCtorEq, Nat.zero_le, Nat.reduceAdd, Nat.zero_add, true_and, and_true, and_self])
theorem T_loc : True := trivial
theorem app_len (h : FH) (o : FO) : (h ++ [o])[h.length]? = some o := by simp
section
variable {h : FH} {m : Md} {sc : List Str} {ρ : Str → Nat} {d e L : Nat}
theorem lk_a (a q f p r : Nat) : lookK (Md.kvs a q f p r) (.inr "a") = some (.ref a) := rfl
theorem lk_q (a q f p r : Nat) : lookK (Md.kvs a q f p r) (.inr "Q") = some (.ref q) := rfl
theorem lk_f (a q f p r : Nat) : lookK (Md.kvs a q f p r) (.inr "f") = some (.ref f) := rfl
theorem lk_p (a q f p r : Nat) : lookK (Md.kvs a q f p r) (.inr "P") = some (.ref p) := rfl
theorem lk_r (a q f p r : Nat) : lookK (Md.kvs a q f p r) (.inr "R") = some (.ref r) := rfl
theorem get_f (ok : m.ok) {i : Nat} (hi : i < m.n) : (m.f.map fun x : Nat => FV.int (x : Int))[i]? = some (.int (m.f' i)) := by
  have l : i < m.f.length := by rw [ok.fl]; exact hi
  unfold Md.f'
  rw [List.getD_eq_getElem?_getD, List.getElem?_map, List.getElem?_eq_getElem l]; rfl
theorem get_p (ok : m.ok) {i : Nat} (hi : i < m.n) : (m.p.map FV.bl)[i]? = some (.bl (m.p' i)) := by
  have l : i < m.p.length := by rw [ok.pl]; exact hi
  unfold Md.p'
  rw [List.getD_eq_getElem?_getD, List.getElem?_map, List.getElem?_eq_getElem l]; rfl
theorem get_r (ok : m.ok) {i j : Nat} (hi : i < m.n) (hj : j < m.n) : (m.r.map FV.bl)[i * m.n + j]? = some (.bl (m.r' i j)) := by
  have l : i * m.n + j < m.r.length := by
    rw [ok.rl]
    calc i * m.n + j < i * m.n + m.n := by omega
      _ = (i + 1) * m.n := by rw [Nat.add_mul, Nat.one_mul]
      _ ≤ m.n * m.n := Nat.mul_le_mul_right _ hi
  unfold Md.r'
  rw [List.getD_eq_getElem?_getD, List.getElem?_map, List.getElem?_eq_getElem l]; rfl
/-- an unknown, a term -/
theorem value_v (c : Ctx m sc ρ d e L h) (k : Nat) (x : Str) (hx : x ∈ sc) : (T (k + 1)).d_law_value [.ref d, .int m.n, .str x, .ref e] h = .ok (.v (.int (ρ x))) h := by
  obtain ⟨kvs, e1, _, e3⟩ := c.ev
  have e2 := e3 x hx
  rw [T_value]
  refine gc_v (run_rt (r := .v (.int (ρ x))) (h' := h) ?_) (take_self h) rfl
  have g1 := fun x => gIx_rd e1 x
  unfold b__law_value
  clear e3 e1
  and_intros
theorem value_ok (ok : m.ok) (c : Ctx m sc ρ d e L h) (k : Nat) : ∀ t : Te, t.sc sc → (T (k + 2)).d_law_value [.ref d, .int m.n, t.fv, .ref e] h = .ok (.v (.int (t.val m ρ))) h
  | .v x, hx => value_v c (k + 1) x hx
  | .a, _ => by
    obtain ⟨ia, iq, jf, ip, ir, t1, t2, t3, t4, t5, t6⟩ := c.tb.app (g := [.lst []])
    have E := entry0 (L := h.length) m.n k ok.n3 t1 (lk_a ia iq jf ip ir) t2 (app_len h _) (at_0 _ _) rfl
    rw [T_value]
    refine gc_v (run_rt (r := .v (.int m.a)) (h' := h ++ [.lst []]) ?_) (take_app h _) rfl
    unfold b__law_value
    simp only [Te.fv]
    clear c t1 t2 t3 t4 t5 t6
    and_intros
  | .f x, hx => by
    obtain ⟨ia, iq, jf, ip, ir, t1, t2, t3, t4, t5, t6⟩ := c.tb.app (g := [.lst [.int (ρ x)]])
    have E := entry1 (L := h.length) m.n k ok.n3 (ρ x) t1 (lk_f ia iq jf ip ir) t4 (app_len h _) (get_f ok (c.bd x hx)) rfl
    have V := value_v c k x hx
    rw [T_value]
    refine gc_v (run_rt (r := .v (.int (m.f' (ρ x)))) (h' := h ++ [.lst [.int (ρ x)]]) ?_) (take_app h _) rfl
    unfold b__law_value
    simp only [Te.fv]
    clear c t1 t2 t3 t4 t5 t6
    and_intros
theorem basic_ok (ok : m.ok) (c : Ctx m sc ρ d e L h) (k : Nat) (b : Ba) (hb : b.sc sc) : (T (k + 3)).d_law_true [.ref d, .int m.n, b.fv, .ref e] h = .ok (.v (.bl (b.val m ρ))) h := by
  have a1 := w_eq
  rw [T_true]
  cases b with
  | same l r =>
    have v1 := value_ok ok c k l hb.1
    have v2 := value_ok ok c k r hb.2
    have ei : (((l.val m ρ : Nat) : Int) == ((r.val m ρ : Nat) : Int)) = (l.val m ρ == r.val m ρ) := by
      rw [Bool.eq_iff_iff, beq_iff_eq, beq_iff_eq]; omega
    refine gc_v (run_rt (r := .v (.bl (l.val m ρ == r.val m ρ))) (h' := h) ?_) (take_self h) rfl
    unfold b__law_true
    simp only [Ba.fv, Ba.w, Ba.tl]
    clear c
    and_intros
  | rr l r =>
    have v1 := value_ok ok c k l hb.1
    have v2 := value_ok ok c k r hb.2
    obtain ⟨ia, iq, jf, ip, ir, t1, t2, t3, t4, t5, t6⟩ := c.tb.app (g := [.lst [.int (l.val m ρ), .int (r.val m ρ)]])
    have E := entry2 (L := h.length) m.n (k + 1) ok.n3 (l.val m ρ) (r.val m ρ) t1 (lk_r ia iq jf ip ir) t6 (app_len h _) (get_r ok (Te.val_lt ok c.bd l hb.1) (Te.val_lt ok c.bd r hb.2)) rfl
    refine gc_v (run_rt (r := .v (.bl (m.r' (l.val m ρ) (r.val m ρ)))) (h' := h ++ [.lst [.int (l.val m ρ), .int (r.val m ρ)]]) ?_) (take_app h _) rfl
    unfold b__law_true
    simp only [Ba.fv, Ba.w, Ba.tl]
    clear c t1 t2 t3 t4 t5 t6
    and_intros
  | p l =>
    have v1 := value_ok ok c k l hb
    obtain ⟨ia, iq, jf, ip, ir, t1, t2, t3, t4, t5, t6⟩ := c.tb.app (g := [.lst [.int (l.val m ρ)]])
    have E := entry1 (L := h.length) m.n (k + 1) ok.n3 (l.val m ρ) t1 (lk_p ia iq jf ip ir) t5 (app_len h _) (get_p ok (Te.val_lt ok c.bd l hb)) rfl
    refine gc_v (run_rt (r := .v (.bl (m.p' (l.val m ρ)))) (h' := h ++ [.lst [.int (l.val m ρ)]]) ?_) (take_app h _) rfl
    unfold b__law_true
    simp only [Ba.fv, Ba.w, Ba.tl]
    clear c t1 t2 t3 t4 t5 t6
    and_intros
  | q =>
    obtain ⟨ia, iq, jf, ip, ir, t1, t2, t3, t4, t5, t6⟩ := c.tb.app (g := [.lst []])
    have E := entry0 (L := h.length) m.n (k + 1) ok.n3 t1 (lk_q ia iq jf ip ir) t3 (app_len h _) (at_0 _ _) rfl
    refine gc_v (run_rt (r := .v (.bl m.q)) (h' := h ++ [.lst []]) ?_) (take_app h _) rfl
    unfold b__law_true
    simp only [Ba.fv, Ba.w, Ba.tl]
    clear c t1 t2 t3 t4 t5 t6
    and_intros
end
end K15

namespace K15
open PySem PySem.Spec PyProof.Rows L2 F
theorem bEq : (true == true) = true ∧ (true == false) = false ∧ (false == true) = false ∧ (false == false) = true := by decide
local macro_rules | `(tactic| and_intros) => `(tactic| simp only [*, F.dat_s, F.dat_i, F.dat_b, F.gEq_s, F.gEq_i, F.gEq_b, F.gIn_2, F.lims, F.bind_ok', F.bind_no', F.bind_ex', F.lift_some, F.lift_none, F.liftP_some, F.sg_z, F.sg_s, F.fVar_d, F.fC_d, F.fBin_d, F.fUn_d, F.fCmp_d, F.fBl_d, F.fTst_d, F.fNot_d, F.fAnd_d, F.fOr_d, F.fAndV_d, F.fOrV_d, F.fNotV_d, F.fIfE_d, F.aNil_d, F.toV_v, F.toV_l, F.toV_d', F.toV_no, F.toV_ex, F.aCons_d, F.fTup_d, F.fLst_d, F.fD0_d, F.oNone_d, F.oSome_d, F.fSl_d, F.fCall_d, F.fMt_d, F.dNil_d, F.dCons_d, F.fDis_d, F.bNil_d, F.bSeq_d, F.seq_nx, F.seq_rt, F.seq_bk, F.seq_ct, F.seq_ex, F.seq_no, F.onE_ok, F.onE_ex, F.onE_no, F.sSet_d, F.sExpr_d, F.sRet_d, F.sRetN_d, F.sIf_d, F.sBreak_d, F.sCont_d, F.sPut_d, F.sPar_d, F.sAsgT_d, F.sFor_d, F.tgN_d, F.tgT_d, F.tgNil_d, F.tgCons_d, F.iR1_d, F.iR2_d, F.iSeq_d, F.turn_nx, F.turn_ct, F.turn_bk, F.turn_rt, F.turn_ex, F.turn_no, F.loop_nilT, F.loop_consT, F.fYes_d, F.noEx_ok, F.fComp_d, F.wipeF_n, F.wipeF_c, F.comp_nilT, F.comp_consT, gIs_s, gIs_t, Bool.and_true, Bool.true_and, Bool.and_false, Bool.false_and, Bool.or_true, bEq, F.gAdd_i, F.gAdd_t, F.gAdd_s, F.gMul_i, F.gI_i, F.gOrd_i, F.gLt_i, F.gNeg_i, F.gAbs_i, F.gInt_i, F.gTup_l, F.gTup_t, F.gLen_t, F.gLen_l, F.gLen_f, F.gIx_t, F.gIx_f, F.gIx_l, F.at_0, F.at_1, F.at_2, F.at_3, F.gSl_1, List.set_cons_succ, List.set_cons_zero, Option.map_some, Option.map_none, Option.bind_some, if_true, ite_true, ite_false, decide_true, decide_false, Bool.false_eq_true, List.getElem?_cons_zero, List.getElem?_cons_succ, List.nil_append, List.cons_append, List.map_cons, List.map_nil, List.replicate_succ, List.replicate_zero, Bool.or_false, Bool.or_true, Bool.true_or, Bool.false_or, List.length_nil, List.length_cons, Bool.not_true, Bool.not_false, reduceCtorEq, Nat.zero_le, Nat.reduceAdd, Nat.zero_add, true_and, and_true, and_self])
theorem look_put (kvs : List (Key × FV)) (k k' : Key) (v : FV) : lookK (putF kvs k v) k' = if k' = k then some v else lookK kvs k' := by
  unfold lookK F.putF
  induction kvs with
  | nil =>
    by_cases e : k' = k
    · subst e; simp
    · have : ¬ k = k' := fun z => e z.symm
      simp [e, this]
  | cons x l ih =>
    by_cases e : x.1 = k
    · subst e
      by_cases e2 : k' = x.1
      · subst e2; simp
      · have : ¬ x.1 = k' := fun z => e2 z.symm
        have m : (l.map fun kv => if kv.1 = x.1 then (kv.1, v) else kv).find? (fun kv => decide (kv.1 = k')) = l.find? (fun kv => decide (kv.1 = k')) := by
          clear ih
          induction l with
          | nil => rfl
          | cons y l ih =>
            rw [List.map_cons, List.find?_cons, List.find?_cons, ih]
            by_cases e3 : y.1 = x.1
            · have d : decide (y.1 = k') = false := decide_eq_false fun z => e2 (by rw [← z, e3])
              simp only [if_pos e3, d]
            · simp only [if_neg e3]
        simp [this, e2, m]
    · rw [List.any_cons, show decide (x.1 = k) = false from decide_eq_false e, Bool.false_or]
      by_cases hq : (l.any fun kv => decide (kv.1 = k)) = true
      · rw [if_pos hq] at ih ⊢
        rw [List.map_cons, if_neg e, List.find?_cons, List.find?_cons]
        by_cases e2 : x.1 = k'
        · have : ¬ k' = k := fun z => e (by rw [e2, z])
          simp [e2, this]
        · simp only [e2, decide_false]; exact ih
      · rw [if_neg hq] at ih ⊢
        rw [List.cons_append, List.find?_cons, List.find?_cons]
        by_cases e2 : x.1 = k'
        · have : ¬ k' = k := fun z => e (by rw [e2, z])
          simp [e2, this]
        · simp only [e2, decide_false]; exact ih
theorem put_len (kvs : List (Key × FV)) (k : Key) (v : FV) : (putF kvs k v).length ≤ kvs.length + 1 := by
  unfold F.putF
  split
  · rw [List.length_map]; omega
  · rw [List.length_append]; exact Nat.le_refl _
section
variable {h : FH} {m : Md} {sc : List Str} {ρ : Str → Nat} {d e L : Nat}
/-- one more value -/
theorem Ctx.put {x : Str} {i : Nat} (c : Ctx m sc ρ d e L h) (hi : i < m.n) : ∃ kvs, h[e]? = some (.dK kvs) ∧ kvs.length ≤ L ∧ Ctx m (x :: sc) (upd ρ x i) d h.length (L + 1) (h ++ [.dK (putF kvs (.inr x) (.int i))]) := by
  obtain ⟨kvs, e1, e2, e3⟩ := c.ev
  refine ⟨kvs, e1, e2, c.tb.app, ⟨_, app_len h _, Nat.le_trans (put_len _ _ _) (Nat.add_le_add_right e2 1), fun y hy => ?_⟩, fun y hy => ?_⟩
  · rw [look_put]
    by_cases q : y = x
    · subst q; simp [upd]
    · have : ¬ (Sum.inr y : Key) = .inr x := fun z => q (Sum.inr.inj z)
      rw [if_neg this]
      unfold upd
      rw [if_neg q]
      exact e3 y (by simpa [q] using hy)
  · unfold upd
    split
    · exact hi
    · rename_i q
      exact c.bd y (by simpa [q] using hy)
theorem gSet_app {kvs : List (Key × FV)} {x : Str} {v : FV} (l : kvs.length < LIM) : gSet v (.v (.ref h.length)) (.v (.str x)) (h ++ [.dK kvs]) = some (h ++ [.dK (putF kvs (.inr x) v)]) := by
  simp only [gSet, app_len, FV.key]
  rw [if_pos l]
  simp
theorem gDict_r {kvs : List (Key × FV)} (e1 : h[e]? = some (.dK kvs)) : gDict (.v (.ref e)) h = some (.d kvs) := by
  simp only [gDict, RV.dict, e1]
noncomputable def bBody (t : Tab) : FS := (bSeq (sSet 6 (fUn gDict (fVar 3))) (bSeq (sPut (fVar 5) (fVar 6) (fBin gIx (fVar 2) (fC (.int 1)))) (sIf (fCmp (gEq false) (fCall (t.d_law_true) (aCons (fVar 0) (aCons (fVar 1) (aCons (fBin gIx (fVar 2) (fC (.int 2))) (aCons (fVar 6) aNil))))) (fVar 4)) (sRet (fVar 4)) bNil)))
theorem bBody_ok {n : Nat} {w x : Str} {y : FV} {b v : Bool} {i : Int} {x6 : Option FV} {kvs : List (Key × FV)} (e1 : h[e]? = some (.dK kvs)) (l : kvs.length < LIM)
    (ih : (T n).d_law_true [.ref d, .int m.n, y, .ref h.length] (h ++ [.dK (putF kvs (.inr x) (.int i))]) = .ok (.v (.bl v)) (h ++ [.dK (putF kvs (.inr x) (.int i))])) :
    bBody (T n) [some (.ref d), some (.int m.n), some (.tup [.str w, .str x, y]), some (.ref e), some (.bl b), some (.int i), x6] h =
      if v = b then .rt (.v (.bl b)) (h ++ [.dK (putF kvs (.inr x) (.int i))])
      else .nx [some (.ref d), some (.int m.n), some (.tup [.str w, .str x, y]), some (.ref e), some (.bl b), some (.int i), some (.ref h.length)] (h ++ [.dK (putF kvs (.inr x) (.int i))]) := by
  have g1 := gDict_r e1
  have g2 := gSet_app (h := h) (x := x) (v := .int i) l
  unfold bBody
  clear l e1
  cases v with
  | true => cases b with
    | true => and_intros
    | false => and_intros
  | false => cases b with
    | true => and_intros
    | false => and_intros
theorem bLoop {n : Nat} {w x : Str} {y : FV} {b : Bool} {f : Nat → Bool} (c : Ctx m sc ρ d e L h) (l : L < LIM)
    (ih : ∀ (i : Nat) (h' : FH) (e' : Nat), i < m.n → Ctx m (x :: sc) (upd ρ x i) d e' (L + 1) h' → (T n).d_law_true [.ref d, .int m.n, y, .ref e'] h' = .ok (.v (.bl (f i))) h') :
    ∀ (r lo : Nat) (g : FH) (x5 x6 : Option FV), lo + r = m.n →
    ((∃ i, lo ≤ i ∧ i < m.n ∧ f i = b) ∧ ∃ g', loopF (tgN 5) (fun _ => True) (bBody (T n)) (rngL lo r) [some (.ref d), some (.int m.n), some (.tup [.str w, .str x, y]), some (.ref e), some (.bl b), x5, x6] (h ++ g) = .rt (.v (.bl b)) (h ++ g')) ∨
    ((∀ i, lo ≤ i → i < m.n → f i = !b) ∧ ∃ g' y5 y6, loopF (tgN 5) (fun _ => True) (bBody (T n)) (rngL lo r) [some (.ref d), some (.int m.n), some (.tup [.str w, .str x, y]), some (.ref e), some (.bl b), x5, x6] (h ++ g) = .nx [some (.ref d), some (.int m.n), some (.tup [.str w, .str x, y]), some (.ref e), some (.bl b), y5, y6] (h ++ g'))
  | 0, lo, g, x5, x6, hr => .inr ⟨fun i a b => absurd b (by omega), g, x5, x6, loop_nilT⟩
  | r + 1, lo, g, x5, x6, hr => by
    obtain ⟨kvs, e1, e2, c2⟩ := (c.app (g := g)).put (x := x) (i := lo) (by omega)
    have B := bBody_ok (w := w) (x6 := x6) (b := b) e1 (Nat.lt_of_le_of_lt e2 l) (ih lo _ _ (by omega) c2)
    rw [rngL, loop_consT]
    by_cases q : f lo = b
    · refine .inl ⟨⟨lo, Nat.le_refl _, by omega, q⟩, g ++ [.dK (putF kvs (.inr x) (.int lo))], ?_⟩
      rw [if_pos q] at B
      show (bBody (T n) [some (.ref d), some (.int m.n), some (.tup [.str w, .str x, y]), some (.ref e), some (.bl b), some (.int lo), x6] (h ++ g)).turn _ = _
      rw [B, turn_rt, List.append_assoc]
    · rw [if_neg q] at B
      have e3 : ((lo : Nat) : Int) + 1 = ((lo + 1 : Nat) : Int) := by omega
      have B2 : ∀ k, (bBody (T n) [some (.ref d), some (.int m.n), some (.tup [.str w, .str x, y]), some (.ref e), some (.bl b), some (.int lo), x6] (h ++ g)).turn k = k [some (.ref d), some (.int m.n), some (.tup [.str w, .str x, y]), some (.ref e), some (.bl b), some (.int lo), some (.ref (h ++ g).length)] (h ++ (g ++ [.dK (putF kvs (.inr x) (.int lo))])) := fun k => by
        rw [B, turn_nx, List.append_assoc]
      rcases bLoop c l ih r (lo + 1) (g ++ [.dK (putF kvs (.inr x) (.int lo))]) (some (.int lo)) (some (.ref (h ++ g).length)) (by omega) with ⟨⟨i, h1, h2, h3⟩, g', h4⟩ | ⟨h1, g', y5, y6, h4⟩
      · refine .inl ⟨⟨i, by omega, h2, h3⟩, g', ?_⟩
        rw [← e3] at h4
        exact (B2 _).trans h4
      · refine .inr ⟨fun i a b' => ?_, g', y5, y6, ?_⟩
        · by_cases z : i = lo
          · subst z; cases hb : b <;> cases hf : f i <;> simp_all
          · exact h1 i (by omega) b'
        · rw [← e3] at h4
          exact (B2 _).trans h4
theorem qv_some {al : Bool} {n : Nat} {f : Nat → Bool} (h : ∃ i, 0 ≤ i ∧ i < n ∧ f i = !al) : qv al n f = !al := by
  obtain ⟨i, _, h2, h3⟩ := h
  cases al with
  | true =>
    show (List.range n).all f = false
    rw [List.all_eq_false]
    exact ⟨i, List.mem_range.mpr h2, by rw [h3]; decide⟩
  | false =>
    show (List.range n).any f = true
    rw [List.any_eq_true]
    exact ⟨i, List.mem_range.mpr h2, h3⟩
theorem qv_none {al : Bool} {n : Nat} {f : Nat → Bool} (h : ∀ i, 0 ≤ i → i < n → f i = !(!al)) : qv al n f = al := by
  cases al with
  | true =>
    show (List.range n).all f = true
    rw [List.all_eq_true]
    exact fun i hi => h i (Nat.zero_le _) (List.mem_range.mp hi)
  | false =>
    show (List.range n).any f = false
    rw [List.any_eq_false]
    exact fun i hi => by rw [h i (Nat.zero_le _) (List.mem_range.mp hi)]; decide
theorem wqs (al : Bool) : (wq al == ("some" : Str)) = !al := by cases al <;> decide
theorem bound_ok {n : Nat} {al : Bool} {x : Str} {y : FV} {f : Nat → Bool} (ok : m.ok) (c : Ctx m sc ρ d e L h) (l : L < LIM)
    (ih : ∀ (i : Nat) (h' : FH) (e' : Nat), i < m.n → Ctx m (x :: sc) (upd ρ x i) d e' (L + 1) h' → (T n).d_law_true [.ref d, .int m.n, y, .ref e'] h' = .ok (.v (.bl (f i))) h') :
    (T (n + 1)).d_law_bound [.ref d, .int m.n, .tup [.str (wq al), .str x, y], .ref e] h = .ok (.v (.bl (qv al m.n f))) h := by
  rw [T_bound]
  have n3 := ok.n3
  have i1 : -(2 ^ 62) ≤ (m.n : Int) ∧ (m.n : Int) < 2 ^ 62 := by omega
  have e3 : ((m.n : Nat) : Int).toNat = m.n := Int.toNat_natCast _
  have a1 := wqs al
  rcases bLoop (w := wq al) (b := !al) c l ih m.n 0 [] none none (by omega) with ⟨h1, g', h4⟩ | ⟨h1, g', y5, y6, h4⟩
  · rw [qv_some h1]
    rw [List.append_nil] at h4
    refine gc_v (run_rt (r := .v (.bl (!al))) (h' := h ++ g') ?_) (take_app h _) rfl
    unfold b__law_bound
    have h4 : loopF (tgN 5) (fun _ => True) (bSeq (sSet 6 (fUn gDict (fVar 3))) (bSeq (sPut (fVar 5) (fVar 6) (fBin gIx (fVar 2) (fC (.int 1)))) (sIf (fCmp (gEq false) (fCall ((T n).d_law_true) (aCons (fVar 0) (aCons (fVar 1) (aCons (fBin gIx (fVar 2) (fC (.int 2))) (aCons (fVar 6) aNil))))) (fVar 4)) (sRet (fVar 4)) bNil))) (rngL 0 m.n) [some (.ref d), some (.int m.n), some (.tup [.str (wq al), .str x, y]), some (.ref e), some (.bl !al), none, none] h = .rt (.v (.bl !al)) (h ++ g') := h4
    clear ih c l h1 n3
    and_intros
  · rw [qv_none h1]
    rw [List.append_nil] at h4
    have bb : (!(!al)) = al := Bool.not_not al
    refine gc_v (run_rt (r := .v (.bl al)) (h' := h ++ g') ?_) (take_app h _) rfl
    unfold b__law_bound
    have h4 : loopF (tgN 5) (fun _ => True) (bSeq (sSet 6 (fUn gDict (fVar 3))) (bSeq (sPut (fVar 5) (fVar 6) (fBin gIx (fVar 2) (fC (.int 1)))) (sIf (fCmp (gEq false) (fCall ((T n).d_law_true) (aCons (fVar 0) (aCons (fVar 1) (aCons (fBin gIx (fVar 2) (fC (.int 2))) (aCons (fVar 6) aNil))))) (fVar 4)) (sRet (fVar 4)) bNil))) (rngL 0 m.n) [some (.ref d), some (.int m.n), some (.tup [.str (wq al), .str x, y]), some (.ref e), some (.bl !al), none, none] h = .nx [some (.ref d), some (.int m.n), some (.tup [.str (wq al), .str x, y]), some (.ref e), some (.bl !al), y5, y6] (h ++ g') := h4
    clear ih c l h1 n3
    and_intros
end
end K15

namespace K15
open PySem PySem.Spec PyProof.Rows L2 F
local macro_rules | `(tactic| and_intros) => `(tactic| simp only [*, F.dat_s, F.dat_i, F.dat_b, F.gEq_s, F.gEq_i, F.gEq_b, F.gIn_2, F.lims, F.bind_ok', F.bind_no', F.bind_ex', F.lift_some, F.lift_none, F.liftP_some, F.sg_z, F.sg_s, F.fVar_d, F.fC_d, F.fBin_d, F.fUn_d, F.fCmp_d, F.fBl_d, F.fTst_d, F.fNot_d, F.fAnd_d, F.fOr_d, F.fAndV_d, F.fOrV_d, F.fNotV_d, F.fIfE_d, F.aNil_d, F.toV_v, F.toV_l, F.toV_d', F.toV_no, F.toV_ex, F.aCons_d, F.fTup_d, F.fLst_d, F.fD0_d, F.oNone_d, F.oSome_d, F.fSl_d, F.fCall_d, F.fMt_d, F.dNil_d, F.dCons_d, F.fDis_d, F.bNil_d, F.bSeq_d, F.seq_nx, F.seq_rt, F.seq_bk, F.seq_ct, F.seq_ex, F.seq_no, F.onE_ok, F.onE_ex, F.onE_no, F.sSet_d, F.sExpr_d, F.sRet_d, F.sRetN_d, F.sIf_d, F.sBreak_d, F.sCont_d, F.sPut_d, F.sPar_d, F.sAsgT_d, F.sFor_d, F.tgN_d, F.tgT_d, F.tgNil_d, F.tgCons_d, F.iR1_d, F.iR2_d, F.iSeq_d, F.turn_nx, F.turn_ct, F.turn_bk, F.turn_rt, F.turn_ex, F.turn_no, F.loop_nilT, F.loop_consT, F.fYes_d, F.noEx_ok, F.fComp_d, F.wipeF_n, F.wipeF_c, F.comp_nilT, F.comp_consT, gIs_s, gIs_t, Bool.and_true, Bool.true_and, Bool.and_false, Bool.false_and, Bool.or_true, bEq, F.gAdd_i, F.gAdd_t, F.gAdd_s, F.gMul_i, F.gI_i, F.gOrd_i, F.gLt_i, F.gNeg_i, F.gAbs_i, F.gInt_i, F.gTup_l, F.gTup_t, F.gLen_t, F.gLen_l, F.gLen_f, F.gIx_t, F.gIx_f, F.gIx_l, F.at_0, F.at_1, F.at_2, F.at_3, F.gSl_1, List.set_cons_succ, List.set_cons_zero, Option.map_some, Option.map_none, Option.bind_some, if_true, ite_true, ite_false, decide_true, decide_false, Bool.false_eq_true, List.getElem?_cons_zero, List.getElem?_cons_succ, List.nil_append, List.cons_append, List.map_cons, List.map_nil, List.replicate_succ, List.replicate_zero, Bool.or_false, Bool.or_true, Bool.true_or, Bool.false_or, List.length_nil, List.length_cons, Bool.not_true, Bool.not_false, reduceCtorEq, Nat.zero_le, Nat.reduceAdd, Nat.zero_add, true_and, and_true, and_self])
theorem gIn_q (al : Bool) (h : FH) : gIn false (.v (.str (wq al))) (.v (.tup [.str "all", .str "some"])) h = some true := by
  rw [gIn_2]; cases al <;> rfl
theorem wq_x (al : Bool) : (wq al == ("holds" : Str)) = false ∧ (wq al == ("same" : Str)) = false ∧ (wq al == ("not" : Str)) = false := by cases al <;> decide
theorem true_ok {m : Md} {d : Nat} (ok : m.ok) : ∀ (s : S) (k : Nat) (sc : List Str) (ρ : Str → Nat) (e L : Nat) (h : FH), Ctx m sc ρ d e L h → s.sc sc → 2 * s.dep + 3 ≤ k → L + s.dep < LIM →
    (T k).d_law_true [.ref d, .int m.n, s.fv, .ref e] h = .ok (.v (.bl (s.val m ρ))) h
  | .bas b, k, sc, ρ, e, L, h, c, hs, hk, hl => by
    obtain ⟨k, rfl⟩ : ∃ k', k = k' + 3 := ⟨k - 3, by omega⟩
    exact basic_ok ok c k b hs
  | .neg s, k, sc, ρ, e, L, h, c, hs, hk, hl => by
    simp only [S.dep] at hk hl
    obtain ⟨k, rfl⟩ : ∃ k', k = k' + 1 := ⟨k - 1, by omega⟩
    have ih := true_ok ok s k sc ρ e L h c hs (by omega) (by omega)
    have a1 := w_eq
    rw [T_true]
    refine gc_v (run_rt (r := .v (.bl (!s.val m ρ))) (h' := h) ?_) (take_self h) rfl
    unfold b__law_true
    simp only [fv_neg]
    clear c hs hk hl
    and_intros
  | .q al x s, k, sc, ρ, e, L, h, c, hs, hk, hl => by
    simp only [S.dep] at hk hl
    obtain ⟨k, rfl⟩ : ∃ k', k = k' + 2 := ⟨k - 2, by omega⟩
    have B := bound_ok (n := k) (al := al) (x := x) (y := s.fv) (f := fun i => s.val m (upd ρ x i)) ok c (by omega) (fun i h' e' hi c' => true_ok ok s k (x :: sc) _ e' (L + 1) h' c' hs (by omega) (by omega))
    have a1 := gIn_q al h
    have a2 := wq_x al
    rw [T_true]
    refine gc_v (run_rt (r := .v (.bl (qv al m.n fun i => s.val m (upd ρ x i)))) (h' := h) ?_) (take_self h) rfl
    unfold b__law_true
    simp only [fv_q]
    clear c hs hk hl
    and_intros
  | .cj an l r, k, sc, ρ, e, L, h, c, hs, hk, hl => by
    simp only [S.dep] at hk hl
    obtain ⟨k, rfl⟩ : ∃ k', k = k' + 1 := ⟨k - 1, by omega⟩
    have ih := true_ok ok l k sc ρ e L h c hs.1 (by omega) (by omega)
    have ih2 := true_ok ok r k sc ρ e L h c hs.2 (by omega) (by omega)
    have a1 := w_eq
    rw [T_true]
    rw [S.val]
    generalize l.val m ρ = a at ih ⊢
    generalize r.val m ρ = b at ih2 ⊢
    refine gc_v (run_rt (r := .v (.bl (if an then a && b else a || b))) (h' := h) ?_) (take_self h) rfl
    unfold b__law_true
    simp only [fv_cj]
    clear c hs hk hl
    cases an with
    | true => simp only [wc_t]; cases a with
      | true => and_intros
      | false => and_intros
    | false => simp only [wc_f]; cases a with
      | true => and_intros
      | false => and_intros
  | .imp l r, k, sc, ρ, e, L, h, c, hs, hk, hl => by
    simp only [S.dep] at hk hl
    obtain ⟨k, rfl⟩ : ∃ k', k = k' + 1 := ⟨k - 1, by omega⟩
    have ih := true_ok ok l k sc ρ e L h c hs.1 (by omega) (by omega)
    have ih2 := true_ok ok r k sc ρ e L h c hs.2 (by omega) (by omega)
    have a1 := w_eq
    rw [T_true]
    rw [S.val]
    generalize l.val m ρ = a at ih ⊢
    generalize r.val m ρ = b at ih2 ⊢
    refine gc_v (run_rt (r := .v (.bl (!a || b))) (h' := h) ?_) (take_self h) rfl
    unfold b__law_true
    simp only [fv_imp]
    clear c hs hk hl
    cases a with
      | true => and_intros
      | false => and_intros
  | .iff l r, k, sc, ρ, e, L, h, c, hs, hk, hl => by
    simp only [S.dep] at hk hl
    obtain ⟨k, rfl⟩ : ∃ k', k = k' + 1 := ⟨k - 1, by omega⟩
    have ih := true_ok ok l k sc ρ e L h c hs.1 (by omega) (by omega)
    have ih2 := true_ok ok r k sc ρ e L h c hs.2 (by omega) (by omega)
    have a1 := w_eq
    rw [T_true]
    rw [S.val]
    generalize l.val m ρ = a at ih ⊢
    generalize r.val m ρ = b at ih2 ⊢
    refine gc_v (run_rt (r := .v (.bl (a == b))) (h' := h) ?_) (take_self h) rfl
    unfold b__law_true
    simp only [fv_iff]
    clear c hs hk hl
    cases a with
      | true => and_intros
      | false => and_intros
end K15

namespace K15
open PySem PySem.Spec PyProof.Rows L2 F
local macro_rules | `(tactic| and_intros) => `(tactic| simp only [*, F.dat_s, F.dat_i, F.dat_b, F.gEq_s, F.gEq_i, F.gEq_b, F.gIn_2, F.lims, F.bind_ok', F.bind_no', F.bind_ex', F.lift_some, F.lift_none, F.liftP_some, F.sg_z, F.sg_s, F.fVar_d, F.fC_d, F.fBin_d, F.fUn_d, F.fCmp_d, F.fBl_d, F.fTst_d, F.fNot_d, F.fAnd_d, F.fOr_d, F.fAndV_d, F.fOrV_d, F.fNotV_d, F.fIfE_d, F.aNil_d, F.toV_v, F.toV_l, F.toV_d', F.toV_no, F.toV_ex, F.aCons_d, F.fTup_d, F.fLst_d, F.fD0_d, F.oNone_d, F.oSome_d, F.fSl_d, F.fCall_d, F.fMt_d, F.dNil_d, F.dCons_d, F.fDis_d, F.bNil_d, F.bSeq_d, F.seq_nx, F.seq_rt, F.seq_bk, F.seq_ct, F.seq_ex, F.seq_no, F.onE_ok, F.onE_ex, F.onE_no, F.sSet_d, F.sExpr_d, F.sRet_d, F.sRetN_d, F.sIf_d, F.sBreak_d, F.sCont_d, F.sPut_d, F.sPar_d, F.sAsgT_d, F.sFor_d, F.tgN_d, F.tgT_d, F.tgNil_d, F.tgCons_d, F.iR1_d, F.iR2_d, F.iSeq_d, F.turn_nx, F.turn_ct, F.turn_bk, F.turn_rt, F.turn_ex, F.turn_no, F.loop_nilT, F.loop_consT, F.fYes_d, F.noEx_ok, F.fComp_d, F.wipeF_n, F.wipeF_c, F.comp_nilT, F.comp_consT, gIs_s, gIs_t, Bool.and_true, Bool.true_and, Bool.and_false, Bool.false_and, Bool.or_true, bEq, F.gAdd_i, F.gAdd_t, F.gAdd_s, F.gMul_i, F.gI_i, F.gOrd_i, F.gLt_i, F.gNeg_i, F.gAbs_i, F.gInt_i, F.gTup_l, F.gTup_t, F.gLen_t, F.gLen_l, F.gLen_f, F.gIx_t, F.gIx_f, F.gIx_l, F.at_0, F.at_1, F.at_2, F.at_3, F.gSl_1, List.set_cons_succ, List.set_cons_zero, Option.map_some, Option.map_none, Option.bind_some, if_true, ite_true, ite_false, decide_true, decide_false, Bool.false_eq_true, List.getElem?_cons_zero, List.getElem?_cons_succ, List.nil_append, List.cons_append, List.map_cons, List.map_nil, List.replicate_succ, List.replicate_zero, Bool.or_false, Bool.or_true, Bool.true_or, Bool.false_or, List.length_nil, List.length_cons, Bool.not_true, Bool.not_false, reduceCtorEq, Nat.zero_le, Nat.reduceAdd, Nat.zero_add, true_and, and_true, and_self])
/-! ### drawing -/
theorem T_take (n : Nat) : (T (n + 1)).d_law_take = runF 2 2 cTake := rfl
theorem T_term (n : Nat) : (T (n + 1)).d_law_term = runF 2 1 (b__law_term (T n)) := rfl
theorem T_basic (n : Nat) : (T (n + 1)).d_law_basic = runF 2 1 (b__law_basic (T n)) := rfl
theorem T_sent (n : Nat) : (T (n + 1)).d_law_sentence = runF 3 5 (b__law_sentence (T n)) := rfl
theorem tk (n : Nat) (s : DS) (r : FH) (k : Nat) (hk : 0 < k) (ha : s.at' < 2 ^ 60) : ∃ i : Nat, i < k ∧ (T (n + 1)).d_law_take [.ref 1, .int k] (mk s r) = .ok (.v (.int i)) (mk s.next r) := by
  obtain ⟨i, h1, h2⟩ := take_ok s r k hk ha
  refine ⟨i, h1, ?_⟩
  rw [T_take]
  exact run_rt h2
theorem mk_at (s : DS) (r : FH) (j : Nat) : (mk s r)[j + 2]? = r[j]? := rfl
theorem zt {i k : Nat} (e : i = k) : (((i : Nat) : Int) == (k : Int)) = true := by subst e; exact beq_self_eq_true _
theorem zf {i k : Nat} (e : i ≠ k) : (((i : Nat) : Int) == (k : Int)) = false := by rw [beq_eq_false_iff_ne]; omega
section
variable {s : DS} {r : FH} {j : Nat} {sc : List Str}
theorem len_sc : (sc.map FV.str).length = sc.length := List.length_map _
theorem at_sc {i : Nat} (hi : i < sc.length) : atI (sc.map FV.str) i = some (.str sc[i]) := atI_nat (by rw [List.getElem?_map, List.getElem?_eq_getElem hi]; rfl)
theorem term_ok (n : Nat) (hj : r[j]? = some (.lst (sc.map .str))) (hs : 0 < sc.length) (ha : s.at' + 2 < 2 ^ 60) : ∃ (t : Te) (s' : DS), t.sc sc ∧ s'.at' ≤ s.at' + 2 ∧ (T (n + 2)).d_law_term [.ref 1, .ref (j + 2)] (mk s r) = .ok (.v t.fv) (mk s' r) := by
  obtain ⟨i, hi, e1⟩ := tk n s r 4 (by decide) (by omega)
  have e1 : (T (n + 1)).d_law_take [.ref 1, .int 4] (mk s r) = .ok (.v (.int i)) (mk s.next r) := e1
  rw [T_term]
  by_cases h0 : i = 0
  · refine ⟨.a, s.next, trivial, Nat.add_le_add_left (by decide) _, run_rt ?_⟩
    have z0 : (((i : Nat) : Int) == 0) = true := zt h0
    unfold b__law_term
    simp only [Te.fv]
    clear hi h0 hj hs ha
    and_intros
  · have z0 : (((i : Nat) : Int) == 0) = false := zf h0
    obtain ⟨l, hl, e2⟩ := tk n s.next r sc.length hs (by show s.at' + 1 < _; omega)
    have g1 := gLen_r (h := mk s.next r) (m := j + 2) (ds := sc.map .str) hj
    have g2 := gIx_rl (h := mk s.next.next r) (m := j + 2) (ds := sc.map .str) hj
    have g3 := at_sc hl
    have g4 := len_sc (sc := sc)
    by_cases h1 : i = 1
    · have z1 : (((i : Nat) : Int) == 1) = true := zt h1
      refine ⟨.f sc[l], s.next.next, List.getElem_mem hl, Nat.le_refl _, run_rt ?_⟩
      unfold b__law_term
      simp only [Te.fv]
      clear hi h0 h1 hj hs ha
      and_intros
    · have z1 : (((i : Nat) : Int) == 1) = false := zf h1
      refine ⟨.v sc[l], s.next.next, List.getElem_mem hl, Nat.le_refl _, run_rt ?_⟩
      unfold b__law_term
      simp only [Te.fv]
      clear hi h0 h1 hj hs ha
      and_intros
theorem basicD_ok (n : Nat) (hj : r[j]? = some (.lst (sc.map .str))) (hs : 0 < sc.length) (ha : s.at' + 5 < 2 ^ 60) : ∃ (t : Ba) (s' : DS), t.sc sc ∧ s'.at' ≤ s.at' + 5 ∧ (T (n + 3)).d_law_basic [.ref 1, .ref (j + 2)] (mk s r) = .ok (.v t.fv) (mk s' r) := by
  obtain ⟨i, hi, e1⟩ := tk (n + 1) s r 4 (by decide) (by omega)
  have e1 : (T (n + 2)).d_law_take [.ref 1, .int 4] (mk s r) = .ok (.v (.int i)) (mk s.next r) := e1
  have q1 : s.next.at' = s.at' + 1 := rfl
  obtain ⟨t1, s1, t1s, a1, e2⟩ := term_ok (s := s.next) n hj hs (by omega)
  obtain ⟨t2, s2, t2s, a2, e3⟩ := term_ok (s := s1) n hj hs (by omega)
  rw [T_basic]
  by_cases h0 : i = 0
  · refine ⟨.same t1 t2, s2, ⟨t1s, t2s⟩, by omega, run_rt ?_⟩
    have z0 : (((i : Nat) : Int) == 0) = true := zt h0
    unfold b__law_basic
    simp only [Ba.fv, Ba.w, Ba.tl]
    clear hi h0 hj hs ha q1 t1s t2s a1 a2
    and_intros
  · have z0 : (((i : Nat) : Int) == 0) = false := zf h0
    by_cases h1 : i = 1
    · have z1 : (((i : Nat) : Int) == 1) = true := zt h1
      refine ⟨.rr t1 t2, s2, ⟨t1s, t2s⟩, by omega, run_rt ?_⟩
      unfold b__law_basic
      simp only [Ba.fv, Ba.w, Ba.tl]
      clear hi h0 h1 hj hs ha q1 t1s t2s a1 a2
      and_intros
    · have z1 : (((i : Nat) : Int) == 1) = false := zf h1
      by_cases h2 : i = 2
      · have z2 : (((i : Nat) : Int) == 2) = true := zt h2
        refine ⟨.p t1, s1, t1s, by omega, run_rt ?_⟩
        unfold b__law_basic
        simp only [Ba.fv, Ba.w, Ba.tl]
        clear hi h0 h1 h2 hj hs ha q1 t1s t2s a1 a2 e3
        and_intros
      · have z2 : (((i : Nat) : Int) == 2) = false := zf h2
        refine ⟨.q, s.next, trivial, by omega, run_rt ?_⟩
        unfold b__law_basic
        simp only [Ba.fv, Ba.w, Ba.tl]
        clear hi h0 h1 h2 hj hs ha q1 t1s t2s a1 a2 e2 e3
        and_intros
end
theorem Te.sc_mono {a b : List Str} (h : ∀ x, x ∈ a → x ∈ b) : ∀ t : Te, t.sc a → t.sc b
  | .v x, q => h x q
  | .a, _ => trivial
  | .f x, q => h x q
theorem Ba.sc_mono {a b : List Str} (h : ∀ x, x ∈ a → x ∈ b) : ∀ t : Ba, t.sc a → t.sc b
  | .same l r, w => ⟨l.sc_mono h w.1, r.sc_mono h w.2⟩
  | .rr l r, w => ⟨l.sc_mono h w.1, r.sc_mono h w.2⟩
  | .p t, w => Te.sc_mono h t w
  | .q, _ => trivial
theorem S.sc_mono : ∀ (s : S) {a b : List Str} (h : ∀ x, x ∈ a → x ∈ b), s.sc a → s.sc b
  | .bas t, _, _, h, w => Ba.sc_mono h t w
  | .neg s, _, _, h, w => S.sc_mono s h w
  | .q al x s, a, b, h, w => S.sc_mono s (a := x :: a) (b := x :: b) (fun y hy => by
      rcases List.mem_cons.mp hy with e | e
      · exact List.mem_cons.mpr (.inl e)
      · exact List.mem_cons.mpr (.inr (h y e))) w
  | .cj _ l r, _, _, h, w => ⟨S.sc_mono l h w.1, S.sc_mono r h w.2⟩
  | .imp l r, _, _, h, w => ⟨S.sc_mono l h w.1, S.sc_mono r h w.2⟩
  | .iff l r, _, _, h, w => ⟨S.sc_mono l h w.1, S.sc_mono r h w.2⟩
/-! a list without a text -/
theorem comp_cons' {i : Nat} {ok : FH → Prop} {h : FH} {t : FT} {fe : FE} {Γ0 : Sl} {d : FV} {ds : List FV} (o : ok h) : compF (tgN i) ok t fe Γ0 (d :: ds) h = (noEx (t (Γ0.set i (some d)) h)).bind fun b h1 => if b = true then (noEx (toV (fe (Γ0.set i (some d)) h1))).bind fun v h2 => (compF (tgN i) ok t fe Γ0 ds h2).bind fun vs h3 => .ok (v :: vs) h3 else compF (tgN i) ok t fe Γ0 ds h1 := by
  rw [compF, if_pos o]; rfl
theorem comp_nil' {g : FG} {ok : FH → Prop} {h : FH} {t : FT} {fe : FE} {Γ0 : Sl} (o : ok h) : compF g ok t fe Γ0 [] h = .ok [] h := by unfold compF; rw [if_pos o]
theorem comp_ne {ok : FH → Prop} {h : FH} (o : ok h) (x : Str) {a b c d e f : Option FV} : ∀ (sc : List Str), compF (tgN 7) ok (fCmp (gEq true) (fVar 7) (fVar 4)) (fVar 7) [a, b, c, d, some (.str x), e, f, none] (sc.map FV.str) h = .ok ((sc.filter fun y => !(y == x)).map FV.str) h
  | [] => comp_nil' o
  | y :: sc => by
    rw [List.map_cons, comp_cons' o, List.filter_cons]
    have ih := comp_ne o x (a := a) (b := b) (c := c) (d := d) (e := e) (f := f) sc
    cases q : (y == x) with
    | true => and_intros
    | false => and_intros
end K15

namespace K15
open PySem PySem.Spec PyProof.Rows L2 F
local macro_rules | `(tactic| and_intros) => `(tactic| simp only [*, F.dat_s, F.dat_i, F.dat_b, F.gEq_s, F.gEq_i, F.gEq_b, F.gIn_2, F.lims, F.bind_ok', F.bind_no', F.bind_ex', F.lift_some, F.lift_none, F.liftP_some, F.sg_z, F.sg_s, F.fVar_d, F.fC_d, F.fBin_d, F.fUn_d, F.fCmp_d, F.fBl_d, F.fTst_d, F.fNot_d, F.fAnd_d, F.fOr_d, F.fAndV_d, F.fOrV_d, F.fNotV_d, F.fIfE_d, F.aNil_d, F.toV_v, F.toV_l, F.toV_d', F.toV_no, F.toV_ex, F.aCons_d, F.fTup_d, F.fLst_d, F.fD0_d, F.oNone_d, F.oSome_d, F.fSl_d, F.fCall_d, F.fMt_d, F.dNil_d, F.dCons_d, F.fDis_d, F.bNil_d, F.bSeq_d, F.seq_nx, F.seq_rt, F.seq_bk, F.seq_ct, F.seq_ex, F.seq_no, F.onE_ok, F.onE_ex, F.onE_no, F.sSet_d, F.sExpr_d, F.sRet_d, F.sRetN_d, F.sIf_d, F.sBreak_d, F.sCont_d, F.sPut_d, F.sPar_d, F.sAsgT_d, F.sFor_d, F.tgN_d, F.tgT_d, F.tgNil_d, F.tgCons_d, F.iR1_d, F.iR2_d, F.iSeq_d, F.turn_nx, F.turn_ct, F.turn_bk, F.turn_rt, F.turn_ex, F.turn_no, F.loop_nilT, F.loop_consT, F.fYes_d, F.noEx_ok, F.fComp_d, F.wipeF_n, F.wipeF_c, F.comp_nilT, F.comp_consT, gIs_s, gIs_t, Bool.and_true, Bool.true_and, Bool.and_false, Bool.false_and, Bool.or_true, bEq, F.gAdd_i, F.gAdd_t, F.gAdd_s, F.gMul_i, F.gI_i, F.gOrd_i, F.gLt_i, F.gNeg_i, F.gAbs_i, F.gInt_i, F.gTup_l, F.gTup_t, F.gLen_t, F.gLen_l, F.gLen_f, F.gIx_t, F.gIx_f, F.gIx_l, F.at_0, F.at_1, F.at_2, F.at_3, F.gSl_1, List.set_cons_succ, List.set_cons_zero, Option.map_some, Option.map_none, Option.bind_some, if_true, ite_true, ite_false, decide_true, decide_false, Bool.false_eq_true, List.getElem?_cons_zero, List.getElem?_cons_succ, List.nil_append, List.cons_append, List.map_cons, List.map_nil, List.replicate_succ, List.replicate_zero, Bool.or_false, Bool.or_true, Bool.true_or, Bool.false_or, List.length_nil, List.length_cons, Bool.not_true, Bool.not_false, reduceCtorEq, Nat.zero_le, Nat.reduceAdd, Nat.zero_add, true_and, and_true, and_self])
theorem gAdd_l (a b : List FV) (h : FH) : gAdd (.l a) (.l b) h = if a.length + b.length ≤ LIM then some (.l (a ++ b)) else none := (rfl)
theorem mk_len (s : DS) (r : FH) : (mk s r).length = r.length + 2 := (rfl)
theorem mk_app (s : DS) (r g : FH) : mk s r ++ g = mk s (r ++ g) := (rfl)
def pick5 (i : Nat) : Str := if i = 0 then "and" else if i = 1 then "or" else if i = 2 then "implies" else "iff"
theorem at5 {i : Nat} (hi : i < 5) : atI [FV.str "and", .str "or", .str "implies", .str "iff", .str "iff"] i = some (.str (pick5 i)) := by
  match i, hi with
  | 0, _ => exact atI_nat rfl
  | 1, _ => exact atI_nat rfl
  | 2, _ => exact atI_nat rfl
  | 3, _ => exact atI_nat rfl
  | 4, _ => exact atI_nat rfl
def mk5 (i : Nat) (l r : S) : S := if i = 0 then .cj true l r else if i = 1 then .cj false l r else if i = 2 then .imp l r else .iff l r
theorem mk5_fv (i : Nat) (l r : S) : (mk5 i l r).fv = .tup [.str (pick5 i), l.fv, r.fv] := by
  unfold mk5 pick5
  split
  · rfl
  · split
    · rfl
    · split <;> rfl
theorem mk5_dep (i : Nat) (l r : S) : (mk5 i l r).dep ≤ 2 + max l.dep r.dep := by
  unfold mk5
  split
  · simp only [S.dep]; omega
  · split
    · simp only [S.dep]; omega
    · split <;> simp only [S.dep] <;> omega
theorem mk5_sc (i : Nat) (l r : S) (sc : List Str) (h1 : l.sc sc) (h2 : r.sc sc) : (mk5 i l r).sc sc := by
  unfold mk5
  split
  · exact ⟨h1, h2⟩
  · split
    · exact ⟨h1, h2⟩
    · split <;> exact ⟨h1, h2⟩
theorem at3 {i : Nat} (hi : i < 3) : ∃ x : Str, atI [FV.str "x", .str "y", .str "z"] i = some (.str x) := by
  match i, hi with
  | 0, _ => exact ⟨_, atI_nat rfl⟩
  | 1, _ => exact ⟨_, atI_nat rfl⟩
  | 2, _ => exact ⟨_, atI_nat rfl⟩
theorem at2 {i : Nat} (hi : i < 2) : ∃ al : Bool, atI [FV.str "all", .str "some"] i = some (.str (wq al)) := by
  match i, hi with
  | 0, _ => exact ⟨true, atI_nat rfl⟩
  | 1, _ => exact ⟨false, atI_nat rfl⟩
theorem iSeq_r {h : FH} {m : Nat} {ds : List FV} {fa : FE} {Γ : Sl} (e : fa Γ h = .ok (.v (.ref m)) h) (e2 : h[m]? = some (.lst ds)) : iSeq fa Γ h = .ok ⟨ds, fun h' => h'[m]? = some (.lst ds)⟩ h := by
  rw [iSeq_d, e, bind_ok']
  dsimp only
  rw [e2]
def cost (D : Nat) : Nat := 9 * 2 ^ D - 3
theorem cost_s (D : Nat) : cost (D + 1) = 2 * cost D + 3 := by
  have : 1 ≤ 2 ^ D := Nat.one_le_two_pow
  unfold cost; rw [Nat.pow_succ]; omega
theorem cost_6 (D : Nat) : 6 ≤ cost D := by
  have : 1 ≤ 2 ^ D := Nat.one_le_two_pow
  unfold cost; omega
theorem sent_ok : ∀ (D n : Nat) (s : DS) (r : FH) (j : Nat) (sc : List Str), r[j]? = some (.lst (sc.map .str)) → 0 < sc.length → sc.length + D < 1000 → s.at' + cost D < 2 ^ 60 →
    ∃ (S' : S) (s' : DS) (g : FH), S'.sc sc ∧ S'.dep ≤ 2 * D ∧ s'.at' ≤ s.at' + cost D ∧ (T (n + D + 4)).d_law_sentence [.ref 1, .ref (j + 2), .int D] (mk s r) = .ok (.v S'.fv) (mk s' (r ++ g))
  | D, n, s, r, j, sc, hj, hs, hl, ha => by
    have c6 := cost_6 D
    obtain ⟨i, hi, e1⟩ := tk (n + D + 2) s r 10 (by decide) (by omega)
    have e1 : (T (n + D + 3)).d_law_take [.ref 1, .int 10] (mk s r) = .ok (.v (.int i)) (mk s.next r) := e1
    have q1 : s.next.at' = s.at' + 1 := rfl
    rw [T_sent]
    by_cases h0 : D = 0 ∨ i = 0
    · obtain ⟨t, s', a1, a2, a3⟩ := basicD_ok (s := s.next) (n + D) hj hs (by omega)
      refine ⟨.bas t, s', [], a1, Nat.zero_le _, by omega, ?_⟩
      rw [List.append_nil]
      refine run_rt ?_
      unfold b__law_sentence
      by_cases hD : D = 0
      · have z : (((D : Nat) : Int) == 0) = true := zt hD
        show _ = RsS.rt (.v t.fv) _
        clear c6 hi q1 h0 a1 a2 hD hj hs hl ha
        and_intros
      · have z : (((D : Nat) : Int) == 0) = false := zf hD
        have z2 : (((i : Nat) : Int) == 0) = true := zt (h0.resolve_left hD)
        show _ = RsS.rt (.v t.fv) _
        clear c6 hi q1 h0 a1 a2 hD hj hs hl ha
        and_intros
    · obtain ⟨hD, hi0⟩ := not_or.mp h0
      obtain ⟨D, rfl⟩ : ∃ D', D = D' + 1 := ⟨D - 1, by omega⟩
      have cs := cost_s D
      have zD : (((D + 1 : Nat) : Int) == 0) = false := zf hD
      have zi : (((i : Nat) : Int) == 0) = false := zf hi0
      have em : (((D + 1 : Nat) : Int) - 1) = (D : Int) := by omega
      by_cases h3 : i < 3
      · obtain ⟨S1, s', g, a1, a2, a3, a4⟩ := sent_ok D n s.next r j sc hj hs (by omega) (by omega)
        have a4 : (T (n + (D + 1) + 3)).d_law_sentence [.ref 1, .ref (j + 2), .int D] (mk s.next r) = .ok (.v S1.fv) (mk s' (r ++ g)) := by
          rw [show n + (D + 1) + 3 = n + D + 4 by omega]; exact a4
        refine ⟨.neg S1, s', g, a1, by simp only [S.dep]; omega, by omega, run_rt ?_⟩
        have l3 : decide (((i : Nat) : Int) < 3) = true := decide_eq_true (by omega)
        unfold b__law_sentence
        simp only [fv_neg]
        clear c6 hi q1 h0 a1 a2 a3 hD hj hs hl ha hi0 cs h3
        and_intros
      · have l3 : decide (((i : Nat) : Int) < 3) = false := decide_eq_false (by omega)
        by_cases h5 : i < 5
        · have l5 : decide (((i : Nat) : Int) < 5) = true := decide_eq_true (by omega)
          obtain ⟨i2, hi2, e2⟩ := tk (n + D + 3) s.next r 3 (by decide) (by omega)
          have e2 : (T (n + (D + 1) + 3)).d_law_take [.ref 1, .int 3] (mk s.next r) = .ok (.v (.int i2)) (mk s.next.next r) := by
            rw [show n + (D + 1) + 3 = n + D + 3 + 1 by omega]; exact e2
          obtain ⟨x, hx⟩ := at3 hi2
          have sq : (mk s.next.next r)[j + 2]? = some (.lst (sc.map .str)) := hj
          have cp := comp_ne (h := mk s.next.next r) (ok := fun h' => h'[j + 2]? = some (.lst (sc.map .str))) hj x (a := some (.ref 1)) (b := some (.ref (j + 2))) (c := some (.int ((D + 1 : Nat) : Int))) (d := some (.int i)) (e := none) (f := none) sc
          generalize hsc : (sc.filter fun y => !(y == x)) ++ [x] = sc2
          have fl : (sc.filter fun y => !(y == x)).length ≤ sc.length := List.length_filter_le _ _
          have ls : sc2.length ≤ sc.length + 1 := by rw [← hsc, List.length_append]; exact Nat.add_le_add_right fl 1
          have lp : 0 < sc2.length := by rw [← hsc, List.length_append]; exact Nat.succ_pos _
          have ad : gAdd (.l ((sc.filter fun y => !(y == x)).map FV.str)) (.l [.str x]) (mk s.next.next r) = some (.l (sc2.map .str)) := by
            rw [gAdd_l, if_pos, ← hsc, List.map_append]
            · rfl
            · rw [List.length_map, lim_eq]; show _ + 1 ≤ _; omega
          obtain ⟨i3, hi3, e3⟩ := tk (n + D + 3) s.next.next (r ++ [.lst (sc2.map .str)]) 2 (by decide) (by show s.at' + 1 + 1 < _; omega)
          have e3 : (T (n + (D + 1) + 3)).d_law_take [.ref 1, .int 2] (mk s.next.next (r ++ [.lst (sc2.map .str)])) = .ok (.v (.int i3)) (mk s.next.next.next (r ++ [.lst (sc2.map .str)])) := by
            rw [show n + (D + 1) + 3 = n + D + 3 + 1 by omega]; exact e3
          obtain ⟨al, hal⟩ := at2 hi3
          have q3 : s.next.next.next.at' = s.at' + 3 := rfl
          obtain ⟨S1, s', g, a1, a2, a3, a4⟩ := sent_ok D n s.next.next.next (r ++ [.lst (sc2.map .str)]) r.length sc2 (app_len r _) lp (by omega) (by omega)
          have a4 : (T (n + (D + 1) + 3)).d_law_sentence [.ref 1, .ref (r.length + 2), .int D] (mk s.next.next.next (r ++ [.lst (sc2.map .str)])) = .ok (.v S1.fv) (mk s' (r ++ [.lst (sc2.map .str)] ++ g)) := by
            rw [show n + (D + 1) + 3 = n + D + 4 by omega]; exact a4
          refine ⟨.q al x S1, s', [.lst (sc2.map .str)] ++ g, S.sc_mono S1 (fun y hy => ?_) a1, by simp only [S.dep]; omega, by omega, run_rt ?_⟩
          · rw [← hsc] at hy
            rcases List.mem_append.mp hy with z | z
            · exact List.mem_cons_of_mem _ (List.mem_filter.mp z).1
            · exact List.mem_cons.mpr (.inl (List.mem_singleton.mp z))
          have lmm : (sc.map FV.str).length ≤ LIM := by rw [List.length_map, lim_eq]; omega
          have lx : mk s.next.next r ++ [.lst (sc2.map .str)] = mk s.next.next (r ++ [.lst (sc2.map .str)]) := rfl
          have ln := mk_len s.next.next r
          unfold b__law_sentence
          rw [← List.append_assoc]
          simp only [fv_q]
          clear c6 hi q1 h0 a1 a2 a3 hD hj hs hl ha hi0 cs h3 h5 hi2 hi3 hsc fl ls lp q3
          and_intros
        · have l5 : decide (((i : Nat) : Int) < 5) = false := decide_eq_false (by omega)
          obtain ⟨k, rfl⟩ : ∃ k, i = k + 5 := ⟨i - 5, by omega⟩
          have ek : (((k + 5 : Nat) : Int) - 5) = (k : Int) := by omega
          have a5 := at5 (i := k) (by omega)
          obtain ⟨S1, s1, g1, a1, a2, a3, a4⟩ := sent_ok D n s.next r j sc hj hs (by omega) (by omega)
          have a4 : (T (n + (D + 1) + 3)).d_law_sentence [.ref 1, .ref (j + 2), .int D] (mk s.next r) = .ok (.v S1.fv) (mk s1 (r ++ g1)) := by
            rw [show n + (D + 1) + 3 = n + D + 4 by omega]; exact a4
          obtain ⟨S2, s2, g2, b1, b2, b3, b4⟩ := sent_ok D n s1 (r ++ g1) j sc (app_at hj) hs (by omega) (by omega)
          have b4 : (T (n + (D + 1) + 3)).d_law_sentence [.ref 1, .ref (j + 2), .int D] (mk s1 (r ++ g1)) = .ok (.v S2.fv) (mk s2 (r ++ g1 ++ g2)) := by
            rw [show n + (D + 1) + 3 = n + D + 4 by omega]; exact b4
          have d5 := mk5_dep k S1 S2
          refine ⟨mk5 k S1 S2, s2, g1 ++ g2, mk5_sc k S1 S2 sc a1 b1, by omega, by omega, run_rt ?_⟩
          unfold b__law_sentence
          rw [← List.append_assoc, mk5_fv]
          clear c6 hi q1 h0 a1 a2 a3 b1 b2 b3 hD hj hs hl ha hi0 cs h3 h5 d5
          and_intros
end K15

namespace K15
open PySem PySem.Spec PyProof.Rows L2 F
local macro_rules | `(tactic| and_intros) => `(tactic| simp only [*, F.dat_s, F.dat_i, F.dat_b, F.gEq_s, F.gEq_i, F.gEq_b, F.gIn_2, F.lims, F.bind_ok', F.bind_no', F.bind_ex', F.lift_some, F.lift_none, F.liftP_some, F.sg_z, F.sg_s, F.fVar_d, F.fC_d, F.fBin_d, F.fUn_d, F.fCmp_d, F.fBl_d, F.fTst_d, F.fNot_d, F.fAnd_d, F.fOr_d, F.fAndV_d, F.fOrV_d, F.fNotV_d, F.fIfE_d, F.aNil_d, F.toV_v, F.toV_l, F.toV_d', F.toV_no, F.toV_ex, F.aCons_d, F.fTup_d, F.fLst_d, F.fD0_d, F.oNone_d, F.oSome_d, F.fSl_d, F.fCall_d, F.fMt_d, F.dNil_d, F.dCons_d, F.fDis_d, F.bNil_d, F.bSeq_d, F.seq_nx, F.seq_rt, F.seq_bk, F.seq_ct, F.seq_ex, F.seq_no, F.onE_ok, F.onE_ex, F.onE_no, F.sSet_d, F.sExpr_d, F.sRet_d, F.sRetN_d, F.sIf_d, F.sBreak_d, F.sCont_d, F.sPut_d, F.sPar_d, F.sAsgT_d, F.sFor_d, F.tgN_d, F.tgT_d, F.tgNil_d, F.tgCons_d, F.iR1_d, F.iR2_d, F.iSeq_d, F.turn_nx, F.turn_ct, F.turn_bk, F.turn_rt, F.turn_ex, F.turn_no, F.loop_nilT, F.loop_consT, F.fYes_d, F.noEx_ok, F.fComp_d, F.wipeF_n, F.wipeF_c, F.comp_nilT, F.comp_consT, gIs_s, gIs_t, Bool.and_true, Bool.true_and, Bool.and_false, Bool.false_and, Bool.or_true, bEq, F.gAdd_i, F.gAdd_t, F.gAdd_s, F.gMul_i, F.gI_i, F.gOrd_i, F.gLt_i, F.gNeg_i, F.gAbs_i, F.gInt_i, F.gTup_l, F.gTup_t, F.gLen_t, F.gLen_l, F.gLen_f, F.gIx_t, F.gIx_f, F.gIx_l, F.at_0, F.at_1, F.at_2, F.at_3, F.gSl_1, List.set_cons_succ, List.set_cons_zero, Option.map_some, Option.map_none, Option.bind_some, if_true, ite_true, ite_false, decide_true, decide_false, Bool.false_eq_true, List.getElem?_cons_zero, List.getElem?_cons_succ, List.nil_append, List.cons_append, List.map_cons, List.map_nil, List.replicate_succ, List.replicate_zero, Bool.or_false, Bool.or_true, Bool.true_or, Bool.false_or, List.length_nil, List.length_cons, Bool.not_true, Bool.not_false, reduceCtorEq, Nat.zero_le, Nat.reduceAdd, Nat.zero_add, true_and, and_true, and_self])
/-! ### depth -/
theorem Te.deep : ∀ t : Te, t.fv.py.depth ≤ 1
  | .v x => by simp [Te.fv, FV.py, PyData.depth]
  | .a => by simp [Te.fv, FV.py, FV.pys, PyData.depth, PyData.depthAll]
  | .f x => by simp [Te.fv, FV.py, FV.pys, PyData.depth, PyData.depthAll]
theorem Ba.deep (b : Ba) : b.fv.py.depth ≤ 3 := by
  cases b with
  | same l r => have := l.deep; have := r.deep; simp only [Ba.fv, Ba.tl, FV.py, FV.pys, PyData.depth, PyData.depthAll]; omega
  | rr l r => have := l.deep; have := r.deep; simp only [Ba.fv, Ba.tl, FV.py, FV.pys, PyData.depth, PyData.depthAll]; omega
  | p l => have := l.deep; simp only [Ba.fv, Ba.tl, FV.py, FV.pys, PyData.depth, PyData.depthAll]; omega
  | q => simp only [Ba.fv, Ba.tl, FV.py, FV.pys, PyData.depth, PyData.depthAll]; omega
theorem S.deep : ∀ s : S, s.fv.py.depth ≤ s.dep + 3
  | .bas b => by have := b.deep; rw [show (S.bas b).fv = b.fv from rfl]; simp only [S.dep]; omega
  | .neg s => by have := s.deep; simp only [fv_neg, S.dep, FV.py, FV.pys, PyData.depth, PyData.depthAll]; omega
  | .q al x s => by have := s.deep; simp only [fv_q, S.dep, FV.py, FV.pys, PyData.depth, PyData.depthAll]; omega
  | .cj an l r => by have := l.deep; have := r.deep; simp only [fv_cj, S.dep, FV.py, FV.pys, PyData.depth, PyData.depthAll]; omega
  | .imp l r => by have := l.deep; have := r.deep; simp only [fv_imp, S.dep, FV.py, FV.pys, PyData.depth, PyData.depthAll]; omega
  | .iff l r => by have := l.deep; have := r.deep; simp only [fv_iff, S.dep, FV.py, FV.pys, PyData.depth, PyData.depthAll]; omega
/-! ### the rows of things -/
def ρ2 (i j : Nat) : Str → Nat := fun z => if z = "x" then i else j
theorem merge_xy (a b : FV) : mergeF [] [(.inr "x", a), (.inr "y", b)] = [(.inr "x", a), (.inr "y", b)] := rfl
theorem Ctx.xy {m : Md} {d : Nat} {h : FH} {i j : Nat} (t : Tb m d h) (hi : i < m.n) (hj : j < m.n) : Ctx m ["x", "y"] (ρ2 i j) d h.length 2 (h ++ [.dK [(.inr "x", .int i), (.inr "y", .int j)]]) := by
  refine ⟨t.app, ⟨_, app_len h _, Nat.le_refl _, fun y hy => ?_⟩, fun y hy => ?_⟩
  · rcases List.mem_cons.mp hy with z | z
    · subst z; rfl
    · rw [List.mem_singleton] at z; subst z; rfl
  · unfold ρ2; split
    · exact hi
    · exact hj
noncomputable def iBody (t : Tab) : FS := (bSeq (sSet 11 (fDis (dCons (fC (.str "x")) (fVar 9) (dCons (fC (.str "y")) (fVar 10) dNil)))) (bSeq (sSet 12 (fCall (t.d_law_true) (aCons (fVar 4) (aCons (fVar 2) (aCons (fVar 5) (aCons (fVar 11) aNil)))))) (bSeq (sIf (fCmp (gEq true) (fCall (t.d_law_true) (aCons (fVar 4) (aCons (fVar 2) (aCons (fVar 7) (aCons (fVar 11) aNil))))) (fVar 12)) (sRet (fC (.bl false))) bNil) (sIf (fCmp (gEq false) (fCall (t.d_law_true) (aCons (fVar 4) (aCons (fVar 2) (aCons (fVar 8) (aCons (fVar 11) aNil))))) (fVar 12)) (sRet (fC (.bl false))) bNil))))
noncomputable def lawTail (t : Tab) : FS := (bSeq (sSet 6 (fCall (t.d_law_formed) (aCons (fVar 5) aNil))) (bSeq (sSet 7 (fCall (t.d_negation_form) (aCons (fVar 5) aNil))) (bSeq (sSet 8 (fCall (t.d_negation_form) (aCons (fTup (aCons (fC (.str "not")) (aCons (fVar 5) aNil))) aNil))) (bSeq (sIf (fOr (fCmp (gEq true) (fVar 7) (fVar 6)) (fCmp (gEq true) (fVar 8) (fCall (t.d_law_opposite) (aCons (fVar 6) aNil)))) (sRet (fC (.bl false))) bNil) (bSeq (sIf (fOr (fNot (fTst (fCall (t.d_law_shaped) (aCons (fVar 7) aNil)))) (fOr (fNot (fTst (fCall (t.d_law_shaped) (aCons (fVar 8) aNil)))) (fCmp (gEq true) (fCall (t.d_negation_form) (aCons (fVar 7) aNil)) (fVar 6)))) (sRet (fC (.bl false))) bNil) (bSeq (sFor (tgN 9) (iR1 (fVar 2)) (sFor (tgN 10) (iR1 (fVar 2)) (iBody t))) (sRet (fC (.bl true)))))))))
section
variable {m : Md} {h : FH} {d n : Nat} {s : S} {y0 y1 y3 y13 : Option FV}
abbrev Gm (y0 y1 : Option FV) (N : Nat) (y3 : Option FV) (d : Nat) (s : S) (y9 y10 y11 y12 y13 : Option FV) : Sl := [y0, y1, some (.int N), y3, some (.ref d), some s.fv, some (form s true).fv, some (form s true).fv, some (form s false).fv, y9, y10, y11, y12, y13]
theorem iBody_ok (ok : m.ok) (t : Tb m d h) (hs : s.sc ["x", "y"]) (hd : s.dep ≤ 8) (hn : 21 ≤ n) {i j : Nat} (hi : i < m.n) (hj : j < m.n) (y11 y12) :
    ∃ z12 o, iBody (T n) (Gm y0 y1 m.n y3 d s (some (.int i)) (some (.int j)) y11 y12 y13) h = .nx (Gm y0 y1 m.n y3 d s (some (.int i)) (some (.int j)) (some (.ref h.length)) z12 y13) (h ++ [o]) := by
  have c := Ctx.xy t hi hj
  have d1 := form_dep s true
  have d2 := form_dep s false
  have lim := lim_eq
  have t1 := true_ok ok s n _ _ _ _ _ c hs (by omega) (by omega)
  have t2 := true_ok ok (form s true) n _ _ _ _ _ c (form_sc s true _ hs) (by omega) (by omega)
  have t3 := true_ok ok (form s false) n _ _ _ _ _ c (form_sc s false _ hs) (by omega) (by omega)
  rw [form_val] at t2 t3
  have mm := merge_xy (.int i) (.int j)
  have k1 : FV.key (.str "x") = some (.inr "x") := rfl
  have k2 : FV.key (.str "y") = some (.inr "y") := rfl
  generalize s.val m (ρ2 i j) = v at t1 t2 t3
  refine ⟨some (.bl v), .dK [(.inr "x", .int i), (.inr "y", .int j)], ?_⟩
  unfold iBody Gm
  have r15 : 0 + 1 + 1 ≤ 15 := by decide
  clear c d1 d2 hs hd hn hi hj t lim
  cases v with
  | true => and_intros
  | false => and_intros
theorem iLoop (ok : m.ok) (t : Tb m d h) (hs : s.sc ["x", "y"]) (hd : s.dep ≤ 8) (hn : 21 ≤ n) {i : Nat} (hi : i < m.n) : ∀ (r lo : Nat) (g : FH) (y10 y11 y12), lo + r = m.n →
    ∃ g' z10 z11 z12, loopF (tgN 10) (fun _ => True) (iBody (T n)) (rngL lo r) (Gm y0 y1 m.n y3 d s (some (.int i)) y10 y11 y12 y13) (h ++ g) = .nx (Gm y0 y1 m.n y3 d s (some (.int i)) z10 z11 z12 y13) (h ++ g')
  | 0, lo, g, y10, y11, y12, _ => ⟨g, y10, y11, y12, loop_nilT⟩
  | r + 1, lo, g, y10, y11, y12, hr => by
    obtain ⟨z12, o, B⟩ := iBody_ok (y0 := y0) (y1 := y1) (y3 := y3) (y13 := y13) ok (t.app (g := g)) hs hd hn hi (j := lo) (by omega) y11 y12
    obtain ⟨g', w10, w11, w12, R⟩ := iLoop ok t hs hd hn hi r (lo + 1) (g ++ [o]) (some (.int lo)) (some (.ref (h ++ g).length)) z12 (by omega)
    refine ⟨g', w10, w11, w12, ?_⟩
    rw [rngL, loop_consT]
    have e3 : ((lo : Nat) : Int) + 1 = ((lo + 1 : Nat) : Int) := by omega
    show (iBody (T n) (Gm y0 y1 m.n y3 d s (some (.int i)) (some (.int lo)) y11 y12 y13) (h ++ g)).turn _ = _
    rw [B, turn_nx, e3, List.append_assoc, R]
theorem oLoop (ok : m.ok) (t : Tb m d h) (hs : s.sc ["x", "y"]) (hd : s.dep ≤ 8) (hn : 21 ≤ n) : ∀ (r lo : Nat) (g : FH) (y9 y10 y11 y12), lo + r = m.n →
    ∃ g' z9 z10 z11 z12, loopF (tgN 9) (fun _ => True) (sFor (tgN 10) (iR1 (fVar 2)) (iBody (T n))) (rngL lo r) (Gm y0 y1 m.n y3 d s y9 y10 y11 y12 y13) (h ++ g) = .nx (Gm y0 y1 m.n y3 d s z9 z10 z11 z12 y13) (h ++ g')
  | 0, lo, g, y9, y10, y11, y12, _ => ⟨g, y9, y10, y11, y12, loop_nilT⟩
  | r + 1, lo, g, y9, y10, y11, y12, hr => by
    obtain ⟨g1, w10, w11, w12, B⟩ := iLoop (y0 := y0) (y1 := y1) (y3 := y3) (y13 := y13) ok t hs hd hn (i := lo) (by omega) m.n 0 g y10 y11 y12 (by omega)
    obtain ⟨g', v9, v10, v11, v12, R⟩ := oLoop ok t hs hd hn r (lo + 1) g1 (some (.int lo)) w10 w11 w12 (by omega)
    refine ⟨g', v9, v10, v11, v12, ?_⟩
    rw [rngL, loop_consT]
    have n3 := ok.n3
    have i1 : -(2 ^ 62) ≤ (m.n : Int) ∧ (m.n : Int) < 2 ^ 62 := by omega
    have e4 : ((m.n : Nat) : Int).toNat = m.n := Int.toNat_natCast _
    have e3 : ((lo : Nat) : Int) + 1 = ((lo + 1 : Nat) : Int) := by omega
    have B2 : sFor (tgN 10) (iR1 (fVar 2)) (iBody (T n)) (Gm y0 y1 m.n y3 d s (some (.int lo)) y10 y11 y12 y13) (h ++ g) = .nx (Gm y0 y1 m.n y3 d s (some (.int lo)) w10 w11 w12 y13) (h ++ g1) := by
      have B : loopF (tgN 10) (fun _ => True) (iBody (T n)) (rngL 0 m.n) (Gm y0 y1 m.n y3 d s (some (.int lo)) y10 y11 y12 y13) (h ++ g) = .nx (Gm y0 y1 m.n y3 d s (some (.int lo)) w10 w11 w12 y13) (h ++ g1) := B
      unfold Gm at B ⊢
      clear R n3 ok t hs hd hn hr
      and_intros
    show (sFor (tgN 10) (iR1 (fVar 2)) (iBody (T n)) (Gm y0 y1 m.n y3 d s (some (.int lo)) y10 y11 y12 y13) (h ++ g)).turn _ = _
    rw [B2, turn_nx, e3, R]
theorem tail_ok (ok : m.ok) (t : Tb m d h) (hs : s.sc ["x", "y"]) (hd : s.dep ≤ 8) (hn : 30 ≤ n) (y6 y7 y8 y9 y10 y11 y12) : ∃ h', lawTail (T n) [y0, y1, some (.int m.n), y3, some (.ref d), some s.fv, y6, y7, y8, y9, y10, y11, y12, y13] h = .rt (.v (.bl true)) h' := by
  obtain ⟨n, rfl⟩ : ∃ n', n = n' + 1 := ⟨n - 1, by omega⟩
  obtain ⟨g', v9, v10, v11, v12, R⟩ := oLoop (y0 := y0) (y1 := y1) (y3 := y3) (y13 := y13) ok t hs hd (n := n + 1) (by omega) m.n 0 [] y9 y10 y11 y12 (by omega)
  refine ⟨h ++ g', ?_⟩
  rw [List.append_nil] at R
  have n3 := ok.n3
  have i1 : -(2 ^ 62) ≤ (m.n : Int) ∧ (m.n : Int) < 2 ^ 62 := by omega
  have e4 : ((m.n : Nat) : Int).toNat = m.n := Int.toNat_natCast _
  have d1 := form_dep s true
  have d2 := form_dep s false
  have f1 := formed_ok s (n + 1) h (by omega)
  have f2 := nf_ok s n h (by omega)
  have f3 : (T (n + 1)).d_negation_form [.tup [.str "not", s.fv]] h = .ok (.v (form s false).fv) h := nf_ok (.neg s) n h (by simp only [S.dep]; omega)
  have f4 := opp_ok (form s true) (n + 1) h (form_nnf s true) (by omega)
  rw [form_opp] at f4
  have f4 : (T (n + 1)).d_law_opposite [(form s true).fv] h = .ok (.v (form s false).fv) h := f4
  have f5 := shaped_ok (form s true) (n + 1) h (form_nnf s true) (by omega)
  have f6 := shaped_ok (form s false) (n + 1) h (form_nnf s false) (by omega)
  have f7 := nf_ok (form s true) n h (by omega)
  rw [form_id _ (form_nnf s true)] at f7
  have p1 := (form s true).deep
  have p2 := (form s false).deep
  have q1 : gEq true (.v (form s true).fv) (.v (form s true).fv) h = some false := gEq_same (neg := true) (S.sto _) (by omega)
  have q2 : gEq true (.v (form s false).fv) (.v (form s false).fv) h = some false := gEq_same (neg := true) (S.sto _) (by omega)
  have R : loopF (tgN 9) (fun _ => True) (sFor (tgN 10) (iR1 (fVar 2)) (iBody (T (n + 1)))) (rngL 0 m.n) (Gm y0 y1 m.n y3 d s y9 y10 y11 y12 y13) h = .nx (Gm y0 y1 m.n y3 d s v9 v10 v11 v12 y13) (h ++ g') := R
  unfold Gm at R
  unfold lawTail
  clear p1 p2 d1 d2 n3 ok t hs hd hn
  generalize iBody (T (n + 1)) = ib at R ⊢
  rw [bSeq_d, sSet_d]
  have sf : ∀ Γ h, sFor (tgN 10) (iR1 (fVar 2)) ib Γ h = sFor (tgN 10) (iR1 (fVar 2)) ib Γ h := fun _ _ => rfl
  generalize sFor (tgN 10) (iR1 (fVar 2)) ib = ob at R ⊢
  clear sf
  and_intros
end
end K15

namespace K15
open PySem PySem.Spec PyProof.Rows L2 F
local macro_rules | `(tactic| and_intros) => `(tactic| simp (maxSteps := 3000000) only [*, F.dat_s, F.dat_i, F.dat_b, F.gEq_s, F.gEq_i, F.gEq_b, F.gIn_2, F.lims, F.bind_ok', F.bind_no', F.bind_ex', F.lift_some, F.lift_none, F.liftP_some, F.sg_z, F.sg_s, F.fVar_d, F.fC_d, F.fBin_d, F.fUn_d, F.fCmp_d, F.fBl_d, F.fTst_d, F.fNot_d, F.fAnd_d, F.fOr_d, F.fAndV_d, F.fOrV_d, F.fNotV_d, F.fIfE_d, F.aNil_d, F.toV_v, F.toV_l, F.toV_d', F.toV_no, F.toV_ex, F.aCons_d, F.fTup_d, F.fLst_d, F.fD0_d, F.oNone_d, F.oSome_d, F.fSl_d, F.fCall_d, F.fMt_d, F.dNil_d, F.dCons_d, F.fDis_d, F.bNil_d, F.bSeq_d, F.seq_nx, F.seq_rt, F.seq_bk, F.seq_ct, F.seq_ex, F.seq_no, F.onE_ok, F.onE_ex, F.onE_no, F.sSet_d, F.sExpr_d, F.sRet_d, F.sRetN_d, F.sIf_d, F.sBreak_d, F.sCont_d, F.sPut_d, F.sPar_d, F.sAsgT_d, F.sFor_d, F.tgN_d, F.tgT_d, F.tgNil_d, F.tgCons_d, F.iR1_d, F.iR2_d, F.iSeq_d, F.turn_nx, F.turn_ct, F.turn_bk, F.turn_rt, F.turn_ex, F.turn_no, F.loop_nilT, F.loop_consT, F.fYes_d, F.noEx_ok, F.fComp_d, F.wipeF_n, F.wipeF_c, F.comp_nilT, F.comp_consT, gIs_s, gIs_t, Bool.and_true, Bool.true_and, Bool.and_false, Bool.false_and, Bool.or_true, bEq, mk_app, mk_len, F.gAdd_i, F.gAdd_t, F.gAdd_s, F.gMul_i, F.gI_i, F.gOrd_i, F.gLt_i, F.gNeg_i, F.gAbs_i, F.gInt_i, F.gTup_l, F.gTup_t, F.gLen_t, F.gLen_l, F.gLen_f, F.gIx_t, F.gIx_f, F.gIx_l, F.at_0, F.at_1, F.at_2, F.at_3, F.gSl_1, List.set_cons_succ, List.set_cons_zero, Option.map_some, Option.map_none, Option.bind_some, if_true, ite_true, ite_false, decide_true, decide_false, Bool.false_eq_true, List.getElem?_cons_zero, List.getElem?_cons_succ, List.nil_append, List.cons_append, List.map_cons, List.map_nil, List.replicate_succ, List.replicate_zero, Bool.or_false, Bool.or_true, Bool.true_or, Bool.false_or, List.length_nil, List.length_cons, Bool.not_true, Bool.not_false, reduceCtorEq, Nat.zero_le, Nat.reduceAdd, Nat.zero_add, true_and, and_true, and_self])
/-! ### the law -/
section
variable {n : Nat} {g : FH} {x0 x2 x3 x4 x5 x6 x7 x8 x9 x10 x11 x12 x13 : Option FV}
theorem compN (N : Nat) (hN : 0 < N) : ∀ (r : Nat) (lo : Int) (s : DS), s.at' + r < 2 ^ 60 → ∃ (xs : List Nat) (s' : DS), xs.length = r ∧ (∀ x, x ∈ xs → x < N) ∧ s'.at' = s.at' + r ∧
    compF (tgN 13) (fun _ => True) fYes (fCall ((T (n + 1)).d_law_take) (aCons (fVar 1) (aCons (fVar 2) aNil))) [x0, some (.ref 1), some (.int N), x3, x4, x5, x6, x7, x8, x9, x10, x11, x12, x13] (rngL lo r) (mk s g) = .ok (xs.map fun x : Nat => FV.int (x : Int)) (mk s' g)
  | 0, lo, s, _ => ⟨[], s, rfl, fun _ h => absurd h (List.not_mem_nil), rfl, comp_nilT⟩
  | r + 1, lo, s, h => by
    obtain ⟨i, h1, h2⟩ := tk n s g N hN (by omega)
    obtain ⟨xs, s', a1, a2, a3, a4⟩ := compN N hN r (lo + 1) s.next (by show s.at' + 1 + r < _; omega)
    refine ⟨i :: xs, s', by rw [List.length_cons, a1], fun x hx => ?_, by rw [a3]; show s.at' + 1 + r = _; omega, ?_⟩
    · rcases List.mem_cons.mp hx with e | e
      · rw [e]; exact h1
      · exact a2 x e
    · rw [rngL]
      clear a1 a2 a3 h1 h hN
      and_intros
theorem compB : ∀ (r : Nat) (lo : Int) (s : DS), s.at' + r < 2 ^ 60 → ∃ (xs : List Bool) (s' : DS), xs.length = r ∧ s'.at' = s.at' + r ∧
    compF (tgN 13) (fun _ => True) fYes (fBl (fCmp (gEq false) (fCall ((T (n + 1)).d_law_take) (aCons (fVar 1) (aCons (fC (.int 2)) aNil))) (fC (.int 1)))) [x0, some (.ref 1), x2, x3, x4, x5, x6, x7, x8, x9, x10, x11, x12, x13] (rngL lo r) (mk s g) = .ok (xs.map FV.bl) (mk s' g)
  | 0, lo, s, _ => ⟨[], s, rfl, rfl, comp_nilT⟩
  | r + 1, lo, s, h => by
    obtain ⟨i, h1, h2⟩ := tk n s g 2 (by decide) (by omega)
    have h2 : (T (n + 1)).d_law_take [.ref 1, .int 2] (mk s g) = .ok (.v (.int i)) (mk s.next g) := h2
    obtain ⟨xs, s', a1, a3, a4⟩ := compB r (lo + 1) s.next (by show s.at' + 1 + r < _; omega)
    refine ⟨((i : Int) == 1) :: xs, s', by rw [List.length_cons, a1], by rw [a3]; show s.at' + 1 + r = _; omega, ?_⟩
    rw [rngL]
    clear a1 a3 h1 h
    and_intros
end

theorem gSet_mk {s : DS} {o0 o1 : FO} {kv : List (Key × FV)} {k : Str} {v : FV} {t : FH} (l : kv.length < LIM) : gSet v (.v (.ref 4)) (.v (.str k)) (mk s (o0 :: o1 :: .dK kv :: t)) = some (mk s (o0 :: o1 :: .dK (F.putF kv (.inr k) v) :: t)) := by
  show (if kv.length < LIM then _ else _) = _
  rw [if_pos l]; rfl
theorem merge_aQ (a b : FV) : mergeF [] [(.inr "a", a), (.inr "Q", b)] = [(.inr "a", a), (.inr "Q", b)] := rfl
theorem put3 (a q f : Nat) : F.putF [(.inr "a", .ref a), (.inr "Q", .ref q)] (.inr "f") (.ref f) = [(.inr "a", .ref a), (.inr "Q", .ref q), (.inr "f", .ref f)] := rfl
theorem put4 (a q f p : Nat) : F.putF [(.inr "a", .ref a), (.inr "Q", .ref q), (.inr "f", .ref f)] (.inr "P") (.ref p) = [(.inr "a", .ref a), (.inr "Q", .ref q), (.inr "f", .ref f), (.inr "P", .ref p)] := rfl
theorem put5 (a q f p r : Nat) : F.putF [(.inr "a", .ref a), (.inr "Q", .ref q), (.inr "f", .ref f), (.inr "P", .ref p)] (.inr "R") (.ref r) = Md.kvs a q f p r := rfl
noncomputable def lawHead (t : Tab) (u : FS) : FS := (bSeq (sSet 1 (fCall (t.d_law_start) (aCons (fVar 0) aNil))) (bSeq (sSet 2 (fBin gAdd (fC (.int 1)) (fCall (t.d_law_take) (aCons (fVar 1) (aCons (fC (.int 3)) aNil))))) (bSeq (sSet 3 (fBin gAdd (fC (.int 1)) (fCall (t.d_law_take) (aCons (fVar 1) (aCons (fC (.int 4)) aNil))))) (bSeq (sSet 4 (fDis (dCons (fC (.str "a")) (fLst (aCons (fCall (t.d_law_take) (aCons (fVar 1) (aCons (fVar 2) aNil))) aNil)) (dCons (fC (.str "Q")) (fLst (aCons (fBl (fCmp (gEq false) (fCall (t.d_law_take) (aCons (fVar 1) (aCons (fC (.int 2)) aNil))) (fC (.int 1)))) aNil)) dNil)))) (bSeq (sPut (fComp (iR1 (fVar 2)) (tgN 13) [13] fYes (fCall (t.d_law_take) (aCons (fVar 1) (aCons (fVar 2) aNil)))) (fVar 4) (fC (.str "f"))) (bSeq (sPut (fComp (iR1 (fVar 2)) (tgN 13) [13] fYes (fBl (fCmp (gEq false) (fCall (t.d_law_take) (aCons (fVar 1) (aCons (fC (.int 2)) aNil))) (fC (.int 1))))) (fVar 4) (fC (.str "P"))) (bSeq (sPut (fComp (iR1 (fBin gMul (fVar 2) (fVar 2))) (tgN 13) [13] fYes (fBl (fCmp (gEq false) (fCall (t.d_law_take) (aCons (fVar 1) (aCons (fC (.int 2)) aNil))) (fC (.int 1))))) (fVar 4) (fC (.str "R"))) (bSeq (sSet 5 (fCall (t.d_law_sentence) (aCons (fVar 1) (aCons (fLst (aCons (fC (.str "x")) (aCons (fC (.str "y")) aNil))) (aCons (fVar 3) aNil))))) u))))))))
theorem law_eq (t : Tab) : b_law t = lawHead t (lawTail t) := rfl
theorem T_law (n : Nat) : (T (n + 1)).d_law = runF 1 13 (b_law (T n)) := rfl
theorem T_start (n : Nat) : (T (n + 1)).d_law_start = runF 1 6 cStart := rfl
theorem start (n : Nat) (ns : List Int) (hns : ns.length ≤ 63) : ∃ (row : List Int) (sd : Int), (T (n + 1)).d_law_start [.fl (ns.map .int)] [] = .ok (.l [.ref 0, .int 0, .int sd]) [.lst (row.map .int)] := by
  obtain ⟨row, sd, e⟩ := start_ok ns hns
  refine ⟨row, sd, ?_⟩
  rw [T_start]
  exact run_rt e
theorem law_true (ns : List Int) (hns : ns.length ≤ 63) : ∃ h', (T 200).d_law [.fl (ns.map .int)] [] = .ok (.v (.bl true)) h' := by
  rw [T_law 199, law_eq]
  obtain ⟨row, sd, es⟩ := start 198 ns hns
  replace es : (T 199).d_law_start [.fl (ns.map .int)] [] = .ok (.l [.ref 0, .int 0, .int sd]) [.lst (row.map .int)] := es
  obtain ⟨s0, hs0⟩ : ∃ s0 : DS, s0 = ⟨row, 0, sd⟩ := ⟨_, rfl⟩
  have hm : ([FO.lst (row.map .int), .lst [.ref 0, .int 0, .int sd]] : FH) = mk s0 [] := by rw [hs0]; rfl
  have b0 : s0.at' = 0 := by rw [hs0]
  obtain ⟨i1, hi1, t1⟩ := tk 198 s0 [] 3 (by decide) (by omega)
  replace t1 : (T 199).d_law_take [.ref 1, .int 3] (mk s0 []) = .ok (.v (.int i1)) (mk s0.next []) := t1
  generalize hs1 : s0.next = s1 at t1
  have b1 : s1.at' = 1 := by rw [← hs1]; show s0.at' + 1 = 1; omega
  obtain ⟨N, hN⟩ : ∃ N, N = i1 + 1 := ⟨_, rfl⟩
  have z1 : (1 : Int) + (i1 : Int) = (N : Int) := by omega
  obtain ⟨i2, hi2, t2⟩ := tk 198 s1 [] 4 (by decide) (by omega)
  replace t2 : (T 199).d_law_take [.ref 1, .int 4] (mk s1 []) = .ok (.v (.int i2)) (mk s1.next []) := t2
  generalize hs2 : s1.next = s2 at t2
  have b2 : s2.at' = 2 := by rw [← hs2]; show s1.at' + 1 = 2; omega
  obtain ⟨D, hD⟩ : ∃ D, D = i2 + 1 := ⟨_, rfl⟩
  have z2 : (1 : Int) + (i2 : Int) = (D : Int) := by omega
  obtain ⟨a, ha, t3⟩ := tk 198 s2 [] N (by omega) (by omega)
  replace t3 : (T 199).d_law_take [.ref 1, .int N] (mk s2 []) = .ok (.v (.int a)) (mk s2.next []) := t3
  generalize hs3 : s2.next = s3 at t3
  have b3 : s3.at' = 3 := by rw [← hs3]; show s2.at' + 1 = 3; omega
  obtain ⟨i4, hi4, t4⟩ := tk 198 s3 [.lst [.int a]] 2 (by decide) (by omega)
  replace t4 : (T 199).d_law_take [.ref 1, .int 2] (mk s3 [.lst [.int a]]) = .ok (.v (.int i4)) (mk s3.next [.lst [.int a]]) := t4
  generalize hs4 : s3.next = s4 at t4
  have b4 : s4.at' = 4 := by rw [← hs4]; show s3.at' + 1 = 4; omega
  obtain ⟨q, hq⟩ : ∃ q, q = ((i4 : Int) == 1) := ⟨_, rfl⟩
  replace hq := hq.symm
  obtain ⟨fs, s5, l5, k5, b5, c5⟩ := compN (n := 198) (g := [.lst [.int a], .lst [.bl q], .dK [(.inr "a", .ref 2), (.inr "Q", .ref 3)]]) (x0 := some (.fl (ns.map .int))) (x3 := some (.int D)) (x4 := some (.ref 4)) (x5 := none) (x6 := none) (x7 := none) (x8 := none) (x9 := none) (x10 := none) (x11 := none) (x12 := none) (x13 := none) N (by omega) N 0 s4 (by omega)
  obtain ⟨ps, s6, l6, b6, c6⟩ := compB (n := 198) (g := [.lst [.int a], .lst [.bl q], .dK [(.inr "a", .ref 2), (.inr "Q", .ref 3), (.inr "f", .ref 5)], .lst (fs.map fun x : Nat => FV.int (x : Int))]) (x0 := some (.fl (ns.map .int))) (x2 := some (.int N)) (x3 := some (.int D)) (x4 := some (.ref 4)) (x5 := none) (x6 := none) (x7 := none) (x8 := none) (x9 := none) (x10 := none) (x11 := none) (x12 := none) (x13 := none) N 0 s5 (by omega)
  have nn : N * N ≤ 9 := Nat.le_trans (Nat.mul_le_mul (show N ≤ 3 by omega) (show N ≤ 3 by omega)) (by decide)
  obtain ⟨rs, s7, l7, b7, c7⟩ := compB (n := 198) (g := [.lst [.int a], .lst [.bl q], .dK [(.inr "a", .ref 2), (.inr "Q", .ref 3), (.inr "f", .ref 5), (.inr "P", .ref 6)], .lst (fs.map fun x : Nat => FV.int (x : Int)), .lst (ps.map .bl)]) (x0 := some (.fl (ns.map .int))) (x2 := some (.int N)) (x3 := some (.int D)) (x4 := some (.ref 4)) (x5 := none) (x6 := none) (x7 := none) (x8 := none) (x9 := none) (x10 := none) (x11 := none) (x12 := none) (x13 := none) (N * N) 0 s6 (by omega)
  have cD : cost D ≤ 9 * 2 ^ 4 := Nat.le_trans (Nat.sub_le _ _) (Nat.mul_le_mul_left _ (Nat.pow_le_pow_right (by decide) (by omega)))
  obtain ⟨S', s8, g, a1, a2, a3, a4⟩ := sent_ok D (195 - D) s7 [.lst [.int a], .lst [.bl q], .dK (Md.kvs 2 3 5 6 7), .lst (fs.map fun x : Nat => FV.int (x : Int)), .lst (ps.map .bl), .lst (rs.map .bl), .lst [.str "x", .str "y"]] 6 ["x", "y"] rfl (by decide) (by show 2 + D < 1000; omega) (by omega)
  rw [show 195 - D + D + 4 = 199 by omega] at a4
  replace a4 : (T 199).d_law_sentence [.ref 1, .ref 8, .int D] (mk s7 [.lst [.int a], .lst [.bl q], .dK (Md.kvs 2 3 5 6 7), .lst (fs.map fun x : Nat => FV.int (x : Int)), .lst (ps.map .bl), .lst (rs.map .bl), .lst [.str "x", .str "y"]]) = .ok (.v S'.fv) (mk s8 (.lst [.int a] :: .lst [.bl q] :: .dK (Md.kvs 2 3 5 6 7) :: .lst (fs.map fun x : Nat => FV.int (x : Int)) :: .lst (ps.map .bl) :: .lst (rs.map .bl) :: .lst [.str "x", .str "y"] :: g)) := a4
  obtain ⟨m, hm'⟩ : ∃ m : Md, m = ⟨N, a, q, fs, ps, rs⟩ := ⟨_, rfl⟩
  have ok : m.ok := by rw [hm']; exact ⟨by show 0 < N; omega, by show N ≤ 3; omega, ha, l5, k5, l6, l7⟩
  have tb : Tb m 4 (mk s8 (.lst [.int a] :: .lst [.bl q] :: .dK (Md.kvs 2 3 5 6 7) :: .lst (fs.map fun x : Nat => FV.int (x : Int)) :: .lst (ps.map .bl) :: .lst (rs.map .bl) :: .lst [.str "x", .str "y"] :: g)) := by
    rw [hm']; exact ⟨2, 3, 5, 6, 7, rfl, rfl, rfl, rfl, rfl, rfl⟩
  have mn : m.n = N := by rw [hm']
  obtain ⟨h', tl⟩ := tail_ok (y0 := some (.fl (ns.map .int))) (y1 := some (.ref 1)) (y3 := some (.int D)) (y13 := none) ok tb a1 (by omega) (n := 199) (by omega) none none none none none none none
  rw [mn] at tl
  refine ⟨h', run_rt ?_⟩
  have j1 : -(2 ^ 62) ≤ (N : Int) ∧ (N : Int) < 2 ^ 62 := by omega
  have j2 : ((N : Nat) : Int).toNat = N := Int.toNat_natCast _
  have j3 : cMul (N : Int) (N : Int) = some ((N * N : Nat) : Int) := by
    have := cMul_n N (by omega) N
    rw [this]; push_cast; rfl
  have j4 : -(2 ^ 62) ≤ ((N * N : Nat) : Int) ∧ ((N * N : Nat) : Int) < 2 ^ 62 := by omega
  have j5 : ((N * N : Nat) : Int).toNat = N * N := Int.toNat_natCast _
  have j6 : (rngL 0 N).length ≤ LIM := by rw [rngL_len, lim_eq]; omega
  have j7 : (rngL 0 (N * N)).length ≤ LIM := by rw [rngL_len, lim_eq]; omega
  have ka : FV.key (.str "a") = some (.inr "a") := rfl
  have kq : FV.key (.str "Q") = some (.inr "Q") := rfl
  have mm := merge_aQ (.ref 2) (.ref 3)
  have p3 := put3 2 3 5
  have p4 := put4 2 3 5 6
  have p5 := put5 2 3 5 6 7
  have s3' : ∀ {s : DS} {o0 o1 : FO} {v : FV} {t : FH}, gSet v (.v (.ref 4)) (.v (.str "f")) (mk s (o0 :: o1 :: .dK [(.inr "a", .ref 2), (.inr "Q", .ref 3)] :: t)) = some (mk s (o0 :: o1 :: .dK (F.putF [(.inr "a", .ref 2), (.inr "Q", .ref 3)] (.inr "f") v) :: t)) := gSet_mk (by show 2 < LIM; decide)
  have s4' : ∀ {s : DS} {o0 o1 : FO} {v : FV} {t : FH}, gSet v (.v (.ref 4)) (.v (.str "P")) (mk s (o0 :: o1 :: .dK [(.inr "a", .ref 2), (.inr "Q", .ref 3), (.inr "f", .ref 5)] :: t)) = some (mk s (o0 :: o1 :: .dK (F.putF [(.inr "a", .ref 2), (.inr "Q", .ref 3), (.inr "f", .ref 5)] (.inr "P") v) :: t)) := gSet_mk (by show 3 < LIM; decide)
  have s5' : ∀ {s : DS} {o0 o1 : FO} {v : FV} {t : FH}, gSet v (.v (.ref 4)) (.v (.str "R")) (mk s (o0 :: o1 :: .dK [(.inr "a", .ref 2), (.inr "Q", .ref 3), (.inr "f", .ref 5), (.inr "P", .ref 6)] :: t)) = some (mk s (o0 :: o1 :: .dK (F.putF [(.inr "a", .ref 2), (.inr "Q", .ref 3), (.inr "f", .ref 5), (.inr "P", .ref 6)] (.inr "R") v) :: t)) := gSet_mk (by show 4 < LIM; decide)
  have r15 : 0 + 1 + 1 ≤ 15 := by decide
  clear hns hs0 b0 hi1 hs1 b1 hN hi2 hs2 b2 hD ha hs3 b3 hi4 hs4 b4 l5 k5 b5 l6 b6 nn l7 b7 cD a1 a2 a3 hm' ok tb mn
  have A1 : (sSet 1 (fCall ((T 199).d_law_start) (aCons (fVar 0) aNil))) [some (.fl (ns.map .int)), none, none, none, none, none, none, none, none, none, none, none, none, none] ([]) = .nx [some (.fl (ns.map .int)), some (.ref 1), none, none, none, none, none, none, none, none, none, none, none, none] (mk s0 []) := by
    clear t1 z1 t2 z2 t3 t4 hq mm ka kq r15 c5 j1 j2 j6 s3' p3 c6 s4' p4 c7 j3 j4 j5 j7 s5' p5 a4 tl
    and_intros
  have A2 : (sSet 2 (fBin gAdd (fC (.int 1)) (fCall ((T 199).d_law_take) (aCons (fVar 1) (aCons (fC (.int 3)) aNil))))) [some (.fl (ns.map .int)), some (.ref 1), none, none, none, none, none, none, none, none, none, none, none, none] (mk s0 []) = .nx [some (.fl (ns.map .int)), some (.ref 1), some (.int N), none, none, none, none, none, none, none, none, none, none, none] (mk s1 []) := by
    clear es hm t2 z2 t3 t4 hq mm ka kq r15 c5 j1 j2 j6 s3' p3 c6 s4' p4 c7 j3 j4 j5 j7 s5' p5 a4 tl A1
    and_intros
  have A3 : (sSet 3 (fBin gAdd (fC (.int 1)) (fCall ((T 199).d_law_take) (aCons (fVar 1) (aCons (fC (.int 4)) aNil))))) [some (.fl (ns.map .int)), some (.ref 1), some (.int N), none, none, none, none, none, none, none, none, none, none, none] (mk s1 []) = .nx [some (.fl (ns.map .int)), some (.ref 1), some (.int N), some (.int D), none, none, none, none, none, none, none, none, none, none] (mk s2 []) := by
    clear es hm t1 z1 t3 t4 hq mm ka kq r15 c5 j1 j2 j6 s3' p3 c6 s4' p4 c7 j3 j4 j5 j7 s5' p5 a4 tl A1 A2
    and_intros
  have A4 : (sSet 4 (fDis (dCons (fC (.str "a")) (fLst (aCons (fCall ((T 199).d_law_take) (aCons (fVar 1) (aCons (fVar 2) aNil))) aNil)) (dCons (fC (.str "Q")) (fLst (aCons (fBl (fCmp (gEq false) (fCall ((T 199).d_law_take) (aCons (fVar 1) (aCons (fC (.int 2)) aNil))) (fC (.int 1)))) aNil)) dNil)))) [some (.fl (ns.map .int)), some (.ref 1), some (.int N), some (.int D), none, none, none, none, none, none, none, none, none, none] (mk s2 []) = .nx [some (.fl (ns.map .int)), some (.ref 1), some (.int N), some (.int D), some (.ref 4), none, none, none, none, none, none, none, none, none] (mk s4 [.lst [.int a], .lst [.bl q], .dK [(.inr "a", .ref 2), (.inr "Q", .ref 3)]]) := by
    clear es hm t1 z1 t2 z2 c5 j1 j2 j6 s3' p3 c6 s4' p4 c7 j3 j4 j5 j7 s5' p5 a4 tl A1 A2 A3
    and_intros
  have A5 : (sPut (fComp (iR1 (fVar 2)) (tgN 13) [13] fYes (fCall ((T 199).d_law_take) (aCons (fVar 1) (aCons (fVar 2) aNil)))) (fVar 4) (fC (.str "f"))) [some (.fl (ns.map .int)), some (.ref 1), some (.int N), some (.int D), some (.ref 4), none, none, none, none, none, none, none, none, none] (mk s4 [.lst [.int a], .lst [.bl q], .dK [(.inr "a", .ref 2), (.inr "Q", .ref 3)]]) = .nx [some (.fl (ns.map .int)), some (.ref 1), some (.int N), some (.int D), some (.ref 4), none, none, none, none, none, none, none, none, none] (mk s5 [.lst [.int a], .lst [.bl q], .dK [(.inr "a", .ref 2), (.inr "Q", .ref 3), (.inr "f", .ref 5)], .lst (fs.map fun x : Nat => FV.int (x : Int))]) := by
    clear es hm t1 z1 t2 z2 t3 t4 hq mm ka kq r15 c6 s4' p4 c7 j3 j4 j5 j7 s5' p5 a4 tl A1 A2 A3 A4
    and_intros
  have A6 : (sPut (fComp (iR1 (fVar 2)) (tgN 13) [13] fYes (fBl (fCmp (gEq false) (fCall ((T 199).d_law_take) (aCons (fVar 1) (aCons (fC (.int 2)) aNil))) (fC (.int 1))))) (fVar 4) (fC (.str "P"))) [some (.fl (ns.map .int)), some (.ref 1), some (.int N), some (.int D), some (.ref 4), none, none, none, none, none, none, none, none, none] (mk s5 [.lst [.int a], .lst [.bl q], .dK [(.inr "a", .ref 2), (.inr "Q", .ref 3), (.inr "f", .ref 5)], .lst (fs.map fun x : Nat => FV.int (x : Int))]) = .nx [some (.fl (ns.map .int)), some (.ref 1), some (.int N), some (.int D), some (.ref 4), none, none, none, none, none, none, none, none, none] (mk s6 [.lst [.int a], .lst [.bl q], .dK [(.inr "a", .ref 2), (.inr "Q", .ref 3), (.inr "f", .ref 5), (.inr "P", .ref 6)], .lst (fs.map fun x : Nat => FV.int (x : Int)), .lst (ps.map .bl)]) := by
    clear es hm t1 z1 t2 z2 t3 t4 hq mm ka kq r15 c5 s3' p3 c7 j3 j4 j5 j7 s5' p5 a4 tl A1 A2 A3 A4 A5
    and_intros
  have A7 : (sPut (fComp (iR1 (fBin gMul (fVar 2) (fVar 2))) (tgN 13) [13] fYes (fBl (fCmp (gEq false) (fCall ((T 199).d_law_take) (aCons (fVar 1) (aCons (fC (.int 2)) aNil))) (fC (.int 1))))) (fVar 4) (fC (.str "R"))) [some (.fl (ns.map .int)), some (.ref 1), some (.int N), some (.int D), some (.ref 4), none, none, none, none, none, none, none, none, none] (mk s6 [.lst [.int a], .lst [.bl q], .dK [(.inr "a", .ref 2), (.inr "Q", .ref 3), (.inr "f", .ref 5), (.inr "P", .ref 6)], .lst (fs.map fun x : Nat => FV.int (x : Int)), .lst (ps.map .bl)]) = .nx [some (.fl (ns.map .int)), some (.ref 1), some (.int N), some (.int D), some (.ref 4), none, none, none, none, none, none, none, none, none] (mk s7 [.lst [.int a], .lst [.bl q], .dK (Md.kvs 2 3 5 6 7), .lst (fs.map fun x : Nat => FV.int (x : Int)), .lst (ps.map .bl), .lst (rs.map .bl)]) := by
    clear es hm t1 z1 t2 z2 t3 t4 hq mm ka kq r15 c5 j1 j2 j6 s3' p3 c6 s4' p4 a4 tl A1 A2 A3 A4 A5 A6
    and_intros
  have A8 : (sSet 5 (fCall ((T 199).d_law_sentence) (aCons (fVar 1) (aCons (fLst (aCons (fC (.str "x")) (aCons (fC (.str "y")) aNil))) (aCons (fVar 3) aNil))))) [some (.fl (ns.map .int)), some (.ref 1), some (.int N), some (.int D), some (.ref 4), none, none, none, none, none, none, none, none, none] (mk s7 [.lst [.int a], .lst [.bl q], .dK (Md.kvs 2 3 5 6 7), .lst (fs.map fun x : Nat => FV.int (x : Int)), .lst (ps.map .bl), .lst (rs.map .bl)]) = .nx [some (.fl (ns.map .int)), some (.ref 1), some (.int N), some (.int D), some (.ref 4), some S'.fv, none, none, none, none, none, none, none, none] (mk s8 (.lst [.int a] :: .lst [.bl q] :: .dK (Md.kvs 2 3 5 6 7) :: .lst (fs.map fun x : Nat => FV.int (x : Int)) :: .lst (ps.map .bl) :: .lst (rs.map .bl) :: .lst [.str "x", .str "y"] :: g)) := by
    clear es hm t1 z1 t2 z2 t3 t4 hq mm ka kq r15 c5 j1 j2 j6 s3' p3 c6 s4' p4 c7 j3 j4 j5 j7 s5' p5 tl A1 A2 A3 A4 A5 A6 A7
    and_intros
  show lawHead (T 199) (lawTail (T 199)) [some (.fl (ns.map .int)), none, none, none, none, none, none, none, none, none, none, none, none, none] [] = _
  unfold lawHead
  rw [bSeq_d, A1, seq_nx, bSeq_d, A2, seq_nx, bSeq_d, A3, seq_nx, bSeq_d, A4, seq_nx, bSeq_d, A5, seq_nx, bSeq_d, A6, seq_nx, bSeq_d, A7, seq_nx, bSeq_d, A8, seq_nx, tl]
end K15

namespace K15
open PySem PySem.Spec PyProof.Rows L2 G F
theorem all_mk {l : PySem.W.OpenLaw} {w : World} {K : PySem.W.Frag} {h : Heap} {mg : Str → Option Value} {fa : Addr} (X : K.In h) (GN : h.Ns mainGlobals mg) (hfa : mg "law" = some (.ref fa))
    {f1 f2 f3 f4 f5 f6 f7 f8 f9 f10 f11 f12 f13 f14 f15 : Addr} {od1 an1 od2 an2 od3 an3 od4 an4 od5 an5 od6 an6 od7 an7 od8 an8 od9 an9 od10 an10 od11 an11 od12 an12 od13 an13 od14 an14 od15 an15 : Option Addr} {sl1 sl2 sl3 sl4 sl5 sl6 sl7 sl8 sl9 sl10 sl11 sl12 sl13 sl14 sl15 : Array (Option Value)} {oc1 kV1 dc1 pm1 cd1 ct1 oc2 kV2 dc2 pm2 cd2 ct2 oc3 kV3 dc3 pm3 cd3 ct3 oc4 kV4 dc4 pm4 cd4 ct4 oc5 kV5 dc5 pm5 cd5 ct5 oc6 kV6 dc6 pm6 cd6 ct6 oc7 kV7 dc7 pm7 cd7 ct7 oc8 kV8 dc8 pm8 cd8 ct8 oc9 kV9 dc9 pm9 cd9 ct9 oc10 kV10 dc10 pm10 cd10 ct10 oc11 kV11 dc11 pm11 cd11 ct11 oc12 kV12 dc12 pm12 cd12 ct12 oc13 kV13 dc13 pm13 cd13 ct13 oc14 kV14 dc14 pm14 cd14 ct14 oc15 kV15 dc15 pm15 cd15 ct15 : Value}
    (a1 : PySem.W.nsIn K mainGlobals "negation_form" = some (some (.ref f1))) (l1 : K.lookup f1 = some ⟨oc1, od1, .func (PySem.W.fnOf "negation_form" "negation_form" (defArgs s_negation_form) (defBody s_negation_form) (defScope s_negation_form) .none kV1 dc1 pm1 an1 cd1 ct1), sl1⟩) (c1 : PySem.W.codeIn K cd1 "negation_form" = true) (k1 : PySem.W.keepIn K (.ref f1) = true)
    (a2 : PySem.W.nsIn K mainGlobals "_form" = some (some (.ref f2))) (l2 : K.lookup f2 = some ⟨oc2, od2, .func (PySem.W.fnOf "_form" "_form" (defArgs s__form) (defBody s__form) (defScope s__form) .none kV2 dc2 pm2 an2 cd2 ct2), sl2⟩) (c2 : PySem.W.codeIn K cd2 "_form" = true) (k2 : PySem.W.keepIn K (.ref f2) = true)
    (a3 : PySem.W.nsIn K mainGlobals "_law_start" = some (some (.ref f3))) (l3 : K.lookup f3 = some ⟨oc3, od3, .func (PySem.W.fnOf "_law_start" "_law_start" (defArgs s__law_start) (defBody s__law_start) (defScope s__law_start) .none kV3 dc3 pm3 an3 cd3 ct3), sl3⟩) (c3 : PySem.W.codeIn K cd3 "_law_start" = true) (k3 : PySem.W.keepIn K (.ref f3) = true)
    (a4 : PySem.W.nsIn K mainGlobals "_law_take" = some (some (.ref f4))) (l4 : K.lookup f4 = some ⟨oc4, od4, .func (PySem.W.fnOf "_law_take" "_law_take" (defArgs s__law_take) (defBody s__law_take) (defScope s__law_take) .none kV4 dc4 pm4 an4 cd4 ct4), sl4⟩) (c4 : PySem.W.codeIn K cd4 "_law_take" = true) (k4 : PySem.W.keepIn K (.ref f4) = true)
    (a5 : PySem.W.nsIn K mainGlobals "_law_entry" = some (some (.ref f5))) (l5 : K.lookup f5 = some ⟨oc5, od5, .func (PySem.W.fnOf "_law_entry" "_law_entry" (defArgs s__law_entry) (defBody s__law_entry) (defScope s__law_entry) .none kV5 dc5 pm5 an5 cd5 ct5), sl5⟩) (c5 : PySem.W.codeIn K cd5 "_law_entry" = true) (k5 : PySem.W.keepIn K (.ref f5) = true)
    (a6 : PySem.W.nsIn K mainGlobals "_law_value" = some (some (.ref f6))) (l6 : K.lookup f6 = some ⟨oc6, od6, .func (PySem.W.fnOf "_law_value" "_law_value" (defArgs s__law_value) (defBody s__law_value) (defScope s__law_value) .none kV6 dc6 pm6 an6 cd6 ct6), sl6⟩) (c6 : PySem.W.codeIn K cd6 "_law_value" = true) (k6 : PySem.W.keepIn K (.ref f6) = true)
    (a7 : PySem.W.nsIn K mainGlobals "_law_bound" = some (some (.ref f7))) (l7 : K.lookup f7 = some ⟨oc7, od7, .func (PySem.W.fnOf "_law_bound" "_law_bound" (defArgs s__law_bound) (defBody s__law_bound) (defScope s__law_bound) .none kV7 dc7 pm7 an7 cd7 ct7), sl7⟩) (c7 : PySem.W.codeIn K cd7 "_law_bound" = true) (k7 : PySem.W.keepIn K (.ref f7) = true)
    (a8 : PySem.W.nsIn K mainGlobals "_law_true" = some (some (.ref f8))) (l8 : K.lookup f8 = some ⟨oc8, od8, .func (PySem.W.fnOf "_law_true" "_law_true" (defArgs s__law_true) (defBody s__law_true) (defScope s__law_true) .none kV8 dc8 pm8 an8 cd8 ct8), sl8⟩) (c8 : PySem.W.codeIn K cd8 "_law_true" = true) (k8 : PySem.W.keepIn K (.ref f8) = true)
    (a9 : PySem.W.nsIn K mainGlobals "_law_term" = some (some (.ref f9))) (l9 : K.lookup f9 = some ⟨oc9, od9, .func (PySem.W.fnOf "_law_term" "_law_term" (defArgs s__law_term) (defBody s__law_term) (defScope s__law_term) .none kV9 dc9 pm9 an9 cd9 ct9), sl9⟩) (c9 : PySem.W.codeIn K cd9 "_law_term" = true) (k9 : PySem.W.keepIn K (.ref f9) = true)
    (a10 : PySem.W.nsIn K mainGlobals "_law_basic" = some (some (.ref f10))) (l10 : K.lookup f10 = some ⟨oc10, od10, .func (PySem.W.fnOf "_law_basic" "_law_basic" (defArgs s__law_basic) (defBody s__law_basic) (defScope s__law_basic) .none kV10 dc10 pm10 an10 cd10 ct10), sl10⟩) (c10 : PySem.W.codeIn K cd10 "_law_basic" = true) (k10 : PySem.W.keepIn K (.ref f10) = true)
    (a11 : PySem.W.nsIn K mainGlobals "_law_sentence" = some (some (.ref f11))) (l11 : K.lookup f11 = some ⟨oc11, od11, .func (PySem.W.fnOf "_law_sentence" "_law_sentence" (defArgs s__law_sentence) (defBody s__law_sentence) (defScope s__law_sentence) .none kV11 dc11 pm11 an11 cd11 ct11), sl11⟩) (c11 : PySem.W.codeIn K cd11 "_law_sentence" = true) (k11 : PySem.W.keepIn K (.ref f11) = true)
    (a12 : PySem.W.nsIn K mainGlobals "_law_opposite" = some (some (.ref f12))) (l12 : K.lookup f12 = some ⟨oc12, od12, .func (PySem.W.fnOf "_law_opposite" "_law_opposite" (defArgs s__law_opposite) (defBody s__law_opposite) (defScope s__law_opposite) .none kV12 dc12 pm12 an12 cd12 ct12), sl12⟩) (c12 : PySem.W.codeIn K cd12 "_law_opposite" = true) (k12 : PySem.W.keepIn K (.ref f12) = true)
    (a13 : PySem.W.nsIn K mainGlobals "_law_formed" = some (some (.ref f13))) (l13 : K.lookup f13 = some ⟨oc13, od13, .func (PySem.W.fnOf "_law_formed" "_law_formed" (defArgs s__law_formed) (defBody s__law_formed) (defScope s__law_formed) .none kV13 dc13 pm13 an13 cd13 ct13), sl13⟩) (c13 : PySem.W.codeIn K cd13 "_law_formed" = true) (k13 : PySem.W.keepIn K (.ref f13) = true)
    (a14 : PySem.W.nsIn K mainGlobals "_law_shaped" = some (some (.ref f14))) (l14 : K.lookup f14 = some ⟨oc14, od14, .func (PySem.W.fnOf "_law_shaped" "_law_shaped" (defArgs s__law_shaped) (defBody s__law_shaped) (defScope s__law_shaped) .none kV14 dc14 pm14 an14 cd14 ct14), sl14⟩) (c14 : PySem.W.codeIn K cd14 "_law_shaped" = true) (k14 : PySem.W.keepIn K (.ref f14) = true)
    (a15 : PySem.W.nsIn K mainGlobals "law" = some (some (.ref f15))) (l15 : K.lookup f15 = some ⟨oc15, od15, .func (PySem.W.fnOf "law" "law" (defArgs s_law) (defBody s_law) (defScope s_law) .none kV15 dc15 pm15 an15 cd15 ct15), sl15⟩) (c15 : PySem.W.codeIn K cd15 "law" = true) (k15 : PySem.W.keepIn K (.ref f15) = true)
    (z1 : PySem.W.nsIn K mainGlobals "range" = some none)
    (z2 : PySem.W.nsIn K mainGlobals "len" = some none)
    (z3 : PySem.W.nsIn K mainGlobals "abs" = some none)
    (z4 : PySem.W.nsIn K mainGlobals "int" = some none)
    (z5 : PySem.W.nsIn K mainGlobals "isinstance" = some none)
    (z6 : PySem.W.nsIn K mainGlobals "str" = some none)
    (z7 : PySem.W.nsIn K mainGlobals "dict" = some none)
    {ga1 : Addr} {go1 : Obj} (y1 : PySem.W.nsIn K mainGlobals "BASIC" = some (some (.ref ga1))) (yl1 : K.lookup ga1 = some go1) (yt1 : tupOf go1 ["holds", "same"] = true)
    {ga2 : Addr} {go2 : Obj} (y2 : PySem.W.nsIn K mainGlobals "BINDERS" = some (some (.ref ga2))) (yl2 : K.lookup ga2 = some go2) (yt2 : tupOf go2 ["all", "some"] = true)
    {ga3 : Addr} {ge3 : Array DictEntry} {gn3 : Nat} (y3 : PySem.W.nsIn K mainGlobals "DUALS" = some (some (.ref ga3))) (yl3 : K.lookup ga3 = some ⟨.type "dict", none, .dict ge3 gn3, #[]⟩) (yk3 : PySem.W.KeysLit w.params ge3.toList)
    {gt3_0 : Tok} (yv3_0 : PySem.W.nsIn K ga3 "all" = some (some (.str "some" gt3_0)))
    {gt3_1 : Tok} (yv3_1 : PySem.W.nsIn K ga3 "some" = some (some (.str "all" gt3_1)))
    {gt3_2 : Tok} (yv3_2 : PySem.W.nsIn K ga3 "and" = some (some (.str "or" gt3_2)))
    {gt3_3 : Tok} (yv3_3 : PySem.W.nsIn K ga3 "or" = some (some (.str "and" gt3_3)))
    : ∃ fd : FuncData, (∀ (s : Shared) (v : Value), BindsTo s fd ⟨[v], []⟩ [("_law_script", v)]) ∧ ∀ base : Heap, K.In base → base.Ns mainGlobals mg → FnOk l.prog w K mg base (L2.CX l.prog w) 200 fa fd ["_law_script"] (spF K mg (T 200).d_law) := by
  have e := hfa.symm.trans (PySem.W.mg_of X GN a15)
  cases e
  have F1 := fun_mk (st := s_negation_form) l1 c1 k1
  have b1 := F1.binds (ps := ["sentence"]) fun _ _ _ _ _ _ us hl => match us, hl with | [_], _ => rfl
  have m1 := PySem.W.mg_of X GN a1
  have F2 := fun_mk (st := s__form) l2 c2 k2
  have b2 := F2.binds (ps := ["sentence", "sign"]) fun _ _ _ _ _ _ us hl => match us, hl with | [_, _], _ => rfl
  have m2 := PySem.W.mg_of X GN a2
  have F3 := fun_mk (st := s__law_start) l3 c3 k3
  have b3 := F3.binds (ps := ["_law_script"]) fun _ _ _ _ _ _ us hl => match us, hl with | [_], _ => rfl
  have m3 := PySem.W.mg_of X GN a3
  have F4 := fun_mk (st := s__law_take) l4 c4 k4
  have b4 := F4.binds (ps := ["_law_state", "_law_many"]) fun _ _ _ _ _ _ us hl => match us, hl with | [_, _], _ => rfl
  have m4 := PySem.W.mg_of X GN a4
  have F5 := fun_mk (st := s__law_entry) l5 c5 k5
  have b5 := F5.binds (ps := ["_law_tables", "_law_size", "_law_name", "_law_things"]) fun _ _ _ _ _ _ us hl => match us, hl with | [_, _, _, _], _ => rfl
  have m5 := PySem.W.mg_of X GN a5
  have F6 := fun_mk (st := s__law_value) l6 c6 k6
  have b6 := F6.binds (ps := ["_law_tables", "_law_size", "_law_term_here", "_law_values"]) fun _ _ _ _ _ _ us hl => match us, hl with | [_, _, _, _], _ => rfl
  have m6 := PySem.W.mg_of X GN a6
  have F7 := fun_mk (st := s__law_bound) l7 c7 k7
  have b7 := F7.binds (ps := ["_law_tables", "_law_size", "_law_sentence_here", "_law_values"]) fun _ _ _ _ _ _ us hl => match us, hl with | [_, _, _, _], _ => rfl
  have m7 := PySem.W.mg_of X GN a7
  have F8 := fun_mk (st := s__law_true) l8 c8 k8
  have b8 := F8.binds (ps := ["_law_tables", "_law_size", "_law_sentence_here", "_law_values"]) fun _ _ _ _ _ _ us hl => match us, hl with | [_, _, _, _], _ => rfl
  have m8 := PySem.W.mg_of X GN a8
  have F9 := fun_mk (st := s__law_term) l9 c9 k9
  have b9 := F9.binds (ps := ["_law_state", "_law_names"]) fun _ _ _ _ _ _ us hl => match us, hl with | [_, _], _ => rfl
  have m9 := PySem.W.mg_of X GN a9
  have F10 := fun_mk (st := s__law_basic) l10 c10 k10
  have b10 := F10.binds (ps := ["_law_state", "_law_names"]) fun _ _ _ _ _ _ us hl => match us, hl with | [_, _], _ => rfl
  have m10 := PySem.W.mg_of X GN a10
  have F11 := fun_mk (st := s__law_sentence) l11 c11 k11
  have b11 := F11.binds (ps := ["_law_state", "_law_names", "_law_depth"]) fun _ _ _ _ _ _ us hl => match us, hl with | [_, _, _], _ => rfl
  have m11 := PySem.W.mg_of X GN a11
  have F12 := fun_mk (st := s__law_opposite) l12 c12 k12
  have b12 := F12.binds (ps := ["_law_formed_here"]) fun _ _ _ _ _ _ us hl => match us, hl with | [_], _ => rfl
  have m12 := PySem.W.mg_of X GN a12
  have F13 := fun_mk (st := s__law_formed) l13 c13 k13
  have b13 := F13.binds (ps := ["_law_sentence_here"]) fun _ _ _ _ _ _ us hl => match us, hl with | [_], _ => rfl
  have m13 := PySem.W.mg_of X GN a13
  have F14 := fun_mk (st := s__law_shaped) l14 c14 k14
  have b14 := F14.binds (ps := ["_law_sentence_here"]) fun _ _ _ _ _ _ us hl => match us, hl with | [_], _ => rfl
  have m14 := PySem.W.mg_of X GN a14
  have F15 := fun_mk (st := s_law) l15 c15 k15
  have b15 := F15.binds (ps := ["_law_script"]) fun _ _ _ _ _ _ us hl => match us, hl with | [_], _ => rfl
  have m15 := PySem.W.mg_of X GN a15
  have n1 := PySem.W.mg_none_of X GN z1
  have n2 := PySem.W.mg_none_of X GN z2
  have n3 := PySem.W.mg_none_of X GN z3
  have n4 := PySem.W.mg_none_of X GN z4
  have n5 := PySem.W.mg_none_of X GN z5
  have n6 := PySem.W.mg_none_of X GN z6
  have n7 := PySem.W.mg_none_of X GN z7
  have q1 : GC K mg "BASIC" c_BASIC := gc_tup (PySem.W.mg_of X GN y1) yl1 yt1
  have q2 : GC K mg "BINDERS" c_BINDERS := gc_tup (PySem.W.mg_of X GN y2) yl2 yt2
  have q3 : GD K w mg "DUALS" k_DUALS := gd_mk (PySem.W.mg_of X GN y3) yl3 yk3 (by
    intro p hp
    simp only [k_DUALS, List.mem_cons, List.not_mem_nil, or_false] at hp
    rcases hp with rfl | rfl | rfl | rfl
    · exact ⟨_, yv3_0, _, rfl⟩
    · exact ⟨_, yv3_1, _, rfl⟩
    · exact ⟨_, yv3_2, _, rfl⟩
    · exact ⟨_, yv3_3, _, rfl⟩)
  refine ⟨PySem.W.fnOf "law" "law" (defArgs s_law) (defBody s_law) (defScope s_law) .none kV15 dc15 pm15 an15 cd15 ct15, fun s v => .of_eq rfl, fun base _ _ => ?_⟩
  have all : ∀ n, HasF l.prog w K mg base n "negation_form" ["sentence"] (T n).d_negation_form ∧ HasF l.prog w K mg base n "_form" ["sentence", "sign"] (T n).d_form ∧ HasF l.prog w K mg base n "_law_start" ["_law_script"] (T n).d_law_start ∧ HasF l.prog w K mg base n "_law_take" ["_law_state", "_law_many"] (T n).d_law_take ∧ HasF l.prog w K mg base n "_law_entry" ["_law_tables", "_law_size", "_law_name", "_law_things"] (T n).d_law_entry ∧ HasF l.prog w K mg base n "_law_value" ["_law_tables", "_law_size", "_law_term_here", "_law_values"] (T n).d_law_value ∧ HasF l.prog w K mg base n "_law_bound" ["_law_tables", "_law_size", "_law_sentence_here", "_law_values"] (T n).d_law_bound ∧ HasF l.prog w K mg base n "_law_true" ["_law_tables", "_law_size", "_law_sentence_here", "_law_values"] (T n).d_law_true ∧ HasF l.prog w K mg base n "_law_term" ["_law_state", "_law_names"] (T n).d_law_term ∧ HasF l.prog w K mg base n "_law_basic" ["_law_state", "_law_names"] (T n).d_law_basic ∧ HasF l.prog w K mg base n "_law_sentence" ["_law_state", "_law_names", "_law_depth"] (T n).d_law_sentence ∧ HasF l.prog w K mg base n "_law_opposite" ["_law_formed_here"] (T n).d_law_opposite ∧ HasF l.prog w K mg base n "_law_formed" ["_law_sentence_here"] (T n).d_law_formed ∧ HasF l.prog w K mg base n "_law_shaped" ["_law_sentence_here"] (T n).d_law_shaped ∧ HasF l.prog w K mg base n "law" ["_law_script"] (T n).d_law := fun n => by
    induction n with
    | zero => exact ⟨hasNo m1 F1.kp b1, hasNo m2 F2.kp b2, hasNo m3 F3.kp b3, hasNo m4 F4.kp b4, hasNo m5 F5.kp b5, hasNo m6 F6.kp b6, hasNo m7 F7.kp b7, hasNo m8 F8.kp b8, hasNo m9 F9.kp b9, hasNo m10 F10.kp b10, hasNo m11 F11.kp b11, hasNo m12 F12.kp b12, hasNo m13 F13.kp b13, hasNo m14 F14.kp b14, hasNo m15 F15.kp b15⟩
    | succ n ih =>
      obtain ⟨h1, h2, h3, h4, h5, h6, h7, h8, h9, h10, h11, h12, h13, h14, h15⟩ := ih
      exact ⟨mk_hasF F1 ((ok_negation_form F1 h2).imp fun _ _ _ _ => gc_ok) m1 b1,
        mk_hasF F2 ((ok__form F2 h2 q1 q2 q3).imp fun _ _ _ _ => gc_ok) m2 b2,
        mk_hasF F3 (ok__law_start F3 n1 n2 n3 n4) m3 b3,
        mk_hasF F4 (ok__law_take F4 n2 n4) m4 b4,
        mk_hasF F5 ((ok__law_entry F5 ).imp fun _ _ _ _ => gc_ok) m5 b5,
        mk_hasF F6 ((ok__law_value F6 h5 h6 n5 n6).imp fun _ _ _ _ => gc_ok) m6 b6,
        mk_hasF F7 ((ok__law_bound F7 h8 n1 n7).imp fun _ _ _ _ => gc_ok) m7 b7,
        mk_hasF F8 ((ok__law_true F8 h5 h6 h8 h7).imp fun _ _ _ _ => gc_ok) m8 b8,
        mk_hasF F9 (ok__law_term F9 h4 n2) m9 b9,
        mk_hasF F10 (ok__law_basic F10 h4 h9) m10 b10,
        mk_hasF F11 (ok__law_sentence F11 h4 h10 h11) m11 b11,
        mk_hasF F12 ((ok__law_opposite F12 h12).imp fun _ _ _ _ => gc_ok) m12 b12,
        mk_hasF F13 ((ok__law_formed F13 h12 h13).imp fun _ _ _ _ => gc_ok) m13 b13,
        mk_hasF F14 ((ok__law_shaped F14 h14).imp fun _ _ _ _ => gc_ok) m14 b14,
        mk_hasF F15 (ok_law F15 h3 h4 h11 h13 h1 h12 h14 h8 n1) m15 b15⟩
  obtain ⟨h1, h2, h3, h4, h5, h6, h7, h8, h9, h10, h11, h12, h13, h14, h15⟩ := all 199
  exact (ok_law F15 h3 h4 h11 h13 h1 h12 h14 h8 n1)
end K15
open PySem PySem.W PyProof.Rows
set_option maxRecDepth 100000 in
set_option maxHeartbeats 0 in
theorem PySem.Challenge.cw_worldorpaper_k15_negation_form_says_the_holds : PySem.Challenge.rw_worldorpaper_k15_negation_form_says_the.Holds := by
  w_on; o_law; k_head; (case hw => w_witness2)
  k_fill
  refine F.walkF (l := PySem.Challenge.rw_worldorpaper_k15_negation_form_says_the) (k := 200) (f := (K15.T 200).d_law) rfl rfl (fun w h Y => PySem.W.kIn_of Y) ⟨rfl, by decide, by decide⟩ ?F K15.law_true
  case F =>
    intro w mg fa h KX G hmg
    refine' K15.all_mk KX G hmg ?a1 ?l1 ?c1 ?k1 ?a2 ?l2 ?c2 ?k2 ?a3 ?l3 ?c3 ?k3 ?a4 ?l4 ?c4 ?k4 ?a5 ?l5 ?c5 ?k5 ?a6 ?l6 ?c6 ?k6 ?a7 ?l7 ?c7 ?k7 ?a8 ?l8 ?c8 ?k8 ?a9 ?l9 ?c9 ?k9 ?a10 ?l10 ?c10 ?k10 ?a11 ?l11 ?c11 ?k11 ?a12 ?l12 ?c12 ?k12 ?a13 ?l13 ?c13 ?k13 ?a14 ?l14 ?c14 ?k14 ?a15 ?l15 ?c15 ?k15 ?z1 ?z2 ?z3 ?z4 ?z5 ?z6 ?z7 ?y1 ?yl1 ?yt1 ?y2 ?yl2 ?yt2 ?y3 ?yl3 ?yk3 ?yv3_0 ?yv3_1 ?yv3_2 ?yv3_3
    (case a1 => first | k_is | rfl)
    (case l1 => first | k_is | rfl)
    (case c1 => first | k_is | rfl)
    (case k1 => first | k_is | rfl)
    (case a2 => first | k_is | rfl)
    (case l2 => first | k_is | rfl)
    (case c2 => first | k_is | rfl)
    (case k2 => first | k_is | rfl)
    (case a3 => first | k_is | rfl)
    (case l3 => first | k_is | rfl)
    (case c3 => first | k_is | rfl)
    (case k3 => first | k_is | rfl)
    (case a4 => first | k_is | rfl)
    (case l4 => first | k_is | rfl)
    (case c4 => first | k_is | rfl)
    (case k4 => first | k_is | rfl)
    (case a5 => first | k_is | rfl)
    (case l5 => first | k_is | rfl)
    (case c5 => first | k_is | rfl)
    (case k5 => first | k_is | rfl)
    (case a6 => first | k_is | rfl)
    (case l6 => first | k_is | rfl)
    (case c6 => first | k_is | rfl)
    (case k6 => first | k_is | rfl)
    (case a7 => first | k_is | rfl)
    (case l7 => first | k_is | rfl)
    (case c7 => first | k_is | rfl)
    (case k7 => first | k_is | rfl)
    (case a8 => first | k_is | rfl)
    (case l8 => first | k_is | rfl)
    (case c8 => first | k_is | rfl)
    (case k8 => first | k_is | rfl)
    (case a9 => first | k_is | rfl)
    (case l9 => first | k_is | rfl)
    (case c9 => first | k_is | rfl)
    (case k9 => first | k_is | rfl)
    (case a10 => first | k_is | rfl)
    (case l10 => first | k_is | rfl)
    (case c10 => first | k_is | rfl)
    (case k10 => first | k_is | rfl)
    (case a11 => first | k_is | rfl)
    (case l11 => first | k_is | rfl)
    (case c11 => first | k_is | rfl)
    (case k11 => first | k_is | rfl)
    (case a12 => first | k_is | rfl)
    (case l12 => first | k_is | rfl)
    (case c12 => first | k_is | rfl)
    (case k12 => first | k_is | rfl)
    (case a13 => first | k_is | rfl)
    (case l13 => first | k_is | rfl)
    (case c13 => first | k_is | rfl)
    (case k13 => first | k_is | rfl)
    (case a14 => first | k_is | rfl)
    (case l14 => first | k_is | rfl)
    (case c14 => first | k_is | rfl)
    (case k14 => first | k_is | rfl)
    (case a15 => first | k_is | rfl)
    (case l15 => first | k_is | rfl)
    (case c15 => first | k_is | rfl)
    (case k15 => first | k_is | rfl)
    (case z1 => first | k_is | rfl)
    (case z2 => first | k_is | rfl)
    (case z3 => first | k_is | rfl)
    (case z4 => first | k_is | rfl)
    (case z5 => first | k_is | rfl)
    (case z6 => first | k_is | rfl)
    (case z7 => first | k_is | rfl)
    (case y1 => first | k_is | rfl)
    (case yl1 => first | k_is | rfl)
    (case yt1 => decide +kernel)
    (case y2 => first | k_is | rfl)
    (case yl2 => first | k_is | rfl)
    (case yt2 => decide +kernel)
    (case y3 => first | k_is | rfl)
    (case yl3 => first | k_is | rfl)
    (case yk3 => repeat (first | exact True.intro | exact ⟨⟨_, _, rfl, rfl⟩, True.intro⟩ | refine ⟨⟨_, _, rfl, rfl⟩, ?_⟩))
    (case yv3_0 => first | k_is | rfl)
    (case yv3_1 => first | k_is | rfl)
    (case yv3_2 => first | k_is | rfl)
    (case yv3_3 => first | k_is | rfl)

