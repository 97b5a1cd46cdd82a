import PyProof.Rows.All
import Wide.All
import OpenK.AllK
import Wide.FinOn
import PyProof.EqAt
import PyProof.EqKinds
import PyProof.TupleCall
import KE.DataEq
import HandS.Base
import HandS.Call
import HandS.List
import HandS.Comp
import HandS.Ends
import HandS.Dict
import HandS.Iter
import HandS.Walk
import HandS.Text
import HandS.Exc
import HandS.TryOnly
import HandS.TryElse
import HandS.ExcOwn
import HandS.IsInst
import HandS.TupLe
import HandS.TupAny
import HandS.Wide
import HandS.Words
import HandS.WordsList
import HandS.WordsDict
import HandS.WordsExc
import KE.GoesNew
import HandS.Deep
import HandS.Conv
import HandS.ExcIs
import PySem.Challenge.RW_worldorpaper_k86_parts_and_places
set_option Elab.async false
set_option linter.all false
set_option maxRecDepth 100000
set_option maxHeartbeats 4000000
/-! G: weakest readings, data that cannot change, slots by what they hold. -/
namespace G
open PySem PySem.Spec PyProof.Rows L2

/-! ### the weakest reading of a piece of syntax -/
structure wE (X : Cx) (e : Expr) (σ : L2.St) (H : Hp) (Q : VK) : Prop where
  go : ∀ pins s, Inv X pins σ H s → wpAny (model X.prog X.w) X.A (eval e X.env) (EP X pins σ Q) X.xe s
structure wT (X : Cx) (e : Expr) (σ : L2.St) (H : Hp) (Q : Bool → Hp → Prop) : Prop where
  go : ∀ pins s, Inv X pins σ H s → wpAny (model X.prog X.w) X.A (isTrue e X.env (eval e X.env)) (TP X pins σ Q) X.xe s
structure wA (X : Cx) (es : List Expr) (σ : L2.St) (H : Hp) (Q : List V → Hp → Prop) : Prop where
  go : ∀ pos pins s, Inv X pins σ H s → wpAny (model X.prog X.w) X.A (spliced (backTo pos (starEach es X.env))) (AP X pins σ Q) X.xe s
structure wS (X : Cx) (st : Stmt) (D : Ends) (σ : L2.St) (H : Hp) : Prop where
  go : ∀ pins s, Inv X pins σ H s → wpAny (model X.prog X.w) X.A (exec st X.env) (SP X pins D) X.xe s
structure wSs (X : Cx) (st : List Stmt) (D : Ends) (σ : L2.St) (H : Hp) : Prop where
  go : ∀ pins s, Inv X pins σ H s → wpAny (model X.prog X.w) X.A (execs st X.env) (SP X pins D) X.xe s
section
variable {X : Cx} {e : Expr} {es : List Expr} {st : Stmt} {sts : List Stmt} {te : TE} {tt : TT} {ta : TA} {ts : TS} {σ : L2.St} {H : Hp}
theorem pe_w : PE X e (wE X e) := ⟨fun pins s _ _ _ I h => h.go pins s I⟩
theorem pt_w : PT X e (wT X e) := ⟨fun pins s _ _ _ I h => h.go pins s I⟩
theorem pa_w : PA X es (wA X es) := ⟨fun pos pins s _ _ _ I h => h.go pos pins s I⟩
theorem ps_w : PS X st (wS X st) := ⟨fun pins s _ _ _ I h => h.go pins s I⟩
theorem pss_w : PSs X sts (wSs X sts) := ⟨fun pins s _ _ _ I h => h.go pins s I⟩
theorem wE.of {Q : VK} (h : PE X e te) (q : te σ H Q) : wE X e σ H Q := ⟨fun pins s I => h.run pins s σ H Q I q⟩
theorem wT.of {Q : Bool → Hp → Prop} (h : PT X e tt) (q : tt σ H Q) : wT X e σ H Q := ⟨fun pins s I => h.run pins s σ H Q I q⟩
theorem wA.of {Q : List V → Hp → Prop} (h : PA X es ta) (q : ta σ H Q) : wA X es σ H Q := ⟨fun pos pins s I => h.run pos pins s σ H Q I q⟩
theorem wS.of {D : Ends} (h : PS X st ts) (q : ts D σ H) : wS X st D σ H := ⟨fun pins s I => h.run pins s σ H D I q⟩
theorem wSs.of {D : Ends} (h : PSs X sts ts) (q : ts D σ H) : wSs X sts D σ H := ⟨fun pins s I => h.run pins s σ H D I q⟩
theorem wE.mono {Q Q' : VK} (h : wE X e σ H Q) (q : ∀ v H', Q v H' → Q' v H') : wE X e σ H Q' := ⟨fun pins s I =>
  thn (h.go pins s I) fun _ _ ⟨v, H', I', r, z⟩ => ⟨v, H', I', r, q v H' z⟩⟩
theorem wT.mono {Q Q' : Bool → Hp → Prop} (h : wT X e σ H Q) (q : ∀ v H', Q v H' → Q' v H') : wT X e σ H Q' := ⟨fun pins s I =>
  thn (h.go pins s I) fun _ _ ⟨H', I', z⟩ => ⟨H', I', q _ H' z⟩⟩
theorem wA.mono {Q Q' : List V → Hp → Prop} (h : wA X es σ H Q) (q : ∀ v H', Q v H' → Q' v H') : wA X es σ H Q' := ⟨fun pos pins s I =>
  thn (h.go pos pins s I) fun _ _ ⟨v, H', I', r, z⟩ => ⟨v, H', I', r, q v H' z⟩⟩
end

/-- an argument without a star -/
def plainE : Expr → Bool
  | .Starred .. => false
  | _ => true
theorem star1 {e : Expr} {es : List Expr} {env : Env} (h : plainE e = true) : starEach (e :: es) env = (false, eval e env) :: starEach es env := by
  cases e <;> first | (rw [starEach]; exact fun _ _ z => nomatch z) | rfl | cases h

/-! ### tuples stay -/
def Gw (H H' : Hp) : Prop := (∀ b xs, H b = some (.tup xs) → H' b = some (.tup xs)) ∧ ∀ b o u, H b = some (.frz o u) → H' b = some (.frz o u)
theorem Gw.refl (H : Hp) : Gw H H := ⟨fun _ _ h => h, fun _ _ _ h => h⟩
theorem Gw.trans {H H1 H2 : Hp} (a : Gw H H1) (b : Gw H1 H2) : Gw H H2 := ⟨fun c xs h => b.1 c xs (a.1 c xs h), fun c o u h => b.2 c o u (a.2 c o u h)⟩
theorem Same.gw {H H' : Hp} (e : Same H H') : Gw H H' := ⟨fun c _ h => e c _ h, fun c _ _ h => e c _ h⟩
theorem same_new {H : Hp} {p : Addr} {o : HO} (h : H p = none) : Same H (upd H p o) := fun b u q => by rw [upd_ne (ne_of_none q h)]; exact q
theorem gw_mut {H : Hp} {p : Addr} {o : HO} (h : Mut (H p)) : Gw H (upd H p o) :=
  ⟨fun b xs q => by rw [upd_ne (fun z => by subst z; rw [q] at h; exact h)]; exact q, fun b o u q => by rw [upd_ne (fun z => by subst z; rw [q] at h; exact h)]; exact q⟩
theorem Gw.sqt {K : PySem.W.Frag} {H H' : Hp} {a : Addr} {xs : List V} (e : Gw H H') (h : SqT K H a xs) : SqT K H' a xs := by
  rcases h with (h | ⟨o, h⟩) | h
  · exact .inl (.inl (e.1 _ _ h))
  · exact .inl (.inr ⟨o, e.2 _ _ _ h⟩)
  · exact .inr h

/-! ### data without lists: it can't change -/
mutual
inductive Im (K : PySem.W.Frag) (H : Hp) : V → PyData → Prop
  | non : Im K H .non .none
  | bl (b : Bool) : Im K H (.bl b) (.bool b)
  | int (i : Int) : Im K H (.int i) (.int i)
  | str (x : Str) : Im K H (.str x) (.str x)
  | tup {a : Addr} {xs : List V} {ds : List PyData} : SqT K H a xs → ImAll K H xs ds → Im K H (.ref a) (.tuple ds)
inductive ImAll (K : PySem.W.Frag) (H : Hp) : List V → List PyData → Prop
  | nil : ImAll K H [] []
  | cons {v : V} {vs : List V} {d : PyData} {ds : List PyData} : Im K H v d → ImAll K H vs ds → ImAll K H (v :: vs) (d :: ds)
end
section
variable {K : PySem.W.Frag} {H H' : Hp}
mutual
theorem Im.gw (e : Gw H H') : ∀ (d : PyData) (v : V), Im K H v d → Im K H' v d
  | .none, _, h => by cases h; exact .non
  | .bool b, _, h => by cases h; exact .bl b
  | .int i, _, h => by cases h; exact .int i
  | .str x, _, h => by cases h; exact .str x
  | .tuple ds, _, h => by
    cases h with
    | tup a b => exact .tup (e.sqt a) (ImAll.gw e ds _ b)
  | .list _, _, h => by cases h
  | .dict _, _, h => by cases h
theorem ImAll.gw (e : Gw H H') : ∀ (ds : List PyData) (vs : List V), ImAll K H vs ds → ImAll K H' vs ds
  | [], _, h => by cases h; exact .nil
  | d :: ds, _, h => by
    cases h with
    | cons a b => exact .cons (Im.gw e d _ a) (ImAll.gw e ds _ b)
end
mutual
theorem Im.dp : ∀ (d : PyData) (v : V), Im K H v d → Dp K H v d
  | .none, _, h => by cases h; exact .non
  | .bool b, _, h => by cases h; exact .bl b
  | .int i, _, h => by cases h; exact .int i
  | .str x, _, h => by cases h; exact .str x
  | .tuple ds, _, h => by
    cases h with
    | tup a b => exact .tup a (ImAll.dp ds _ b)
  | .list _, _, h => by cases h
  | .dict _, _, h => by cases h
theorem ImAll.dp : ∀ (ds : List PyData) (vs : List V), ImAll K H vs ds → DpAll K H vs ds
  | [], _, h => by cases h; exact .nil
  | d :: ds, _, h => by
    cases h with
    | cons a b => exact .cons (Im.dp d _ a) (ImAll.dp ds _ b)
end
mutual
theorem Im.plain : ∀ (d : PyData) (v : V), Im K H v d → d.plain = true
  | .none, _, _ => rfl
  | .bool b, _, _ => rfl
  | .int i, _, _ => rfl
  | .str x, _, _ => rfl
  | .tuple ds, _, h => by
    cases h with
    | tup a b => exact ImAll.plain ds _ b
  | .list _, _, h => by cases h
  | .dict _, _, h => by cases h
theorem ImAll.plain : ∀ (ds : List PyData) (vs : List V), ImAll K H vs ds → PyData.plainAll ds = true
  | [], _, h => rfl
  | d :: ds, _, h => by
    cases h with
    | cons a b =>
      show (d.plain && PyData.plainAll ds) = true
      rw [Im.plain d _ a, ImAll.plain ds _ b]; rfl
end
theorem Im.same {v : V} {d : PyData} (e : Same H H') (h : Im K H v d) : Im K H' v d := h.gw (Same.gw e) d v
theorem ImAll.same {v : List V} {d : List PyData} (e : Same H H') (h : ImAll K H v d) : ImAll K H' v d := h.gw (Same.gw e) d v
theorem ImAll.len : ∀ {ds : List PyData} {vs : List V}, ImAll K H vs ds → vs.length = ds.length
  | [], _, h => by cases h; rfl
  | d :: ds, _, h => by
    cases h with
    | cons a b => show _ + 1 = _ + 1; rw [ImAll.len b]
theorem ImAll.get : ∀ {ds : List PyData} {vs : List V} {i : Nat} {d : PyData}, ImAll K H vs ds → ds[i]? = some d → ∃ v, vs[i]? = some v ∧ Im K H v d
  | [], _, i, d, h, e => by simp at e
  | d :: ds, _, 0, d', h, e => by
    cases h with
    | cons a b =>
      have e' : d = d' := Option.some.inj e
      subst e'
      exact ⟨_, rfl, a⟩
  | d :: ds, _, i + 1, d', h, e => by
    cases h with
    | cons a b => exact ImAll.get (i := i) b (by simpa using e)
theorem ImAll.get' : ∀ {ds : List PyData} {vs : List V} {i : Nat} {v : V}, ImAll K H vs ds → vs[i]? = some v → ∃ d, ds[i]? = some d ∧ Im K H v d
  | [], _, i, d, h, e => by cases h; simp at e
  | d :: ds, _, 0, d', h, e => by
    cases h with
    | cons a b =>
      have e' := Option.some.inj e
      subst e'
      exact ⟨_, rfl, a⟩
  | d :: ds, _, i + 1, d', h, e => by
    cases h with
    | cons a b => exact ImAll.get' (i := i) b (by simpa using e)
theorem ImAll.append : ∀ {ds es : List PyData} {vs us : List V}, ImAll K H vs ds → ImAll K H us es → ImAll K H (vs ++ us) (ds ++ es)
  | [], _, _, _, h, g => by cases h; exact g
  | d :: ds, _, _, _, h, g => by
    cases h with
    | cons a b => exact .cons a (ImAll.append b g)
theorem ImAll.drop : ∀ {ds : List PyData} {vs : List V} (n : Nat), ImAll K H vs ds → ImAll K H (vs.drop n) (ds.drop n)
  | _, _, 0, h => h
  | [], _, n + 1, h => by cases h; exact .nil
  | d :: ds, _, n + 1, h => by
    cases h with
    | cons a b => exact ImAll.drop n b
theorem ImAll.take : ∀ {ds : List PyData} {vs : List V} (n : Nat), ImAll K H vs ds → ImAll K H (vs.take n) (ds.take n)
  | _, _, 0, h => .nil
  | [], _, n + 1, h => by cases h; exact .nil
  | d :: ds, _, n + 1, h => by
    cases h with
    | cons a b => exact .cons a (ImAll.take n b)
theorem ImAll.set : ∀ {ds : List PyData} {vs : List V} {v : V} {d : PyData} (n : Nat), Im K H v d → ImAll K H vs ds → ImAll K H (vs.set n v) (ds.set n d)
  | [], _, _, _, n, a, h => by cases h; exact .nil
  | e :: ds, _, _, _, 0, a, h => by
    cases h with
    | cons _ b => exact .cons a b
  | e :: ds, _, _, _, n + 1, a, h => by
    cases h with
    | cons c b => exact .cons c (ImAll.set n a b)
end
end G

namespace G
open PySem PySem.Spec PyProof.Rows L2
abbrev St := L2.St

/-! ### slots by what they hold -/
inductive SD where
  /-- nothing is known -/
  | no
  /-- data that cannot change -/
  | im (d : PyData)
  /-- this very value -/
  | va (v : V)
  /-- a list of one's own, of data that cannot change -/
  | ls (ds : List PyData)
  /-- a list of one's own that is only read for a while; a list that the caller handed over, only read -/
  | rl (p : Addr) (ds : List PyData)
  | pl (p : Addr) (ds : List PyData)
  /-- a dict of one's own -/
  | dk (kvs : List (Key × PyData))
  /-- the drawing state: a list of a list of ints, an int between 0 and b, an int -/
  | st (a r : Addr) (b : Nat)
abbrev SC := List SD

/-- the drawing state at a -/
def StAt (H : Hp) (a r : Addr) (b : Nat) : Prop := a ≠ r ∧ ∃ (row : List Int) (n sd : Int), H a = some (.lst [.ref r, .int n, .int sd]) ∧ H r = some (.lst (row.map V.int)) ∧ 0 ≤ n ∧ n ≤ (b : Int)
theorem StAt.mono {H : Hp} {a r : Addr} {b c : Nat} (h : StAt H a r b) (l : b ≤ c) : StAt H a r c := by
  obtain ⟨h0, row, n, sd, h1, h2, h3, h4⟩ := h
  exact ⟨h0, row, n, sd, h1, h2, h3, by omega⟩
/-- all but a is as it was -/
def But (M : List Addr) (H H' : Hp) : Prop := ∀ b o, b ∉ M → H b = some o → H' b = some o
theorem But.refl (M : List Addr) (H : Hp) : But M H H := fun _ _ _ h => h
theorem But.trans {M : List Addr} {H H1 H2 : Hp} (a : But M H H1) (b : But M H1 H2) : But M H H2 := fun c o n h => b c o n (a c o n h)
theorem But.same {M : List Addr} {H H1 H2 : Hp} (a : But M H H1) (b : Same H1 H2) : But M H H2 := fun c o n h => b c o (a c o n h)
theorem But.of {M : List Addr} {H H1 : Hp} (b : Same H H1) : But M H H1 := fun c o n h => b c o h
theorem But.nil {H H1 : Hp} (b : But [] H H1) : Same H H1 := fun c o h => b c o (by simp) h

/-- lists that no name holds, kept as they are -/
abbrev Gs := List (Addr × List V)
def Kept (g : Gs) (H : Hp) : Prop := ∀ q, q ∈ g → H q.1 = some (.lst q.2)
def ImKv (K : PySem.W.Frag) (H : Hp) : List (Key × V) → List (Key × PyData) → Prop := Paired fun p q => p.1 = q.1 ∧ Im K H p.2 q.2
theorem ImKv.gw {K : PySem.W.Frag} {H H' : Hp} (e : Gw H H') : ∀ {vs : List (Key × V)} {ds : List (Key × PyData)}, ImKv K H vs ds → ImKv K H' vs ds
  | _, _, .nil => .nil
  | _, _, .cons h t => .cons ⟨h.1, h.2.gw e _ _⟩ (ImKv.gw e t)
def SlotOk (K : PySem.W.Frag) (H0 : Hp) (M : List Addr) (g : Gs) (H : Hp) (own : List Addr) (o : Option V) : SD → Prop
  | .no => own = []
  | .im d => own = [] ∧ ∃ v, o = some v ∧ Im K H v d
  | .va v => own = [] ∧ o = some v
  | .ls ds => ∃ p vs, own = [p] ∧ o = some (.ref p) ∧ H p = some (.lst vs) ∧ ImAll K H vs ds ∧ H0 p = none
  | .rl p ds => own = [] ∧ o = some (.ref p) ∧ H0 p = none ∧ ∃ vs, (p, vs) ∈ g ∧ ImAll K H vs ds
  | .pl p ds => own = [] ∧ o = some (.ref p) ∧ p ∉ M ∧ ∃ vs, SqL K H0 p vs ∧ ImAll K H vs ds
  | .dk kvs => ∃ p ws, own = [p] ∧ o = some (.ref p) ∧ H p = some (.dK ws) ∧ ImKv K H ws kvs ∧ H0 p = none
  | .st a r b => own = [a, r] ∧ o = some (.ref a) ∧ StAt H a r b ∧ (H0 a = none ∨ a ∈ M)

/-- the slots are as told, over the heap H that began as H0 and may have changed at M -/
structure R (K : PySem.W.Frag) (H0 : Hp) (M : List Addr) (g : Gs) (Γ : SC) (σ : St) (H : Hp) : Prop where
  but : But M H0 H
  len : σ.length = Γ.length
  slots : ∃ own : Nat → List Addr, (∀ i, SlotOk K H0 M g H (own i) (σ.getD i none) (Γ.getD i .no)) ∧ (∀ i j, i ≠ j → ∀ p, p ∈ own i → p ∉ own j) ∧ ∀ q, q ∈ g → H q.1 = some (.lst q.2) ∧ ∀ i, q.1 ∉ own i

section
variable {K : PySem.W.Frag} {H0 H H' : Hp} {M : List Addr} {g : Gs} {Γ : SC} {σ : St} {own : List Addr} {o : Option V} {x : SD} {n : Nat}
theorem SlotOk.track (h : SlotOk K H0 M g H own o x) : ∀ p, p ∈ own → ∃ u, H p = some u := by
  intro p hp
  cases x with
  | no => rw [show own = [] from h] at hp; cases hp
  | im d => rw [h.1] at hp; cases hp
  | va v => rw [h.1] at hp; cases hp
  | ls ds =>
    obtain ⟨q, vs, e, _, h1, _⟩ := h
    rw [e] at hp
    have : p = q := by simpa using hp
    subst this
    exact ⟨_, h1⟩
  | rl p ds => rw [h.1] at hp; cases hp
  | pl p ds => rw [h.1] at hp; cases hp
  | dk kvs =>
    obtain ⟨q, vs, e, _, h1, _⟩ := h
    rw [e] at hp
    have : p = q := by simpa using hp
    subst this
    exact ⟨_, h1⟩
  | st a r b =>
    obtain ⟨e, _, ⟨_, row, n, sd, h1, h2, _⟩, _⟩ := h
    rw [e] at hp
    rcases List.mem_cons.mp hp with z | z
    · subst z; exact ⟨_, h1⟩
    · have : p = r := by simpa using z
      subst this; exact ⟨_, h2⟩
/-- a change of the heap that leaves tuples and this slot's own objects -/
theorem SlotOk.keep (h : SlotOk K H0 M g H own o x) (gw : Gw H H') (k : ∀ p, p ∈ own → H' p = H p) : SlotOk K H0 M g H' own o x := by
  cases x with
  | no => exact h
  | im d => obtain ⟨e, v, e1, h1⟩ := h; exact ⟨e, v, e1, h1.gw gw d v⟩
  | va v => exact h
  | ls ds =>
    obtain ⟨q, vs, e, e1, h1, h2, h3⟩ := h
    exact ⟨q, vs, e, e1, by rw [k q (by rw [e]; simp)]; exact h1, h2.gw gw ds vs, h3⟩
  | rl p ds =>
    obtain ⟨e, e1, h0, vs, h1, h2⟩ := h
    exact ⟨e, e1, h0, vs, h1, h2.gw gw ds vs⟩
  | pl p ds =>
    obtain ⟨e, e1, h0, vs, h1, h2⟩ := h
    exact ⟨e, e1, h0, vs, h1, h2.gw gw ds vs⟩
  | dk kvs =>
    obtain ⟨q, vs, e, e1, h1, h2, h3⟩ := h
    exact ⟨q, vs, e, e1, by rw [k q (by rw [e]; simp)]; exact h1, h2.gw gw, h3⟩
  | st a r b =>
    obtain ⟨e, e1, ⟨e0, row, n, sd, h1, h2, h3⟩, h4⟩ := h
    exact ⟨e, e1, ⟨e0, row, n, sd, by rw [k a (by rw [e]; simp)]; exact h1, by rw [k r (by rw [e]; simp)]; exact h2, h3⟩, h4⟩
theorem SlotOk.grow {g' : Gs} (h : SlotOk K H0 M g H own o x) (k : ∀ q, q ∈ g → q ∈ g') : SlotOk K H0 M g' H own o x := by
  cases x with
  | rl p ds =>
    obtain ⟨e, e1, h0, vs, h1, h2⟩ := h
    exact ⟨e, e1, h0, vs, k _ h1, h2⟩
  | no => exact h
  | im d => exact h
  | va v => exact h
  | ls ds => exact h
  | pl p ds => exact h
  | dk kvs => exact h
  | st a r b => exact h
theorem R.same (r : R K H0 M g Γ σ H) (e : Same H H') : R K H0 M g Γ σ H' := by
  obtain ⟨own, h1, h2, h3⟩ := r.slots
  refine ⟨r.but.same e, r.len, own, fun i => (h1 i).keep (Same.gw e) fun p hp => ?_, h2, fun q hq => ⟨e _ _ (h3 q hq).1, (h3 q hq).2⟩⟩
  obtain ⟨u, hu⟩ := (h1 i).track p hp
  rw [hu, e p u hu]
theorem R.im {i : Nat} {d : PyData} (r : R K H0 M g Γ σ H) (h : Γ.getD i .no = .im d) : ∃ v, σ[i]? = some (some v) ∧ Im K H v d := by
  obtain ⟨own, h1, _⟩ := r.slots
  have q := h1 i
  rw [h] at q
  obtain ⟨_, v, e, m⟩ := q
  refine ⟨v, ?_, m⟩
  rw [List.getD_eq_getElem?_getD] at e
  cases z : σ[i]? with
  | none => rw [z] at e; cases e
  | some y => rw [z] at e; exact congrArg some e
theorem getD_some {i : Nat} {v : V} (e : σ.getD i none = some v) : σ[i]? = some (some v) := by
  rw [List.getD_eq_getElem?_getD] at e
  cases z : σ[i]? with
  | none => rw [z] at e; cases e
  | some y => rw [z] at e; exact congrArg some e
theorem R.va {i : Nat} {v : V} (r : R K H0 M g Γ σ H) (h : Γ.getD i .no = .va v) : σ[i]? = some (some v) := by
  obtain ⟨own, h1, _⟩ := r.slots
  have q := h1 i
  rw [h] at q
  exact getD_some q.2
theorem R.ls {i : Nat} {ds : List PyData} (r : R K H0 M g Γ σ H) (h : Γ.getD i .no = .ls ds) : ∃ p vs, σ[i]? = some (some (.ref p)) ∧ H p = some (.lst vs) ∧ ImAll K H vs ds ∧ H0 p = none := by
  obtain ⟨own, h1, _⟩ := r.slots
  have q := h1 i
  rw [h] at q
  obtain ⟨p, vs, _, e, q1, q2, q3⟩ := q
  exact ⟨p, vs, getD_some e, q1, q2, q3⟩
theorem R.st {i : Nat} {a b : Addr} {c : Nat} (r : R K H0 M g Γ σ H) (h : Γ.getD i .no = .st a b c) : σ[i]? = some (some (.ref a)) ∧ StAt H a b c := by
  obtain ⟨own, h1, _⟩ := r.slots
  have q := h1 i
  rw [h] at q
  exact ⟨getD_some q.2.1, q.2.2.1⟩
theorem getD_set {α : Type} {l : List α} {i j : Nat} {x d : α} : (l.set i x).getD j d = if i = j then (if i < l.length then x else d) else l.getD j d := by
  rw [List.getD_eq_getElem?_getD, List.getD_eq_getElem?_getD, List.getElem?_set]
  split
  · split
    · rfl
    · rename_i h1 h2
      rfl
  · rfl
/-- a slot is set; the heap is another -/
theorem R.put {i : Nat} {v : V} {x : SD} {p : List Addr} (r : R K H0 M g Γ σ H) (e : Same H H') (hi : i < Γ.length) (hx : SlotOk K H0 M g H' p (some v) x) (hp : ∀ q, q ∈ p → H q = none) : R K H0 M g (Γ.set i x) (σ.set i (some v)) H' := by
  obtain ⟨own0, h10, h20, h30⟩ := r.slots
  refine ⟨r.but.same e, by simp [r.len], fun j => if j = i then p else own0 j, fun j => ?_, fun j k hjk q hq => ?_, fun q hq => ⟨e _ _ (h30 q hq).1, fun j z => ?_⟩⟩
  · show SlotOk K H0 M g H' (if j = i then p else own0 j) _ _
    rw [getD_set, getD_set]
    by_cases hj : i = j
    · subst hj
      simp only [if_true]
      rw [if_pos (by rw [r.len]; exact hi), if_pos hi]
      exact hx
    · rw [if_neg hj, if_neg hj, if_neg (Ne.symm hj)]
      refine (h10 j).keep (Same.gw e) fun q hq => ?_
      obtain ⟨u, hu⟩ := (h10 j).track q hq
      rw [hu, e q u hu]
  · have none_own : ∀ j q, H q = none → q ∉ own0 j := fun j q hn hq => by
      obtain ⟨u, hu⟩ := (h10 j).track q hq
      rw [hn] at hu; cases hu
    have hq' : q ∈ (if j = i then p else own0 j) := hq
    show q ∉ (if k = i then p else own0 k)
    by_cases hj : j = i
    · rw [if_pos hj] at hq'
      rw [if_neg (fun z => hjk (hj.trans z.symm))]
      exact none_own k q (hp q hq')
    · rw [if_neg hj] at hq'
      by_cases hk : k = i
      · rw [if_pos hk]
        intro z
        exact none_own j q (hp q z) hq'
      · rw [if_neg hk]
        exact h20 j k hjk q hq'
  · have z' : q.1 ∈ (if j = i then p else own0 j) := z
    by_cases hj : j = i
    · rw [if_pos hj] at z'
      have q1 := hp _ z'
      rw [(h30 q hq).1] at q1; cases q1
    · rw [if_neg hj] at z'
      exact (h30 q hq).2 j z'
theorem R.setIm {i : Nat} {v : V} {d : PyData} (r : R K H0 M g Γ σ H) (e : Same H H') (hi : i < Γ.length) (m : Im K H' v d) : R K H0 M g (Γ.set i (.im d)) (σ.set i (some v)) H' :=
  r.put e hi (p := []) ⟨rfl, v, rfl, m⟩ fun _ z => nomatch z
theorem R.setVa {i : Nat} {v : V} (r : R K H0 M g Γ σ H) (e : Same H H') (hi : i < Γ.length) : R K H0 M g (Γ.set i (.va v)) (σ.set i (some v)) H' :=
  r.put e hi (p := []) ⟨rfl, rfl⟩ fun _ z => nomatch z
theorem R.fresh (r : R K H0 M g Γ σ H) (hM : ∀ a ∈ M, H0 a ≠ none → H a ≠ none) {p : Addr} (h : H p = none) : H0 p = none := by
  cases q : H0 p with
  | none => rfl
  | some o =>
    by_cases hp : p ∈ M
    · exact absurd h (hM p hp (by rw [q]; exact fun z => nomatch z))
    · rw [r.but p o hp q] at h; cases h
theorem R.setLs {i : Nat} {p : Addr} {vs : List V} {ds : List PyData} (r : R K H0 M g Γ σ H) (e : Same H H') (hi : i < Γ.length) (hn : H p = none) (h0 : H0 p = none) (hp : H' p = some (.lst vs)) (m : ImAll K H' vs ds) :
    R K H0 M g (Γ.set i (.ls ds)) (σ.set i (some (.ref p))) H' :=
  r.put e hi (p := [p]) ⟨p, vs, rfl, rfl, hp, m, h0⟩ fun q hq => by
    have : q = p := by simpa using hq
    subst this; exact hn
/-- a list of one's own is changed -/
theorem R.updLs {i : Nat} {p : Addr} {us : List V} {ds es : List PyData} (r : R K H0 M g Γ σ H) (hs : σ[i]? = some (some (.ref p))) (hg : Γ.getD i .no = .ls ds) (m : ImAll K H us es) :
    R K H0 M g (Γ.set i (.ls es)) σ (upd H p (.lst us)) := by
  obtain ⟨own, h1, h2, h3⟩ := r.slots
  have q := h1 i
  rw [hg] at q
  obtain ⟨p', vs', e1, e2, e3, e4, e5⟩ := q
  have e2' := getD_some e2
  rw [hs] at e2'
  have ep : p = p' := by
    injection e2' with a; injection a with b; injection b
  subst ep
  have mu : Mut (H p) := by rw [e3]; trivial
  have g := gw_mut (o := .lst us) mu
  have hil : i < Γ.length := by
    rw [← r.len]
    exact (List.getElem?_eq_some_iff.mp hs).1
  refine ⟨fun b o hb hq => ?_, by simp [r.len], own, fun j => ?_, h2, fun q hq => ⟨?_, (h3 q hq).2⟩⟩
  rotate_right
  · rw [upd_ne (fun z => (h3 q hq).2 i (by rw [e1, z]; simp))]
    exact (h3 q hq).1
  · rw [upd_ne (fun z => by subst z; rw [e5] at hq; cases hq)]
    exact r.but b o hb hq
  · rw [getD_set]
    by_cases hj : i = j
    · subst hj
      rw [if_pos rfl, if_pos hil]
      exact ⟨p, us, e1, e2, upd_same, m.gw g es us, e5⟩
    · rw [if_neg hj]
      refine (h1 j).keep g fun q hq => upd_ne fun z => ?_
      subst z
      exact h2 i j hj q (by rw [e1]; simp) hq
theorem R.dk {i : Nat} {ds : List (Key × PyData)} (r : R K H0 M g Γ σ H) (h : Γ.getD i .no = .dk ds) : ∃ p vs, σ[i]? = some (some (.ref p)) ∧ H p = some (.dK vs) ∧ ImKv K H vs ds ∧ H0 p = none := by
  obtain ⟨own, h1, _⟩ := r.slots
  have q := h1 i
  rw [h] at q
  obtain ⟨p, vs, _, e, q1, q2, q3⟩ := q
  exact ⟨p, vs, getD_some e, q1, q2, q3⟩
theorem R.setDk {i : Nat} {p : Addr} {vs : List (Key × V)} {ds : List (Key × PyData)} (r : R K H0 M g Γ σ H) (e : Same H H') (hi : i < Γ.length) (hn : H p = none) (h0 : H0 p = none) (hp : H' p = some (.dK vs)) (m : ImKv K H' vs ds) :
    R K H0 M g (Γ.set i (.dk ds)) (σ.set i (some (.ref p))) H' :=
  r.put e hi (p := [p]) ⟨p, vs, rfl, rfl, hp, m, h0⟩ fun q hq => by
    have : q = p := by simpa using hq
    subst this; exact hn
/-- a dict of one's own is changed -/
theorem R.updDk {i : Nat} {p : Addr} {us : List (Key × V)} {ds es : List (Key × PyData)} (r : R K H0 M g Γ σ H) (hs : σ[i]? = some (some (.ref p))) (hg : Γ.getD i .no = .dk ds) (m : ImKv K H us es) :
    R K H0 M g (Γ.set i (.dk es)) σ (upd H p (.dK us)) := by
  obtain ⟨own, h1, h2, h3⟩ := r.slots
  have q := h1 i
  rw [hg] at q
  obtain ⟨p', vs', e1, e2, e3, e4, e5⟩ := q
  have e2' := getD_some e2
  rw [hs] at e2'
  have ep : p = p' := by
    injection e2' with a; injection a with b; injection b
  subst ep
  have mu : Mut (H p) := by rw [e3]; trivial
  have g := gw_mut (o := .dK us) mu
  have hil : i < Γ.length := by
    rw [← r.len]
    exact (List.getElem?_eq_some_iff.mp hs).1
  refine ⟨fun b o hb hq => ?_, by simp [r.len], own, fun j => ?_, h2, fun q hq => ⟨?_, (h3 q hq).2⟩⟩
  rotate_right
  · rw [upd_ne (fun z => (h3 q hq).2 i (by rw [e1, z]; simp))]
    exact (h3 q hq).1
  · rw [upd_ne (fun z => by subst z; rw [e5] at hq; cases hq)]
    exact r.but b o hb hq
  · rw [getD_set]
    by_cases hj : i = j
    · subst hj
      rw [if_pos rfl, if_pos hil]
      exact ⟨p, us, e1, e2, upd_same, m.gw g, e5⟩
    · rw [if_neg hj]
      refine (h1 j).keep g fun q hq => upd_ne fun z => ?_
      subst z
      exact h2 i j hj q (by rw [e1]; simp) hq
theorem R.weak {Γ' : SC} (r : R K H0 M g Γ σ H) (hl : Γ'.length = Γ.length) (w : ∀ i, Γ'.getD i .no = Γ.getD i .no ∨ Γ'.getD i .no = .no) : R K H0 M g Γ' σ H := by
  obtain ⟨own, h1, h2, h3⟩ := r.slots
  classical
  refine ⟨r.but, r.len.trans hl.symm, fun i => if Γ'.getD i .no = Γ.getD i .no then own i else [], fun i => ?_, fun i j hij p hp => ?_, fun q hq => ⟨(h3 q hq).1, fun i z => ?_⟩⟩
  rotate_right
  · have z' : q.1 ∈ (if Γ'.getD i .no = Γ.getD i .no then own i else []) := z
    by_cases h : Γ'.getD i .no = Γ.getD i .no
    · rw [if_pos h] at z'
      exact (h3 q hq).2 i z'
    · rw [if_neg h] at z'; cases z'
  · by_cases h : Γ'.getD i .no = Γ.getD i .no
    · show SlotOk K H0 M g H (if Γ'.getD i .no = Γ.getD i .no then own i else []) _ _
      rw [if_pos h, h]
      exact h1 i
    · show SlotOk K H0 M g H (if Γ'.getD i .no = Γ.getD i .no then own i else []) _ _
      rw [if_neg h]
      rcases w i with z | z
      · exact absurd z h
      · rw [z]; rfl
  · have hp' : p ∈ (if Γ'.getD i .no = Γ.getD i .no then own i else []) := hp
    show p ∉ (if Γ'.getD j .no = Γ.getD j .no then own j else [])
    by_cases h : Γ'.getD i .no = Γ.getD i .no
    · rw [if_pos h] at hp'
      by_cases h' : Γ'.getD j .no = Γ.getD j .no
      · rw [if_pos h']; exact h2 i j hij p hp'
      · rw [if_neg h']; exact fun z => nomatch z
    · rw [if_neg h] at hp'; cases hp'
/-- the drawing state has moved on -/
theorem R.updSt {i : Nat} {a q : Addr} {b c : Nat} (r : R K H0 M g Γ σ H) (hg : Γ.getD i .no = .st a q b) (hb : But [a] H H') (s : StAt H' a q c) : R K H0 M g (Γ.set i (.st a q c)) σ H' := by
  obtain ⟨own, h1, h2, h3⟩ := r.slots
  have z := h1 i
  rw [hg] at z
  obtain ⟨e1, e2, ⟨s0, row, n, sd, s1, s2, s3, s4⟩, e4⟩ := z
  have e2' := getD_some e2
  have hil : i < Γ.length := by
    rw [← r.len]
    exact (List.getElem?_eq_some_iff.mp e2').1
  have g : Gw H H' := ⟨fun b xs z => hb b _ (fun m => by
      have : b = a := by simpa using m
      subst this; rw [s1] at z; cases z) z, fun b o u z => hb b _ (fun m => by
      have : b = a := by simpa using m
      subst this; rw [s1] at z; cases z) z⟩
  refine ⟨fun b o hm hq => ?_, by simp [r.len], own, fun j => ?_, h2, fun p hp => ⟨hb _ _ (fun m => ?_) (h3 p hp).1, (h3 p hp).2⟩⟩
  rotate_right
  · have m' : p.1 = a := by simpa using m
    exact (h3 p hp).2 i (by rw [e1, m']; simp)
  · have ne : b ≠ a := fun z => by
      subst z
      rcases e4 with h | h
      · rw [hq] at h; cases h
      · exact hm h
    exact hb b o (fun m => ne (by simpa using m)) (r.but b o hm hq)
  · rw [getD_set]
    by_cases hj : i = j
    · subst hj
      rw [if_pos rfl, if_pos hil]
      exact ⟨e1, e2, s, e4⟩
    · rw [if_neg hj]
      refine (h1 j).keep g fun p hp => ?_
      obtain ⟨u, hu⟩ := (h1 j).track p hp
      rw [hu]
      refine hb p u (fun m => ?_) hu
      have : p = a := by simpa using m
      subst this
      exact h2 i j hj p (by rw [e1]; simp) hp
theorem R.kept (r : R K H0 M g Γ σ H) : Kept g H := fun q hq => by
  obtain ⟨own, h1, h2, h3⟩ := r.slots
  exact (h3 q hq).1
/-- a new list that no name holds is kept -/
theorem R.ghost {p : Addr} {vs : List V} (r : R K H0 M g Γ σ H) (e : Same H H') (hn : H p = none) (hp : H' p = some (.lst vs)) : R K H0 M ((p, vs) :: g) Γ σ H' := by
  obtain ⟨own, h1, h2, h3⟩ := r.slots
  obtain ⟨b, l, _⟩ := r.same e
  refine ⟨b, l, own, fun i => ((h1 i).keep (Same.gw e) fun q hq => ?_).grow fun q hq => List.mem_cons_of_mem _ hq, h2, fun q hq => ?_⟩
  · obtain ⟨u, hu⟩ := (h1 i).track q hq
    rw [hu, e q u hu]
  · rcases List.mem_cons.mp hq with z | z
    · subst z
      refine ⟨hp, fun i z => ?_⟩
      obtain ⟨u, hu⟩ := (h1 i).track p z
      rw [hn] at hu; cases hu
    · exact ⟨e _ _ (h3 q z).1, (h3 q z).2⟩
def isRl : SD → Bool
  | .rl _ _ => true
  | _ => false
theorem SlotOk.less {y : Addr × List V} (h : SlotOk K H0 M (y :: g) H own o x) (k : isRl x = false) : SlotOk K H0 M g H own o x := by
  cases x with
  | rl p ds => cases k
  | no => exact h
  | im d => exact h
  | va v => exact h
  | ls ds => exact h
  | pl p ds => exact h
  | dk kvs => exact h
  | st a r b => exact h
theorem noRl {i : Nat} (h : Γ.all (fun x => !isRl x) = true) : isRl (Γ.getD i .no) = false := by
  rw [List.getD_eq_getElem?_getD]
  cases q : Γ[i]? with
  | none => rfl
  | some x =>
    have := List.all_eq_true.mp h x (List.mem_of_getElem? q)
    simpa using this
theorem R.unghost {x : Addr × List V} (r : R K H0 M (x :: g) Γ σ H) (h : Γ.all (fun x => !isRl x) = true) : R K H0 M g Γ σ H := by
  obtain ⟨own, h1, h2, h3⟩ := r.slots
  exact ⟨r.but, r.len, own, fun i => (h1 i).less (noRl h), h2, fun q hq => h3 q (List.mem_cons_of_mem _ hq)⟩
/-- a list of one's own is only read for a while -/
theorem R.freeze {i : Nat} {ds : List PyData} (r : R K H0 M g Γ σ H) (h : Γ.getD i .no = .ls ds) : ∃ p vs, H0 p = none ∧ (∀ us, (p, us) ∈ g → False) ∧ R K H0 M ((p, vs) :: g) (Γ.set i (.rl p ds)) σ H := by
  obtain ⟨own, h1, h2, h3⟩ := r.slots
  have q := h1 i
  rw [h] at q
  obtain ⟨p, vs, e, e1, e2, e3, e4⟩ := q
  have hil : i < Γ.length := by
    rw [← r.len]
    exact (List.getElem?_eq_some_iff.mp (getD_some e1)).1
  refine ⟨p, vs, e4, fun us z => (h3 _ z).2 i (by rw [e]; simp), r.but, by simp [r.len], fun j => if j = i then [] else own j, fun j => ?_, fun j k hjk a ha => ?_, fun q hq => ?_⟩
  · show SlotOk K H0 M ((p, vs) :: g) H (if j = i then [] else own j) _ _
    rw [getD_set]
    by_cases hj : i = j
    · subst hj
      simp only [if_true]
      rw [if_pos hil]
      exact ⟨rfl, e1, e4, vs, List.mem_cons_self, e3⟩
    · rw [if_neg hj, if_neg (Ne.symm hj)]
      exact (h1 j).grow fun q hq => List.mem_cons_of_mem _ hq
  · have ha' : a ∈ (if j = i then [] else own j) := ha
    show a ∉ (if k = i then [] else own k)
    by_cases hj : j = i
    · rw [if_pos hj] at ha'; cases ha'
    · rw [if_neg hj] at ha'
      by_cases hk : k = i
      · rw [if_pos hk]; exact fun z => nomatch z
      · rw [if_neg hk]; exact h2 j k hjk a ha'
  · rcases List.mem_cons.mp hq with z | z
    · subst z
      refine ⟨e2, fun j hz => ?_⟩
      have hz' : p ∈ (if j = i then [] else own j) := hz
      by_cases hj : j = i
      · rw [if_pos hj] at hz'; cases hz'
      · rw [if_neg hj] at hz'
        exact h2 i j (Ne.symm hj) p (by rw [e]; simp) hz'
    · refine ⟨(h3 q z).1, fun j hz => ?_⟩
      have hz' : q.1 ∈ (if j = i then [] else own j) := hz
      by_cases hj : j = i
      · rw [if_pos hj] at hz'; cases hz'
      · rw [if_neg hj] at hz'
        exact (h3 q z).2 j hz'
theorem R.thaw {i : Nat} {p : Addr} {vs : List V} {ds : List PyData} (r : R K H0 M ((p, vs) :: g) Γ σ H) (hn : ∀ us, (p, us) ∈ g → False) (h : Γ.getD i .no = .rl p ds) (hr : (Γ.set i .no).all (fun x => !isRl x) = true) : R K H0 M g (Γ.set i (.ls ds)) σ H := by
  obtain ⟨own, h1, h2, h3⟩ := r.slots
  have q := h1 i
  rw [h] at q
  obtain ⟨e, e1, e4, us, e2, e3⟩ := q
  have eu : us = vs := by
    rcases List.mem_cons.mp e2 with z | z
    · exact (Prod.mk.inj z).2
    · exact (hn us z).elim
  subst eu
  have hil : i < Γ.length := by
    rw [← r.len]
    exact (List.getElem?_eq_some_iff.mp (getD_some e1)).1
  have hp := h3 (p, us) List.mem_cons_self
  refine ⟨r.but, by simp [r.len], fun j => if j = i then [p] else own j, fun j => ?_, fun j k hjk a ha => ?_, fun q hq => ?_⟩
  · show SlotOk K H0 M g H (if j = i then [p] else own j) _ _
    rw [getD_set]
    by_cases hj : i = j
    · subst hj
      simp only [if_true]
      rw [if_pos hil]
      exact ⟨p, us, rfl, e1, hp.1, e3, e4⟩
    · rw [if_neg hj, if_neg (Ne.symm hj)]
      refine (h1 j).less ?_
      have := noRl (i := j) hr
      rw [getD_set, if_neg hj] at this
      exact this
  · have ha' : a ∈ (if j = i then [p] else own j) := ha
    show a ∉ (if k = i then [p] else own k)
    by_cases hj : j = i
    · rw [if_pos hj] at ha'
      have : a = p := by simpa using ha'
      subst this
      rw [if_neg (fun z => hjk (hj.trans z.symm))]
      exact hp.2 k
    · rw [if_neg hj] at ha'
      by_cases hk : k = i
      · rw [if_pos hk]
        intro z
        have : a = p := by simpa using z
        subst this
        exact hp.2 j ha'
      · rw [if_neg hk]; exact h2 j k hjk a ha'
  · refine ⟨(h3 q (List.mem_cons_of_mem _ hq)).1, fun j hz => ?_⟩
    have hz' : q.1 ∈ (if j = i then [p] else own j) := hz
    by_cases hj : j = i
    · rw [if_pos hj] at hz'
      have : q.1 = p := by simpa using hz'
      exact hn q.2 (by rw [← this]; exact hq)
    · rw [if_neg hj] at hz'
      exact (h3 q (List.mem_cons_of_mem _ hq)).2 j hz'
theorem R.rl {i : Nat} {p : Addr} {ds : List PyData} (r : R K H0 M g Γ σ H) (h : Γ.getD i .no = .rl p ds) : σ[i]? = some (some (.ref p)) ∧ ∃ vs, H p = some (.lst vs) ∧ ImAll K H vs ds := by
  obtain ⟨own, h1, _, h3⟩ := r.slots
  have q := h1 i
  rw [h] at q
  obtain ⟨e, e1, h0, vs, e2, e3⟩ := q
  exact ⟨getD_some e1, vs, (h3 _ e2).1, e3⟩
theorem But.seq {a : Addr} {xs : List V} (b : But M H H') (h : SqL K H a xs) (n : a ∉ M) : SqL K H' a xs := by
  rcases h with (h | ⟨o, h⟩) | h
  · exact .inl (.inl (b _ _ n h))
  · exact .inl (.inr ⟨o, b _ _ n h⟩)
  · exact .inr h
theorem R.pl {i : Nat} {p : Addr} {ds : List PyData} (r : R K H0 M g Γ σ H) (h : Γ.getD i .no = .pl p ds) : σ[i]? = some (some (.ref p)) ∧ ∃ vs, SqL K H p vs ∧ ImAll K H vs ds := by
  obtain ⟨own, h1, _, h3⟩ := r.slots
  have q := h1 i
  rw [h] at q
  obtain ⟨e, e1, h0, vs, e2, e3⟩ := q
  exact ⟨getD_some e1, vs, r.but.seq e2 h0, e3⟩
/-- at the entry of a def: data -/
def SlotV (K : PySem.W.Frag) (H : Hp) : SD → V → Prop
  | .no, _ => True
  | .im d, v => Im K H v d
  | .va u, v => v = u
  | .pl p ds, v => v = .ref p ∧ ∃ vs, SqL K H p vs ∧ ImAll K H vs ds
  | _, _ => False
abbrev SlotVs (K : PySem.W.Frag) (H : Hp) : SC → List V → Prop := Paired (SlotV K H)
theorem SlotV.ok {v : V} (h : SlotV K H x v) (hM : ∀ p ds, x = .pl p ds → p ∉ M) : SlotOk K H M g H [] (some v) x := by
  cases x with
  | no => rfl
  | im d => exact ⟨rfl, v, rfl, h⟩
  | va u => exact ⟨rfl, congrArg some h⟩
  | ls d => exact h.elim
  | rl p d => exact h.elim
  | dk d => exact h.elim
  | pl p d => exact ⟨rfl, congrArg some h.1, hM p d rfl, h.2⟩
  | st a r b => exact h.elim
theorem SlotVs.ok {n : Nat} : ∀ {Γ : SC} {vs : List V} (i : Nat), SlotVs K H Γ vs → (∀ p ds, SD.pl p ds ∈ Γ → p ∉ M) → SlotOk K H M g H [] ((vs.map some ++ List.replicate n none).getD i none) ((Γ ++ List.replicate n SD.no).getD i .no)
  | _, _, i, .nil, _ => by
    rw [List.map_nil, List.nil_append, List.nil_append]
    have e : (List.replicate n SD.no).getD i .no = .no := by
      rw [List.getD_eq_getElem?_getD, List.getElem?_replicate]
      split <;> rfl
    rw [e]; rfl
  | x :: _, _, 0, .cons h _, m => SlotV.ok (x := x) h fun p ds e => m p ds (by rw [e]; exact List.mem_cons_self)
  | _, _, i + 1, .cons _ h, m => SlotVs.ok (n := n) i h fun p ds z => m p ds (List.mem_cons_of_mem _ z)
theorem SlotVs.len : ∀ {Γ : SC} {vs : List V}, SlotVs K H Γ vs → Γ.length = vs.length
  | _, _, .nil => rfl
  | _, _, .cons _ h => congrArg (· + 1) (SlotVs.len h)
theorem SlotVs.ims : ∀ {ds : List PyData} {vs : List V}, ImAll K H vs ds → SlotVs K H (ds.map SD.im) vs
  | [], _, h => by cases h; exact .nil
  | d :: ds, _, h => by
    cases h with
    | cons a b => exact .cons a (SlotVs.ims b)
theorem R.start {vs : List V} {N : List Str} (h : SlotVs K H Γ vs) (hN : N.length - vs.length = n) (hM : ∀ p ds, SD.pl p ds ∈ Γ → p ∉ M) : R K H M [] (Γ ++ List.replicate n .no) (L2.start N vs) H := by
  refine ⟨But.refl M H, ?_, fun _ => [], fun i => ?_, fun _ _ _ p hp => (nomatch hp), fun _ z => (nomatch z)⟩
  · unfold L2.start
    rw [List.length_append, List.length_append, List.length_map, List.length_replicate, List.length_replicate, h.len, hN]
  · unfold L2.start
    rw [hN]
    exact h.ok i hM
/-- .. the first parameter the drawing state -/
theorem R.startS {vs : List V} {N : List Str} {a q : Addr} {b : Nat} (s : StAt H a q b) (ha : a ∈ M) (h : SlotVs K H Γ vs) (hN : N.length - (vs.length + 1) = n) (hM : ∀ p ds, SD.pl p ds ∈ Γ → p ∉ M) : R K H M [] (.st a q b :: (Γ ++ List.replicate n .no)) (L2.start N (.ref a :: vs)) H := by
  refine ⟨But.refl M H, ?_, fun i => if i = 0 then [a, q] else [], fun i => ?_, fun i j hij p hp => ?_, fun _ z => nomatch z⟩
  · unfold L2.start
    simp only [List.length_append, List.length_cons, List.length_map, List.length_replicate, h.len, hN]
    omega
  · unfold L2.start
    rw [List.length_cons, hN]
    cases i with
    | zero => exact ⟨rfl, rfl, s, .inr ha⟩
    | succ i => exact h.ok i hM
  · have hp' : p ∈ (if i = 0 then [a, q] else []) := hp
    show p ∉ (if j = 0 then [a, q] else [])
    by_cases hi : i = 0
    · rw [if_neg (fun z => hij (hi.trans z.symm))]
      exact fun z => nomatch z
    · rw [if_neg hi] at hp'; cases hp'
end
end G

namespace G
open PySem PySem.Spec PyProof.Rows L2

/-! ### expressions over slots -/
abbrev EK := Hp → V → Hp → Prop
/-- e gives a value that P tells (the heap before, the value, the heap after); nothing tracked changes -/
def EE (X : Cx) (H0 : Hp) (M : List Addr) (Γ : SC) (e : Expr) (P : EK) : Prop :=
  ∀ g σ H Q, R X.K H0 M g Γ σ H → (∀ v H', Same H H' → P H v H' → Q v H') → wE X e σ H Q
abbrev kI (K : PySem.W.Frag) (d : PyData) : EK := fun _ v H' => Im K H' v d
abbrev kU (u : V) : EK := fun _ v _ => v = u
/-- a new list -/
abbrev kL (K : PySem.W.Frag) (ds : List PyData) : EK := fun H v H' => ∃ p vs, v = .ref p ∧ H p = none ∧ H' p = some (.lst vs) ∧ ImAll K H' vs ds
abbrev EI (X : Cx) (H0 : Hp) (M : List Addr) (Γ : SC) (e : Expr) (d : PyData) : Prop := EE X H0 M Γ e (kI X.K d)
abbrev EV (X : Cx) (H0 : Hp) (M : List Addr) (Γ : SC) (e : Expr) (u : V) : Prop := EE X H0 M Γ e (kU u)
abbrev EL (X : Cx) (H0 : Hp) (M : List Addr) (Γ : SC) (e : Expr) (ds : List PyData) : Prop := EE X H0 M Γ e (kL X.K ds)
def ET (X : Cx) (H0 : Hp) (M : List Addr) (Γ : SC) (e : Expr) (b : Bool) : Prop :=
  ∀ g σ H Q, R X.K H0 M g Γ σ H → (∀ H', Same H H' → Q b H') → wT X e σ H Q
abbrev AK := Hp → List V → Hp → Prop
def AA (X : Cx) (H0 : Hp) (M : List Addr) (Γ : SC) (es : List Expr) (P : AK) : Prop :=
  ∀ g σ H Q, R X.K H0 M g Γ σ H → (∀ vs H', Same H H' → P H vs H' → Q vs H') → wA X es σ H Q
abbrev AI (X : Cx) (H0 : Hp) (M : List Addr) (Γ : SC) (es : List Expr) (ds : List PyData) : Prop := AA X H0 M Γ es (fun _ vs H' => ImAll X.K H' vs ds)

theorem Im.int_inv {K : PySem.W.Frag} {H : Hp} {v : V} {i : Int} (h : Im K H v (.int i)) : v = .int i := by cases h; rfl
theorem Im.str_inv {K : PySem.W.Frag} {H : Hp} {v : V} {i : Str} (h : Im K H v (.str i)) : v = .str i := by cases h; rfl
theorem Im.bl_inv {K : PySem.W.Frag} {H : Hp} {v : V} {i : Bool} (h : Im K H v (.bool i)) : v = .bl i := by cases h; rfl
theorem Im.non_inv {K : PySem.W.Frag} {H : Hp} {v : V} (h : Im K H v .none) : v = .non := by cases h; rfl
theorem Im.tup_inv {K : PySem.W.Frag} {H : Hp} {v : V} {ds : List PyData} (h : Im K H v (.tuple ds)) : ∃ a xs, v = .ref a ∧ SqT K H a xs ∧ ImAll K H xs ds := by
  cases h with
  | tup a b => exact ⟨_, _, rfl, a, b⟩

section
variable {X : Cx} {H0 : Hp} {M : List Addr} {Γ : SC} {e a b c : Expr} {es : List Expr} {pos p0 : Pos} {P Pa Pb : EK}
theorem EE.mono {P' : EK} (h : EE X H0 M Γ e P) (q : ∀ H v H', Same H H' → P H v H' → P' H v H') : EE X H0 M Γ e P' := fun g σ H Q r k => h g σ H Q r fun v H' s z => k v H' s (q H v H' s z)
theorem EI.to {d d' : PyData} (h : EI X H0 M Γ e d) (q : d = d') : EI X H0 M Γ e d' := q ▸ h
theorem EL.to {d d' : List PyData} (h : EL X H0 M Γ e d) (q : d = d') : EL X H0 M Γ e d' := q ▸ h
theorem ET.to {d d' : Bool} (h : ET X H0 M Γ e d) (q : d = d') : ET X H0 M Γ e d' := q ▸ h

theorem i_var (i : Nat) {x : Str} {d : PyData} (h : Γ.getD i .no = .im d) (hN : X.N[i]? = some x := by rfl) (hv : Vis X.env.scope x := by first | exact Or.inl rfl | exact Or.inr (Or.inl rfl) | exact Or.inr (Or.inr rfl)) (hd : (x == ("__debug__" : Str)) = false := by decide)
    (hcd : (x == ("__classdict__" : Str)) = false := by decide) : EI X H0 M Γ (.Name x pos) d := fun g σ H Q r k => by
  obtain ⟨v, e, m⟩ := r.im h
  exact wE.of (pe_var hN hv hd hcd) ⟨v, e, k v H (Same.refl H) m⟩
theorem v_var (i : Nat) {x : Str} {v : V} (h : Γ.getD i .no = .va v) (hN : X.N[i]? = some x := by rfl) (hv : Vis X.env.scope x := by first | exact Or.inl rfl | exact Or.inr (Or.inl rfl) | exact Or.inr (Or.inr rfl)) (hd : (x == ("__debug__" : Str)) = false := by decide)
    (hcd : (x == ("__classdict__" : Str)) = false := by decide) : EV X H0 M Γ (.Name x pos) v := fun g σ H Q r k => by
  exact wE.of (pe_var hN hv hd hcd) ⟨v, r.va h, k v H (Same.refl H) rfl⟩
/-- a list of one's own, as it stands -/
abbrev kO (K : PySem.W.Frag) (ds : List PyData) : EK := fun _ v H' => ∃ p vs, v = .ref p ∧ H' p = some (.lst vs) ∧ ImAll K H' vs ds
theorem o_var (i : Nat) {x : Str} {ds : List PyData} (h : Γ.getD i .no = .ls ds) (hN : X.N[i]? = some x := by rfl) (hv : Vis X.env.scope x := by first | exact Or.inl rfl | exact Or.inr (Or.inl rfl) | exact Or.inr (Or.inr rfl)) (hd : (x == ("__debug__" : Str)) = false := by decide)
    (hcd : (x == ("__classdict__" : Str)) = false := by decide) : EE X H0 M Γ (.Name x pos) (kO X.K ds) := fun g σ H Q r k => by
  obtain ⟨p, vs, e, m, q, _⟩ := r.ls h
  exact wE.of (pe_var hN hv hd hcd) ⟨_, e, k _ H (Same.refl H) ⟨p, vs, rfl, m, q⟩⟩
abbrev kS (a r : Addr) (b : Nat) : EK := fun _ v H' => v = .ref a ∧ StAt H' a r b
theorem s_var (i : Nat) {x : Str} {q r : Addr} {n : Nat} (h : Γ.getD i .no = .st q r n) (hN : X.N[i]? = some x := by rfl) (hv : Vis X.env.scope x := by first | exact Or.inl rfl | exact Or.inr (Or.inl rfl) | exact Or.inr (Or.inr rfl)) (hd : (x == ("__debug__" : Str)) = false := by decide)
    (hcd : (x == ("__classdict__" : Str)) = false := by decide) : EE X H0 M Γ (.Name x pos) (kS q r n) := fun g σ H Q r k => by
  obtain ⟨e, m⟩ := r.st h
  exact wE.of (pe_var hN hv hd hcd) ⟨_, e, k _ H (Same.refl H) ⟨rfl, m⟩⟩
theorem i_int {i : Int} {j} : EI X H0 M Γ (.Constant (.int i) j pos) (.int i) := fun g σ H Q r k => wE.of pe_int (k _ H (Same.refl H) (.int i))
theorem i_str {i : Str} {j} : EI X H0 M Γ (.Constant (.str i) j pos) (.str i) := fun g σ H Q r k => wE.of pe_str (k _ H (Same.refl H) (.str i))
theorem i_bl {i : Bool} {j} : EI X H0 M Γ (.Constant (.bool i) j pos) (.bool i) := fun g σ H Q r k => wE.of pe_bl (k _ H (Same.refl H) (.bl i))
theorem i_non {j} : EI X H0 M Γ (.Constant .none j pos) .none := fun g σ H Q r k => wE.of pe_non (k _ H (Same.refl H) .non)
/-- two expressions and an operator -/
theorem e_bin {op : Operator} {r : R2} (ho : OpR X (binaryOp op) r) (ha : EE X H0 M Γ a Pa) (hb : EE X H0 M Γ b Pb)
    (h : ∀ H H1 H2 x y (Q : VK), Same H H1 → Same H1 H2 → Pa H x H1 → Pb H1 y H2 → (∀ v H', Same H2 H' → P H v H' → Q v H') → r x y H2 Q) : EE X H0 M Γ (.BinOp a op b pos) P := fun g σ H Q R k =>
  wE.of (pe_op ho pe_w pe_w) (ha g σ H _ R fun x H1 s1 p1 => hb g σ H1 _ (R.same s1) fun y H2 s2 p2 => h H H1 H2 x y Q s1 s2 p1 p2 fun v H' s3 p3 => k v H' (s1.trans (s2.trans s3)) p3)
theorem e_cmp {op : CmpOp} {r : R2} (ho : OpR X (compareOp op) r) (ha : EE X H0 M Γ a Pa) (hb : EE X H0 M Γ b Pb) (hm : behindInMarks op b = false)
    (h : ∀ H H1 H2 x y (Q : VK), Same H H1 → Same H1 H2 → Pa H x H1 → Pb H1 y H2 → (∀ v H', Same H2 H' → P H v H' → Q v H') → r x y H2 Q) : EE X H0 M Γ (.Compare a [op] [b] pos) P := fun g σ H Q R k =>
  wE.of (pe_cmpR ho pe_w pe_w hm) (ha g σ H _ R fun x H1 s1 p1 => hb g σ H1 _ (R.same s1) fun y H2 s2 p2 => h H H1 H2 x y Q s1 s2 p1 p2 fun v H' s3 p3 => k v H' (s1.trans (s2.trans s3)) p3)
section
variable {i j : Int}
theorem i_add (ha : EI X H0 M Γ a (.int i)) (hb : EI X H0 M Γ b (.int j)) : EI X H0 M Γ (.BinOp a .Add b pos) (.int (i + j)) :=
  e_bin op_add ha hb fun H H1 H2 x y Q s1 s2 p1 p2 k => ⟨i, j, p1.int_inv, p2.int_inv, k _ _ (Same.refl _) (.int _)⟩
theorem i_sub (ha : EI X H0 M Γ a (.int i)) (hb : EI X H0 M Γ b (.int j)) : EI X H0 M Γ (.BinOp a .Sub b pos) (.int (i - j)) :=
  e_bin op_sub ha hb fun H H1 H2 x y Q s1 s2 p1 p2 k => ⟨i, j, p1.int_inv, p2.int_inv, k _ _ (Same.refl _) (.int _)⟩
theorem i_mul (hc : CMul i j) (ha : EI X H0 M Γ a (.int i)) (hb : EI X H0 M Γ b (.int j)) : EI X H0 M Γ (.BinOp a .Mult b pos) (.int (i * j)) :=
  e_bin op_mul ha hb fun H H1 H2 x y Q s1 s2 p1 p2 k => ⟨i, j, p1.int_inv, p2.int_inv, hc, k _ _ (Same.refl _) (.int _)⟩
theorem i_mod (hc : 0 < j) (ha : EI X H0 M Γ a (.int i)) (hb : EI X H0 M Γ b (.int j)) : EI X H0 M Γ (.BinOp a .Mod b pos) (.int (i % j)) :=
  e_bin op_mod ha hb fun H H1 H2 x y Q s1 s2 p1 p2 k => ⟨i, j, p1.int_inv, p2.int_inv, hc, k _ _ (Same.refl _) (.int _)⟩
theorem i_div (hc : CDiv i j) (ha : EI X H0 M Γ a (.int i)) (hb : EI X H0 M Γ b (.int j)) : EI X H0 M Γ (.BinOp a .FloorDiv b pos) (.int (i / j)) :=
  e_bin op_fdiv ha hb fun H H1 H2 x y Q s1 s2 p1 p2 k => ⟨i, j, p1.int_inv, p2.int_inv, hc, k _ _ (Same.refl _) (.int _)⟩
theorem i_pow (hc : CPow i j) (ha : EI X H0 M Γ a (.int i)) (hb : EI X H0 M Γ b (.int j)) : EI X H0 M Γ (.BinOp a .Pow b pos) (.int (i ^ j.toNat)) :=
  e_bin op_pow ha hb fun H H1 H2 x y Q s1 s2 p1 p2 k => ⟨i, j, p1.int_inv, p2.int_inv, hc, k _ _ (Same.refl _) (.int _)⟩
theorem i_lt (ha : EI X H0 M Γ a (.int i)) (hb : EI X H0 M Γ b (.int j)) : EI X H0 M Γ (.Compare a [.Lt] [b] pos) (.bool (decide (i < j))) :=
  e_cmp op_lt ha hb (nomark _) fun H H1 H2 x y Q s1 s2 p1 p2 k => ⟨i, j, p1.int_inv, p2.int_inv, k _ _ (Same.refl _) (.bl _)⟩
theorem i_le (ha : EI X H0 M Γ a (.int i)) (hb : EI X H0 M Γ b (.int j)) : EI X H0 M Γ (.Compare a [.LtE] [b] pos) (.bool (decide (i ≤ j))) :=
  e_cmp op_le ha hb (nomark _) fun H H1 H2 x y Q s1 s2 p1 p2 k => ⟨i, j, p1.int_inv, p2.int_inv, k _ _ (Same.refl _) (.bl _)⟩
theorem i_gt (ha : EI X H0 M Γ a (.int i)) (hb : EI X H0 M Γ b (.int j)) : EI X H0 M Γ (.Compare a [.Gt] [b] pos) (.bool (decide (j < i))) :=
  e_cmp op_gt ha hb (nomark _) fun H H1 H2 x y Q s1 s2 p1 p2 k => ⟨i, j, p1.int_inv, p2.int_inv, k _ _ (Same.refl _) (.bl _)⟩
theorem i_ge (ha : EI X H0 M Γ a (.int i)) (hb : EI X H0 M Γ b (.int j)) : EI X H0 M Γ (.Compare a [.GtE] [b] pos) (.bool (decide (j ≤ i))) :=
  e_cmp op_ge ha hb (nomark _) fun H H1 H2 x y Q s1 s2 p1 p2 k => ⟨i, j, p1.int_inv, p2.int_inv, k _ _ (Same.refl _) (.bl _)⟩
theorem i_neg (ha : EI X H0 M Γ a (.int i)) : EI X H0 M Γ (.UnaryOp .USub a pos) (.int (-i)) := fun g σ H Q R k =>
  wE.of (pe_un un_neg pe_w) (ha g σ H _ R fun x H1 s1 p1 => ⟨i, p1.int_inv, k _ _ s1 (.int _)⟩)
end
/-! ### == of data -/
def rEqP (K : PySem.W.Frag) : R2 := fun x y H Q => ∃ d e, Im K H x d ∧ Im K H y e ∧ d.depth ≤ 64 ∧ Q (.bl (PyData.eqv d e)) H
def rNeP (K : PySem.W.Frag) : R2 := fun x y H Q => ∃ d e, Im K H x d ∧ Im K H y e ∧ d.depth ≤ 64 ∧ Q (.bl (!PyData.eqv d e)) H
theorem op_eqP (hu : X.A.units + 64 < cLine) : OpR X (compareOp .Eq) (rEqP X.K) := by
  intro pins s σ H x y v u Q I rx ry h
  obtain ⟨d, e, hd, he, sd, q⟩ := h
  obtain ⟨as, r1⟩ := Dp.reads I d x v (hd.dp d x) rx
  obtain ⟨bs, r2⟩ := Dp.reads I e y u (he.dp e y) ry
  have : min d.depth e.depth ≤ d.depth := Nat.min_le_left _ _
  exact SeqAt.eq_plain r1 r2 (hd.plain d x) (he.plain e y) (by omega) ⟨.bl _, H, I, rfl, q⟩
theorem op_neP (hu : X.A.units + 64 < cLine) : OpR X (compareOp .NotEq) (rNeP X.K) := by
  intro pins s σ H x y v u Q I rx ry h
  obtain ⟨d, e, hd, he, sd, q⟩ := h
  obtain ⟨as, r1⟩ := Dp.reads I d x v (hd.dp d x) rx
  obtain ⟨bs, r2⟩ := Dp.reads I e y u (he.dp e y) ry
  have : min d.depth e.depth ≤ d.depth := Nat.min_le_left _ _
  exact SeqAt.ne_plain r1 r2 (hd.plain d x) (he.plain e y) (by omega) ⟨.bl _, H, I, rfl, q⟩
variable {k : Nat} {d d' : PyData}
theorem i_eq (hr : Room k X.A) (hd : d.depth ≤ 64) (ha : EI X H0 M Γ a d) (hb : EI X H0 M Γ b d') : EI X H0 M Γ (.Compare a [.Eq] [b] pos) (.bool (PyData.eqv d d')) :=
  e_cmp (op_eqP hr.units) ha hb (nomark _) fun H H1 H2 x y Q s1 s2 p1 p2 k => ⟨d, d', p1.same s2, p2, hd, k _ _ (Same.refl _) (.bl _)⟩
theorem i_ne (hr : Room k X.A) (hd : d.depth ≤ 64) (ha : EI X H0 M Γ a d) (hb : EI X H0 M Γ b d') : EI X H0 M Γ (.Compare a [.NotEq] [b] pos) (.bool (!PyData.eqv d d')) :=
  e_cmp (op_neP hr.units) ha hb (nomark _) fun H H1 H2 x y Q s1 s2 p1 p2 k => ⟨d, d', p1.same s2, p2, hd, k _ _ (Same.refl _) (.bl _)⟩
/-! ### arguments -/
theorem a_nil : AI X H0 M Γ [] [] := fun g σ H Q R k => wA.of pa_nil (k _ H (Same.refl H) .nil)
theorem a_cons {ds : List PyData} (he : EI X H0 M Γ e d) (ht : AI X H0 M Γ es ds) (hs : starEach (e :: es) X.env = (false, eval e X.env) :: starEach es X.env := by exact star1 rfl) : AI X H0 M Γ (e :: es) (d :: ds) := fun g σ H Q R k =>
  wA.of (pa_cons pe_w pa_w hs) (he g σ H _ R fun x H1 s1 p1 => ht g σ H1 _ (R.same s1) fun xs H2 s2 p2 => k _ H2 (s1.trans s2) (.cons (p1.same s2) p2))
theorem a_nilA : AA X H0 M Γ [] (fun _ vs _ => vs = []) := fun g σ H Q R k => wA.of pa_nil (k _ H (Same.refl H) rfl)
theorem a_consA {Pe : EK} {Ps : AK} (he : EE X H0 M Γ e Pe) (ht : AA X H0 M Γ es Ps) (hs : starEach (e :: es) X.env = (false, eval e X.env) :: starEach es X.env := by exact star1 rfl) :
    AA X H0 M Γ (e :: es) (fun H vs H' => ∃ v r H1, vs = v :: r ∧ Same H H1 ∧ Same H1 H' ∧ Pe H v H1 ∧ Ps H1 r H') := fun g σ H Q R k =>
  wA.of (pa_cons pe_w pa_w hs) (he g σ H _ R fun x H1 s1 p1 => ht g σ H1 _ (R.same s1) fun xs H2 s2 p2 => k _ H2 (s1.trans s2) ⟨x, xs, H1, rfl, s1, s2, p1, p2⟩)
/-! ### displays -/
theorem i_tup {ds : List PyData} {x1} (h : AI X H0 M Γ es ds) (hl : ds.length ≤ 100000 := by first | decide | exact Nat.le_of_ble_eq_true rfl) : EI X H0 M Γ (.Tuple es x1 pos) (.tuple ds) := fun g σ H Q R k =>
  wE.of (pe_tup pa_w) (h g σ H _ R fun xs H1 s1 p1 => ⟨by rw [p1.len]; exact Nat.le_trans hl (by decide), fun p hp => k _ _ (s1.trans (same_new hp)) (.tup (.inl (.inl upd_same)) (p1.same (same_new hp)))⟩)
theorem l_lst {ds : List PyData} (h : AI X H0 M Γ es ds) (hl : ds.length ≤ 100000 := by first | decide | exact Nat.le_of_ble_eq_true rfl) : EL X H0 M Γ (.List es pos) ds := fun g σ H Q R k =>
  wE.of (pe_lst pa_w) (h g σ H _ R fun xs H1 s1 p1 => ⟨by rw [p1.len]; exact Nat.le_trans hl (by decide), fun p hp => k _ _ (s1.trans (same_new hp)) ⟨p, xs, rfl, s1.free hp, upd_same, p1.same (same_new hp)⟩⟩)
/-! ### tuples: items, slices, + -/
theorem atI_im {K : PySem.W.Frag} {H : Hp} {vs : List V} {ds : List PyData} {i : Int} (h : ImAll K H vs ds) (e : atI ds i = some d) : ∃ v, atI vs i = some v ∧ Im K H v d := by
  unfold atI at e ⊢
  rw [h.len]
  cases q : ixN ds.length i with
  | none => rw [q] at e; cases e
  | some j =>
    rw [q] at e
    exact h.get (i := j) e
theorem i_ixT {ds : List PyData} {i : Int} (hi : atI ds i = some d) (ha : EI X H0 M Γ a (.tuple ds)) (hb : EI X H0 M Γ b (.int i)) (hs : PlainIx b := by exact fun _ _ => rfl) : EI X H0 M Γ (.Subscript a b pos) d := fun g σ H Q R k =>
  wE.of (pe_ix ix_tup pe_w pe_w hs) (ha g σ H _ R fun x H1 s1 p1 => hb g σ H1 _ (R.same s1) fun y H2 s2 p2 => by
    obtain ⟨q, xs, rfl, hq, hx⟩ := (p1.same s2).tup_inv
    obtain ⟨v, h1, h2⟩ := atI_im hx hi
    exact ⟨q, xs, i, v, rfl, p2.int_inv, hq, h1, k _ _ (s1.trans s2) h2⟩)
/-- an item of a list of one's own -/
theorem i_ixO {ds : List PyData} {i : Int} (hi : atI ds i = some d) (ha : EE X H0 M Γ a (kO X.K ds)) (hb : EI X H0 M Γ b (.int i)) (hs : PlainIx b := by exact fun _ _ => rfl) : EI X H0 M Γ (.Subscript a b pos) d := fun g σ H Q R k =>
  wE.of (pe_ix ix_list pe_w pe_w hs) (ha g σ H _ R fun x H1 s1 p1 => hb g σ H1 _ (R.same s1) fun y H2 s2 p2 => by
    obtain ⟨q, xs, rfl, hq, hx⟩ := p1
    obtain ⟨v, h1, h2⟩ := atI_im (hx.same s2) hi
    exact ⟨q, xs, i, v, rfl, p2.int_inv, SqL.of (s2 _ _ hq), h1, k _ _ (s1.trans s2) h2⟩)
def cutD (ds : List PyData) (lo hi : Option Int) : List PyData := (ds.drop (HT.sIx ds.length 0 lo)).take (HT.sIx ds.length ds.length hi - HT.sIx ds.length 0 lo)
theorem cutD_im {K : PySem.W.Frag} {H : Hp} {vs : List V} {ds : List PyData} {lo hi : Option Int} (h : ImAll K H vs ds) : ImAll K H (cutV vs lo hi) (cutD ds lo hi) := by
  unfold cutV cutD
  rw [h.len]
  exact (h.drop _).take _
def PartE (X : Cx) (H0 : Hp) (M : List Addr) (Γ : SC) (e : Option Expr) (o : Option Int) : Prop :=
  (e = none ∧ o = none) ∨ ∃ e' i, e = some e' ∧ o = some i ∧ EI X H0 M Γ e' (.int i)
theorem part_none : PartE X H0 M Γ none none := .inl ⟨rfl, rfl⟩
theorem part_some {i : Int} (h : EI X H0 M Γ e (.int i)) : PartE X H0 M Γ (some e) (some i) := .inr ⟨e, i, rfl, rfl, h⟩
def wO (X : Cx) (e : Option Expr) : TO := match e with | none => tNoPart | some e => tPart (wE X e)
theorem po_w {e : Option Expr} : PO X e (wO X e) := by
  cases e with
  | none => exact po_none
  | some e => exact po_some pe_w
theorem PartE.go {lo : Option Expr} {o : Option Int} (h : PartE X H0 M Γ lo o) {σ : St} {H : Hp} {Q : Option Int → Hp → Prop} {g : Gs} (R : R X.K H0 M g Γ σ H) (k : ∀ H', Same H H' → Q o H') : wO X lo σ H Q := by
  rcases h with ⟨rfl, rfl⟩ | ⟨e, i, rfl, rfl, h⟩
  · exact k H (Same.refl H)
  · exact h g σ H _ R fun x H1 s1 p1 => ⟨i, p1.int_inv, k H1 s1⟩
theorem i_slT {ds : List PyData} {lo hi : Option Expr} {l u : Option Int} {p2 : Pos} (ha : EI X H0 M Γ a (.tuple ds)) (hl : PartE X H0 M Γ lo l) (hh : PartE X H0 M Γ hi u) :
    EI X H0 M Γ (.Subscript a (.Slice lo hi none p2) pos) (.tuple (cutD ds l u)) := fun g σ H Q R k =>
  wE.of (pe_slice sl_tupA pe_w po_w po_w) (ha g σ H _ R fun x H1 s1 p1 => hl.go (R.same s1) fun H2 s2 => hh.go (R.same (s1.trans s2)) fun H3 s3 => by
    have p3 := (p1.same s2).same s3
    obtain ⟨q, xs, rfl, hq, hx⟩ := id p3.tup_inv
    refine ⟨q, xs, rfl, hq, fun hw => ?_, fun _ p hp => ?_⟩
    · have e : cutD ds l u = ds := by
        unfold cutD
        rw [hx.len] at hw
        rw [hw.1, hw.2]
        simp
      rw [e] at k
      exact k _ _ (s1.trans (s2.trans s3)) p3
    · exact k _ _ ((s1.trans (s2.trans s3)).trans (same_new hp)) (.tup (.inl (.inl upd_same)) ((cutD_im hx).same (same_new hp))))
theorem i_catT {ds es : List PyData} (hz : ds.length + es.length ≤ 100000) (ha : EI X H0 M Γ a (.tuple ds)) (hb : EI X H0 M Γ b (.tuple es)) : EI X H0 M Γ (.BinOp a .Add b pos) (.tuple (ds ++ es)) :=
  e_bin op_catA ha hb fun H H1 H2 x y Q s1 s2 p1 p2 k => by
    have p1' := p1.same s2
    obtain ⟨q, xs, rfl, hq, hx⟩ := id p1'.tup_inv
    obtain ⟨q', ys, rfl, hq', hy⟩ := id p2.tup_inv
    refine ⟨q, q', xs, ys, rfl, rfl, hq, hq', by rw [hx.len, hy.len]; exact Nat.le_trans hz (by decide), fun e => ?_, fun _ e => ?_, fun _ _ p hp => ?_⟩
    · subst e
      have : ds = [] := by cases hx; rfl
      subst this
      exact k _ _ (Same.refl _) p2
    · subst e
      have : es = [] := by cases hy; rfl
      subst this
      rw [List.append_nil] at k
      exact k _ _ (Same.refl _) p1'
    · exact k _ _ (same_new hp) (.tup (.inl (.inl upd_same)) ((hx.append hy).same (same_new hp)))
/-! ### calls of one's own defs -/
structure Has (P : Program) (w : World) (K : PySem.W.Frag) (mg : Str → Option Value) (base : Heap) (CX : CXT) (k : Nat) (x : Str) (ps : List Str) (sp : Sp) : Prop where
  ex : ∃ f fd, FnOk P w K mg base CX k f fd ps sp ∧ mg x = some (.ref f) ∧ PySem.W.keepIn K (.ref f) = true ∧ Binds K fd ps []
abbrev HasX (X : Cx) (CX : CXT) (k : Nat) (x : Str) (ps : List Str) (sp : Sp) : Prop := Has X.prog X.w X.K X.mg X.base CX k x ps sp
theorem e_call {x : Str} {ps : List Str} {sp : Sp} {CX : CXT} {Pa : AK} {n : Nat} (h : HasX X CX n x ps sp) (hr : Room k X.A) (hk : n ≤ k) (ha : AA X H0 M Γ (e :: es) Pa)
    (hsp : ∀ H H1 vs (Q : VK), Same H H1 → Pa H vs H1 → (∀ v H', Same H1 H' → P H v H' → Q v H') → sp vs H1 Q E0)
    (hg : Gl X x := by rfl) (hx : Passes CX X E0 := by first | exact pass0 | exact passL) (hdb : (x == ("__debug__" : Str)) = false := by decide)
    (he : starEach (e :: es) X.env = (false, eval e X.env) :: starEach es X.env := by exact star1 rfl) (hpl : (backTo pos (starEach es X.env)).any (·.1) = false := by rfl) : EE X H0 M Γ (.Call (.Name x p0) (e :: es) [] pos) P := fun g σ H Q R k => by
  obtain ⟨f, fd, F, hm, hk', hb⟩ := h.ex
  refine wE.of (pe_call F (hr.mono hk) hg hm hk' hb .nil hx pa_w hdb he hpl) (ha g σ H _ R fun vs H1 s1 p1 => ?_)
  rw [List.append_nil]
  exact hsp H H1 vs Q s1 p1 fun v H' s2 p2 => k v H' (s1.trans s2) p2
/-- a promise: data in, data out -/
def spI (K : PySem.W.Frag) (A : List PyData → PyData → Prop) : Sp := fun vs H Q _ => ∃ ds d, ImAll K H vs ds ∧ A ds d ∧ ∀ v H', Same H H' → Im K H' v d → Q v H'
/-- data in, a new list out -/
def spL (K : PySem.W.Frag) (A : List PyData → List PyData → Prop) : Sp := fun vs H Q _ => ∃ ds d, ImAll K H vs ds ∧ A ds d ∧ ∀ p us H', Same H H' → H p = none → H' p = some (.lst us) → ImAll K H' us d → Q (.ref p) H'
theorem i_call {x : Str} {ps : List Str} {A : List PyData → PyData → Prop} {CX : CXT} {ds : List PyData} {n : Nat} (h : HasX X CX n x ps (spI X.K A)) (hr : Room k X.A) (hk : n ≤ k) (hA : A ds d) (ha : AI X H0 M Γ (e :: es) ds)
    (hg : Gl X x := by rfl) (hx : Passes CX X E0 := by first | exact pass0 | exact passL) (hdb : (x == ("__debug__" : Str)) = false := by decide)
    (he : starEach (e :: es) X.env = (false, eval e X.env) :: starEach es X.env := by exact star1 rfl) (hpl : (backTo pos (starEach es X.env)).any (·.1) = false := by rfl) : EI X H0 M Γ (.Call (.Name x p0) (e :: es) [] pos) d :=
  e_call h hr hk ha (fun H H1 vs Q s1 p1 k => ⟨ds, d, p1, hA, fun v H' s2 q => k v H' s2 q⟩) hg hx hdb he hpl
theorem l_call {x : Str} {ps : List Str} {A : List PyData → List PyData → Prop} {CX : CXT} {ds rs : List PyData} {n : Nat} (h : HasX X CX n x ps (spL X.K A)) (hr : Room k X.A) (hk : n ≤ k) (hA : A ds rs) (ha : AI X H0 M Γ (e :: es) ds)
    (hg : Gl X x := by rfl) (hx : Passes CX X E0 := by first | exact pass0 | exact passL) (hdb : (x == ("__debug__" : Str)) = false := by decide)
    (he : starEach (e :: es) X.env = (false, eval e X.env) :: starEach es X.env := by exact star1 rfl) (hpl : (backTo pos (starEach es X.env)).any (·.1) = false := by rfl) : EL X H0 M Γ (.Call (.Name x p0) (e :: es) [] pos) rs :=
  e_call h hr hk ha (fun H H1 vs Q s1 p1 k => ⟨ds, rs, p1, hA, fun p us H' s2 n q m => k _ H' s2 ⟨p, us, rfl, s1.free n, q, m⟩⟩) hg hx hdb he hpl
/-! ### calls of built-ins -/
theorem e_callB {x id : Str} {idn : String} {r : List V → Hp → VK → Prop} {Pa : AK} (hc : CallR X (.builtin idn) r) (hm : X.mg x = none) (hv : bootBuiltins x = some (.builtin idn)) (ha : AA X H0 M Γ (e :: es) Pa)
    (hsp : ∀ H H1 vs (Q : VK), Same H H1 → Pa H vs H1 → (∀ v H', Same H1 H' → P H v H' → Q v H') → r vs H1 Q)
    (hg : Gl X x := by rfl) (hn : x ≠ "__name__" := by decide) (hdb : (x == ("__debug__" : Str)) = false := by decide)
    (he : starEach (e :: es) X.env = (false, eval e X.env) :: starEach es X.env := by exact star1 rfl) (hpl : (backTo pos (starEach es X.env)).any (·.1) = false := by rfl) : EE X H0 M Γ (.Call (.Name x p0) (e :: es) [] pos) P := fun g σ H Q R k =>
  wE.of (pe_callB hc hg hm hv pa_w hn hdb he hpl) (ha g σ H _ R fun vs H1 s1 p1 => hsp H H1 vs Q s1 p1 fun v H' s2 p2 => k v H' (s1.trans s2) p2)
theorem e_callTy {x : Str} {T : String} {r : List V → Hp → VK → Prop} {Pa : AK} (hc : CallR X (.type T) r) (hm : X.mg x = none) (hv : bootBuiltins x = some (.type T)) (ha : AA X H0 M Γ (e :: es) Pa)
    (hsp : ∀ H H1 vs (Q : VK), Same H H1 → Pa H vs H1 → (∀ v H', Same H1 H' → P H v H' → Q v H') → r vs H1 Q)
    (hg : Gl X x := by rfl) (hn : x ≠ "__name__" := by decide) (hdb : (x == ("__debug__" : Str)) = false := by decide)
    (he : starEach (e :: es) X.env = (false, eval e X.env) :: starEach es X.env := by exact star1 rfl) (hpl : (backTo pos (starEach es X.env)).any (·.1) = false := by rfl) : EE X H0 M Γ (.Call (.Name x p0) (e :: es) [] pos) P := fun g σ H Q R k =>
  wE.of (pe_callTy hc hg hm hv pa_w hn hdb he hpl) (ha g σ H _ R fun vs H1 s1 p1 => hsp H H1 vs Q s1 p1 fun v H' s2 p2 => k v H' (s1.trans s2) p2)
/-! ### tests -/
theorem t_val {k : Bool} (h : EI X H0 M Γ e (.bool k)) (he : ∀ whole, isTrue e X.env whole = (do let v ← whole; standAt e.pos; holding [v] (truthy v)) := by intro _; rfl) : ET X H0 M Γ e k := fun g σ H Q R q =>
  wT.of (pt_val pe_w he) (h g σ H _ R fun x H1 s1 p1 => ⟨k, p1.bl_inv, q H1 s1⟩)
theorem t_cmp {op : CmpOp} {r : R2} {k : Bool} (ho : OpR X (compareOp op) r) (ha : EE X H0 M Γ a Pa) (hb : EE X H0 M Γ b Pb) (hm : behindInMarks op b = false)
    (h : ∀ H H1 H2 x y (Q : VK), Same H H1 → Same H1 H2 → Pa H x H1 → Pb H1 y H2 → (∀ H', Same H2 H' → Q (.bl k) H') → r x y H2 Q) : ET X H0 M Γ (.Compare a [op] [b] pos) k := fun g σ H Q R q =>
  wT.of (pt_cmpR ho pe_w pe_w hm) (ha g σ H _ R fun x H1 s1 p1 => hb g σ H1 _ (R.same s1) fun y H2 s2 p2 => h H H1 H2 x y _ s1 s2 p1 p2 fun H' s3 => ⟨k, rfl, q H' (s1.trans (s2.trans s3))⟩)
section
variable {i j : Int}
theorem t_lt (ha : EI X H0 M Γ a (.int i)) (hb : EI X H0 M Γ b (.int j)) : ET X H0 M Γ (.Compare a [.Lt] [b] pos) (decide (i < j)) :=
  t_cmp op_lt ha hb (nomark _) fun H H1 H2 x y Q s1 s2 p1 p2 k => ⟨i, j, p1.int_inv, p2.int_inv, k _ (Same.refl _)⟩
theorem t_le (ha : EI X H0 M Γ a (.int i)) (hb : EI X H0 M Γ b (.int j)) : ET X H0 M Γ (.Compare a [.LtE] [b] pos) (decide (i ≤ j)) :=
  t_cmp op_le ha hb (nomark _) fun H H1 H2 x y Q s1 s2 p1 p2 k => ⟨i, j, p1.int_inv, p2.int_inv, k _ (Same.refl _)⟩
theorem t_gt (ha : EI X H0 M Γ a (.int i)) (hb : EI X H0 M Γ b (.int j)) : ET X H0 M Γ (.Compare a [.Gt] [b] pos) (decide (j < i)) :=
  t_cmp op_gt ha hb (nomark _) fun H H1 H2 x y Q s1 s2 p1 p2 k => ⟨i, j, p1.int_inv, p2.int_inv, k _ (Same.refl _)⟩
theorem t_ge (ha : EI X H0 M Γ a (.int i)) (hb : EI X H0 M Γ b (.int j)) : ET X H0 M Γ (.Compare a [.GtE] [b] pos) (decide (j ≤ i)) :=
  t_cmp op_ge ha hb (nomark _) fun H H1 H2 x y Q s1 s2 p1 p2 k => ⟨i, j, p1.int_inv, p2.int_inv, k _ (Same.refl _)⟩
end
theorem t_eq (hr : Room k X.A) (hd : d.depth ≤ 64) (ha : EI X H0 M Γ a d) (hb : EI X H0 M Γ b d') : ET X H0 M Γ (.Compare a [.Eq] [b] pos) (PyData.eqv d d') :=
  t_cmp (op_eqP hr.units) ha hb (nomark _) fun H H1 H2 x y Q s1 s2 p1 p2 k => ⟨d, d', p1.same s2, p2, hd, k _ (Same.refl _)⟩
theorem t_ne (hr : Room k X.A) (hd : d.depth ≤ 64) (ha : EI X H0 M Γ a d) (hb : EI X H0 M Γ b d') : ET X H0 M Γ (.Compare a [.NotEq] [b] pos) (!PyData.eqv d d') :=
  t_cmp (op_neP hr.units) ha hb (nomark _) fun H H1 H2 x y Q s1 s2 p1 p2 k => ⟨d, d', p1.same s2, p2, hd, k _ (Same.refl _)⟩
theorem t_not {x : Bool} (h : ET X H0 M Γ a x) : ET X H0 M Γ (.UnaryOp .Not a pos) (!x) := fun g σ H Q R q => wT.of (pt_not pt_w) (h g σ H _ R fun H1 s1 => q H1 s1)
def ETW (X : Cx) (H0 : Hp) (M : List Addr) (Γ : SC) (e : Expr) (b : Bool) : Prop := ∃ t, PW X e t ∧ ∀ g σ H Q, R X.K H0 M g Γ σ H → (∀ H', Same H H' → Q b H') → t σ H Q
theorem t_bool {x : Bool} (h : ETW X H0 M Γ e x) : ET X H0 M Γ e x := by
  obtain ⟨t, p, q⟩ := h
  exact fun g σ H Q R k => wT.of p.pt (q g σ H Q R k)
variable {rest : List Expr}
theorem tw_and1 {x : Bool} (h : ET X H0 M Γ a x) : ETW X H0 M Γ (.BoolOp .And [a] pos) x := ⟨_, pw_and1 pt_w, h⟩
theorem tw_or1 {x : Bool} (h : ET X H0 M Γ a x) : ETW X H0 M Γ (.BoolOp .Or [a] pos) x := ⟨_, pw_or1 pt_w, h⟩
theorem tw_and {x y : Bool} (h : ET X H0 M Γ a x) (g : x = true → ETW X H0 M Γ (.BoolOp .And (b :: rest) pos) y) : ETW X H0 M Γ (.BoolOp .And (a :: b :: rest) pos) (x && y) := by
  cases x with
  | true =>
    obtain ⟨t, p, q⟩ := g rfl
    exact ⟨_, pw_and pt_w p, fun g σ H Q R k => h g σ H _ R fun H1 s1 => q g σ H1 Q (R.same s1) fun H2 s2 => k H2 (s1.trans s2)⟩
  | false => exact ⟨_, pw_and (tB' := fun _ _ _ => False) pt_w ⟨fun wh pins s σ H Q I z => False.elim z⟩, fun g σ H Q R k => h g σ H _ R fun H1 s1 => k H1 s1⟩
theorem tw_or {x y : Bool} (h : ET X H0 M Γ a x) (g : x = false → ETW X H0 M Γ (.BoolOp .Or (b :: rest) pos) y) : ETW X H0 M Γ (.BoolOp .Or (a :: b :: rest) pos) (x || y) := by
  cases x with
  | false =>
    obtain ⟨t, p, q⟩ := g rfl
    exact ⟨_, pw_or pt_w p, fun g σ H Q R k => h g σ H _ R fun H1 s1 => q g σ H1 Q (R.same s1) fun H2 s2 => k H2 (s1.trans s2)⟩
  | true => exact ⟨_, pw_or (tB' := fun _ _ _ => False) pt_w ⟨fun wh pins s σ H Q I z => False.elim z⟩, fun g σ H Q R k => h g σ H _ R fun H1 s1 => k H1 s1⟩
end
end G

namespace G
open PySem PySem.Spec PyProof.Rows L2

/-! ### expressions that move the drawing state on -/
/-- e gives a value that P tells and leaves the slots as Γ' says -/
def EX (X : Cx) (H0 : Hp) (M : List Addr) (Γ : SC) (e : Expr) (Γ' : SC) (P : V → Hp → Prop) : Prop :=
  ∀ g σ H Q, R X.K H0 M g Γ σ H → (∀ v H', R X.K H0 M g Γ' σ H' → Gw H H' → P v H' → Q v H') → wE X e σ H Q
/-- some data that A tells -/
abbrev xI (K : PySem.W.Frag) (A : PyData → Prop) : V → Hp → Prop := fun v H' => ∃ d, A d ∧ Im K H' v d
def AX (X : Cx) (H0 : Hp) (M : List Addr) (Γ : SC) (es : List Expr) (Γ' : SC) (A : List PyData → Prop) : Prop :=
  ∀ g σ H Q, R X.K H0 M g Γ σ H → (∀ vs H' ds, R X.K H0 M g Γ' σ H' → Gw H H' → A ds → ImAll X.K H' vs ds → Q vs H') → wA X es σ H Q
def TX (X : Cx) (H0 : Hp) (M : List Addr) (Γ : SC) (e : Expr) (Γ' : SC) (A : Bool → Prop) : Prop :=
  ∀ g σ H Q, R X.K H0 M g Γ σ H → (∀ b H', R X.K H0 M g Γ' σ H' → Gw H H' → A b → Q b H') → wT X e σ H Q
section
variable {X : Cx} {H0 : Hp} {M : List Addr} {Γ Γ1 Γ2 : SC} {e a b c : Expr} {es : List Expr} {pos p0 : Pos}
theorem x_of {P : EK} (h : EE X H0 M Γ e P) : EX X H0 M Γ e Γ (fun v H' => ∃ H, P H v H') := fun g σ H Q r k => h g σ H Q r fun v H' s p => k v H' (r.same s) (Same.gw s) ⟨H, p⟩
theorem x_i {d : PyData} (h : EI X H0 M Γ e d) : EX X H0 M Γ e Γ (xI X.K (· = d)) := fun g σ H Q r k => h g σ H Q r fun v H' s p => k v H' (r.same s) (Same.gw s) ⟨d, rfl, p⟩
theorem EX.mono {A B : PyData → Prop} (h : EX X H0 M Γ e Γ1 (xI X.K A)) (q : ∀ d, A d → B d) : EX X H0 M Γ e Γ1 (xI X.K B) := fun g σ H Q r k =>
  h g σ H Q r fun v H' r' s ⟨d, p, m⟩ => k v H' r' s ⟨d, q d p, m⟩
theorem ax_of {ds : List PyData} (h : AI X H0 M Γ es ds) : AX X H0 M Γ es Γ (· = ds) := fun g σ H Q r k => h g σ H Q r fun v H' s p => k v H' ds (r.same s) (Same.gw s) rfl p
theorem ax_cons {A : PyData → Prop} {B : List PyData → Prop} (he : EX X H0 M Γ e Γ1 (xI X.K A)) (ht : AX X H0 M Γ1 es Γ2 B) (hs : starEach (e :: es) X.env = (false, eval e X.env) :: starEach es X.env := by exact star1 rfl) :
    AX X H0 M Γ (e :: es) Γ2 (fun ds => ∃ d r, ds = d :: r ∧ A d ∧ B r) := fun g σ H Q r k =>
  wA.of (pa_cons pe_w pa_w hs) (he g σ H _ r fun x H1 r1 s1 ⟨d, p1, m1⟩ => ht g σ H1 _ r1 fun xs H2 ds r2 s2 p2 m2 => k _ H2 _ r2 (s1.trans s2) ⟨d, ds, rfl, p1, p2⟩ (.cons (m1.gw s2 d x) m2))
theorem x_tup {A : List PyData → Prop} {x1} (h : AX X H0 M Γ es Γ1 A) (hl : ∀ ds, A ds → ds.length ≤ 100000) : EX X H0 M Γ (.Tuple es x1 pos) Γ1 (xI X.K fun d => ∃ ds, d = .tuple ds ∧ A ds) := fun g σ H Q r k =>
  wE.of (pe_tup pa_w) (h g σ H _ r fun xs H1 ds r1 s1 p1 m1 => ⟨by rw [m1.len]; exact Nat.le_trans (hl ds p1) (by decide), fun p hp =>
    k _ _ (r1.same (same_new hp)) (s1.trans (Same.gw (same_new hp))) ⟨_, ⟨ds, rfl, p1⟩, .tup (.inl (.inl upd_same)) (m1.same (same_new hp))⟩⟩)
theorem x_bin {op : Operator} {r : R2} {A B D : PyData → Prop} (ho : OpR X (binaryOp op) r) (ha : EX X H0 M Γ a Γ1 (xI X.K A)) (hb : EX X H0 M Γ1 b Γ2 (xI X.K B))
    (h : ∀ H x y dx dy (Q : VK), A dx → B dy → Im X.K H x dx → Im X.K H y dy → (∀ v H' d, Same H H' → D d → Im X.K H' v d → Q v H') → r x y H Q) : EX X H0 M Γ (.BinOp a op b pos) Γ2 (xI X.K D) := fun g σ H Q r k =>
  wE.of (pe_op ho pe_w pe_w) (ha g σ H _ r fun x H1 r1 s1 ⟨dx, p1, m1⟩ => hb g σ H1 _ r1 fun y H2 r2 s2 ⟨dy, p2, m2⟩ => h H2 x y dx dy Q p1 p2 (m1.gw s2 dx x) m2 fun v H' d s3 p3 m3 =>
    k v H' (r2.same s3) ((s1.trans s2).trans (Same.gw s3)) ⟨d, p3, m3⟩)
theorem x_cmp {op : CmpOp} {r : R2} {A B D : PyData → Prop} (ho : OpR X (compareOp op) r) (ha : EX X H0 M Γ a Γ1 (xI X.K A)) (hb : EX X H0 M Γ1 b Γ2 (xI X.K B)) (hm : behindInMarks op b = false)
    (h : ∀ H x y dx dy (Q : VK), A dx → B dy → Im X.K H x dx → Im X.K H y dy → (∀ v H' d, Same H H' → D d → Im X.K H' v d → Q v H') → r x y H Q) : EX X H0 M Γ (.Compare a [op] [b] pos) Γ2 (xI X.K D) := fun g σ H Q r k =>
  wE.of (pe_cmpR ho pe_w pe_w hm) (ha g σ H _ r fun x H1 r1 s1 ⟨dx, p1, m1⟩ => hb g σ H1 _ r1 fun y H2 r2 s2 ⟨dy, p2, m2⟩ => h H2 x y dx dy Q p1 p2 (m1.gw s2 dx x) m2 fun v H' d s3 p3 m3 =>
    k v H' (r2.same s3) ((s1.trans s2).trans (Same.gw s3)) ⟨d, p3, m3⟩)
/-- an item of a list of one's own, at a drawn place -/
theorem x_ixO {i : Nat} {x : Str} {px : Pos} {ds : List PyData} {B D : PyData → Prop} (hg : Γ.getD i .no = .ls ds) (hg1 : Γ1.getD i .no = .ls ds) (hb : EX X H0 M Γ b Γ1 (xI X.K B))
    (h : ∀ dy, B dy → ∃ j d, dy = .int j ∧ atI ds j = some d ∧ D d) (hN : X.N[i]? = some x := by rfl) (hv : Vis X.env.scope x := by first | exact Or.inl rfl | exact Or.inr (Or.inl rfl) | exact Or.inr (Or.inr rfl)) (hd : (x == ("__debug__" : Str)) = false := by decide)
    (hcd : (x == ("__classdict__" : Str)) = false := by decide) (hs : PlainIx b := by exact fun _ _ => rfl) : EX X H0 M Γ (.Subscript (.Name x px) b pos) Γ1 (xI X.K D) := fun g σ H Q r k => by
  obtain ⟨p, vs, e, m, q, _⟩ := r.ls hg
  refine wE.of (pe_ix ix_list (pe_var hN hv hd hcd) pe_w hs) ⟨_, e, hb g σ H _ r fun y H1 r1 s1 ⟨dy, p1, m1⟩ => ?_⟩
  obtain ⟨j, d, rfl, h1, h2⟩ := h dy p1
  obtain ⟨p', vs', e', m', q', _⟩ := r1.ls hg1
  rw [e] at e'
  have ep : p = p' := by
    injection e' with a; injection a with b; injection b
  subst ep
  obtain ⟨v, g1, g2⟩ := atI_im q' h1
  exact ⟨p, vs', j, v, rfl, m1.int_inv, SqL.of m', g1, k v H1 r1 s1 ⟨d, h2, g2⟩⟩
/-- an item of a tuple, at a drawn place -/
theorem x_ixT {A B D : PyData → Prop} (ha : EX X H0 M Γ a Γ1 (xI X.K A)) (hb : EX X H0 M Γ1 b Γ2 (xI X.K B)) (h : ∀ dx dy, A dx → B dy → ∃ ds j d, dx = .tuple ds ∧ dy = .int j ∧ atI ds j = some d ∧ D d) (hs : PlainIx b := by exact fun _ _ => rfl) :
    EX X H0 M Γ (.Subscript a b pos) Γ2 (xI X.K D) := fun g σ H Q r k =>
  wE.of (pe_ix ix_tup pe_w pe_w hs) (ha g σ H _ r fun x H1 r1 s1 ⟨dx, p1, m1⟩ => hb g σ H1 _ r1 fun y H2 r2 s2 ⟨dy, p2, m2⟩ => by
    obtain ⟨ds, j, d, rfl, rfl, h1, h2⟩ := h dx dy p1 p2
    obtain ⟨q, xs, rfl, hq, hx⟩ := (m1.gw s2 _ _).tup_inv
    obtain ⟨v, g1, g2⟩ := atI_im hx h1
    exact ⟨q, xs, j, v, rfl, m2.int_inv, hq, g1, k _ _ r2 (s1.trans s2) ⟨d, h2, g2⟩⟩)
/-- a promise of a def whose first argument is the drawing state: A: the other arguments and the bound; B: what it gives; c: by how much the bound grows -/
def spS (K : PySem.W.Frag) (A : List PyData → Nat → Prop) (c : List PyData → Nat) (B : List PyData → PyData → Prop) : Sp := fun vs H Q _ =>
  ∃ a q n ws ds, vs = .ref a :: ws ∧ StAt H a q n ∧ ImAll K H ws ds ∧ A ds n ∧ ∀ v d H', But [a] H H' → StAt H' a q (n + c ds) → B ds d → Im K H' v d → Q v H'
theorem x_call {i k n m : Nat} {x y : Str} {py : Pos} {ps : List Str} {A : List PyData → Nat → Prop} {c : List PyData → Nat} {B : List PyData → PyData → Prop} {CX : CXT} {ds : List PyData} {u q : Addr}
    (h : HasX X CX n x ps (spS X.K A c B)) (hr : Room k X.A) (hk : n ≤ k) (hst : Γ.getD i .no = .st u q m) (ha : AI X H0 M Γ es ds) (hA : A ds m)
    (hg : Gl X x := by rfl) (hx : Passes CX X E0 := by first | exact pass0 | exact passL) (hdb : (x == ("__debug__" : Str)) = false := by decide)
    (he : starEach (.Name y py :: es) X.env = (false, eval (.Name y py) X.env) :: starEach es X.env := by exact star1 rfl) (hpl : (backTo pos (starEach es X.env)).any (·.1) = false := by rfl)
    (hN : X.N[i]? = some y := by rfl) (hv : Vis X.env.scope y := by first | exact Or.inl rfl | exact Or.inr (Or.inl rfl) | exact Or.inr (Or.inr rfl)) (hd : (y == ("__debug__" : Str)) = false := by decide)
    (hcd : (y == ("__classdict__" : Str)) = false := by decide) : EX X H0 M Γ (.Call (.Name x p0) (.Name y py :: es) [] pos) (Γ.set i (.st u q (m + c ds))) (xI X.K (B ds)) := fun g σ H Q r k => by
  obtain ⟨f, fd, F, hm, hk', hb⟩ := h.ex
  obtain ⟨e, sa⟩ := r.st hst
  refine wE.of (pe_call F (hr.mono hk) hg hm hk' hb .nil hx (pa_cons (pe_var hN hv hd hcd) pa_w he) hdb he hpl) ⟨_, e, ha g σ H _ r fun vs H1 s1 p1 => ?_⟩
  show spS X.K A c B ((V.ref u :: vs) ++ []) H1 Q E0
  rw [List.append_nil]
  have r1 := r.same s1
  obtain ⟨_, sa1⟩ := r1.st hst
  refine ⟨u, q, m, vs, ds, rfl, sa1, p1, hA, fun v d H' b1 s2 p2 m2 => ?_⟩
  obtain ⟨s0, row, nn, sd, z1, z2, _⟩ := sa1
  have gg : Gw H1 H' := ⟨fun b xs z => b1 b _ (fun m => by
      have : b = u := by simpa using m
      subst this; rw [z1] at z; cases z) z, fun b o u' z => b1 b _ (fun m => by
      have : b = u := by simpa using m
      subst this; rw [z1] at z; cases z) z⟩
  exact k v H' (r1.updSt hst b1 s2) ((Same.gw s1).trans gg) ⟨d, p2, m2⟩
theorem tx_of {k : Bool} (h : ET X H0 M Γ e k) : TX X H0 M Γ e Γ (· = k) := fun g σ H Q r q => h g σ H Q r fun H1 s1 => q k H1 (r.same s1) (Same.gw s1) rfl
theorem tx_cmp {op : CmpOp} {r : R2} {A B : PyData → Prop} {D : Bool → Prop} (ho : OpR X (compareOp op) r) (ha : EX X H0 M Γ a Γ1 (xI X.K A)) (hb : EX X H0 M Γ1 b Γ2 (xI X.K B)) (hm : behindInMarks op b = false)
    (h : ∀ H x y dx dy (Q : VK), A dx → B dy → Im X.K H x dx → Im X.K H y dy → (∀ H' d, Same H H' → D d → Q (.bl d) H') → r x y H Q) : TX X H0 M Γ (.Compare a [op] [b] pos) Γ2 D := fun g σ H Q r k =>
  wT.of (pt_cmpR ho pe_w pe_w hm) (ha g σ H _ r fun x H1 r1 s1 ⟨dx, p1, m1⟩ => hb g σ H1 _ r1 fun y H2 r2 s2 ⟨dy, p2, m2⟩ => h H2 x y dx dy _ p1 p2 (m1.gw s2 dx x) m2 fun H' d s3 p3 =>
    ⟨d, rfl, k d H' (r2.same s3) ((s1.trans s2).trans (Same.gw s3)) p3⟩)
theorem tx_val {A : PyData → Prop} {D : Bool → Prop} (h : EX X H0 M Γ e Γ1 (xI X.K A)) (hD : ∀ d, A d → ∃ b, d = .bool b ∧ D b) (he : ∀ whole, isTrue e X.env whole = (do let v ← whole; standAt e.pos; holding [v] (truthy v)) := by intro _; rfl) : TX X H0 M Γ e Γ1 D := fun g σ H Q r q =>
  wT.of (pt_val pe_w he) (h g σ H _ r fun x H1 r1 s1 ⟨d, p, m⟩ => by
    obtain ⟨b, rfl, hb⟩ := hD d p
    exact ⟨b, m.bl_inv, q b H1 r1 s1 hb⟩)
end

/-! ### statements -/
/-- from where the ends D' are reached if D's are -/
structure Imp (g : Hp → Prop) (D D' : Ends) : Prop where
  nx : ∀ σ H, g H → D.nx σ H → D'.nx σ H
  rt : ∀ v H, g H → D.rt v H → D'.rt v H
  bk : ∀ σ H, g H → D.bk σ H → D'.bk σ H
  ct : ∀ σ H, g H → D.ct σ H → D'.ct σ H
abbrev Far (g : Gs) (H : Hp) : Hp → Prop := fun H' => Gw H H' ∧ Kept g H'
theorem Imp.go {g : Gs} {H H' : Hp} {D D' : Ends} (h : Imp (Far g H) D D') (s : Gw H H') : Imp (Far g H') D D' :=
  ⟨fun σ H1 f => h.nx σ H1 ⟨s.trans f.1, f.2⟩, fun σ H1 f => h.rt σ H1 ⟨s.trans f.1, f.2⟩, fun σ H1 f => h.bk σ H1 ⟨s.trans f.1, f.2⟩, fun σ H1 f => h.ct σ H1 ⟨s.trans f.1, f.2⟩⟩
structure DD where
  rt : VK
  nx : Gs → St → Hp → Prop := fun _ _ _ => False
  bk : Gs → St → Hp → Prop := fun _ _ _ => False
  ct : Gs → St → Hp → Prop := fun _ _ _ => False
abbrev DD.at (D : DD) (g : Gs) : Ends := { nx := D.nx g, rt := D.rt, bk := D.bk g, ct := D.ct g }
/-- from slots as Γ the statements reach D -/
def SG (X : Cx) (H0 : Hp) (M : List Addr) (Γ : SC) (sts : List Stmt) (D : DD) : Prop :=
  ∀ g σ H D', R X.K H0 M g Γ σ H → Imp (Far g H) (D.at g) D' → wSs X sts D' σ H
section
variable {X : Cx} {H0 : Hp} {M : List Addr} {Γ Γ1 Γ2 : SC} {e c : Expr} {es : List Expr} {pos p0 : Pos} {rest body orelse : List Stmt} {D : DD}
theorem g_nil (h : ∀ g σ H, R X.K H0 M g Γ σ H → D.nx g σ H) : SG X H0 M Γ [] D := fun g σ H D' r i => wSs.of pss_nil (i.nx σ H ⟨Gw.refl H, r.kept⟩ (h g σ H r))
theorem cons_w {s1 : Stmt} {D' : Ends} {σ : St} {H : Hp} (h : wS X s1 { D' with nx := fun σ' H' => wSs X rest D' σ' H' } σ H) : wSs X (s1 :: rest) D' σ H := wSs.of (pss_cons ps_w pss_w) h
theorem wS.of' {s1 : Stmt} {t : TS} {D' : Ends} {σ : St} {H : Hp} (h : PS X s1 t) (q : t { D' with nx := fun σ' H' => wSs X rest D' σ' H' } σ H) : wSs X (s1 :: rest) D' σ H := cons_w (wS.of h q)
/-- x = e -/
theorem g_set (i : Nat) {x : Str} {px : Pos} {d : PyData} (hN : X.N.Nodup) (hl : Γ.length = X.N.length) (he : EI X H0 M Γ e d) (hr : SG X H0 M (Γ.set i (.im d)) rest D) (hi : X.N[i]? = some x := by rfl) (hx : Loc X.env.scope x := by first | exact Or.inl rfl | exact Or.inr rfl)
    (hs : swapsWith e (some (.Name x px)) pos.line X.env = pure false := by rfl) (hf : X.fn x = true ∨ X.env.scope.names.lookup x = some .local := by first | exact .inl rfl | exact .inr rfl | assumption) : SG X H0 M Γ (.Assign [.Name x px] e pos :: rest) D := fun g σ H D' r im =>
  wS.of' (ps_set hN hi hx pe_w hs hf) (he g σ H _ r fun v H' s m => hr g _ _ D' (r.setIm s (by rw [hl]; exact (List.getElem?_eq_some_iff.mp hi).1) m) (im.go (Same.gw s)))
theorem g_setX (i : Nat) {x : Str} {px : Pos} {A : PyData → Prop} (hN : X.N.Nodup) (hl : Γ1.length = X.N.length) (he : EX X H0 M Γ e Γ1 (xI X.K A)) (hr : ∀ d, A d → SG X H0 M (Γ1.set i (.im d)) rest D) (hi : X.N[i]? = some x := by rfl) (hx : Loc X.env.scope x := by first | exact Or.inl rfl | exact Or.inr rfl)
    (hs : swapsWith e (some (.Name x px)) pos.line X.env = pure false := by rfl) (hf : X.fn x = true ∨ X.env.scope.names.lookup x = some .local := by first | exact .inl rfl | exact .inr rfl | assumption) : SG X H0 M Γ (.Assign [.Name x px] e pos :: rest) D := fun g σ H D' r im =>
  wS.of' (ps_set hN hi hx pe_w hs hf) (he g σ H _ r fun v H' r1 s ⟨d, p, m⟩ => hr d p g _ _ D' (r1.setIm (Same.refl H') (by rw [hl]; exact (List.getElem?_eq_some_iff.mp hi).1) m) (im.go s))
theorem g_setV (i : Nat) {x : Str} {px : Pos} {u : V} (hN : X.N.Nodup) (hl : Γ.length = X.N.length) (he : EV X H0 M Γ e u) (hr : SG X H0 M (Γ.set i (.va u)) rest D) (hi : X.N[i]? = some x := by rfl) (hx : Loc X.env.scope x := by first | exact Or.inl rfl | exact Or.inr rfl)
    (hs : swapsWith e (some (.Name x px)) pos.line X.env = pure false := by rfl) (hf : X.fn x = true ∨ X.env.scope.names.lookup x = some .local := by first | exact .inl rfl | exact .inr rfl | assumption) : SG X H0 M Γ (.Assign [.Name x px] e pos :: rest) D := fun g σ H D' r im =>
  wS.of' (ps_set hN hi hx pe_w hs hf) (he g σ H _ r fun v H' s m => by
    subst m
    exact hr g _ _ D' (r.setVa s (by rw [hl]; exact (List.getElem?_eq_some_iff.mp hi).1)) (im.go (Same.gw s)))
/-- M is still there -/
def MOk (X : Cx) (H0 : Hp) (M : List Addr) (Γ : SC) : Prop := ∀ g σ H, R X.K H0 M g Γ σ H → ∀ a ∈ M, H0 a ≠ none → H a ≠ none
theorem MOk.nil : MOk X H0 [] Γ := fun _ _ _ _ a h => nomatch h
theorem MOk.ofSt {i : Nat} {a q : Addr} {b : Nat} (h : Γ.getD i .no = .st a q b) : MOk X H0 [a] Γ := fun g σ H r c hc _ => by
  have : c = a := by simpa using hc
  subst this
  obtain ⟨_, _, row, n, sd, h1, _⟩ := r.st h
  rw [h1]
  exact fun z => nomatch z
theorem g_setL (i : Nat) {x : Str} {px : Pos} {ds : List PyData} (hM : MOk X H0 M Γ) (hN : X.N.Nodup) (hl : Γ.length = X.N.length) (he : EL X H0 M Γ e ds) (hr : SG X H0 M (Γ.set i (.ls ds)) rest D) (hi : X.N[i]? = some x := by rfl) (hx : Loc X.env.scope x := by first | exact Or.inl rfl | exact Or.inr rfl)
    (hs : swapsWith e (some (.Name x px)) pos.line X.env = pure false := by rfl) (hf : X.fn x = true ∨ X.env.scope.names.lookup x = some .local := by first | exact .inl rfl | exact .inr rfl | assumption) : SG X H0 M Γ (.Assign [.Name x px] e pos :: rest) D := fun g σ H D' r im =>
  wS.of' (ps_set hN hi hx pe_w hs hf) (he g σ H _ r fun v H' s ⟨p, vs, ev, hn, hp, m⟩ => by
    subst ev
    exact hr g _ _ D' (r.setLs s (by rw [hl]; exact (List.getElem?_eq_some_iff.mp hi).1) hn (r.fresh (hM g σ H r) hn) hp m) (im.go (Same.gw s)))
/-- return e -/
theorem g_ret {P : EK} (he : EE X H0 M Γ e P) (h : ∀ g σ H v H', R X.K H0 M g Γ σ H → Same H H' → P H v H' → D.rt v H') : SG X H0 M Γ (.Return (some e) pos :: rest) D := fun g σ H D' r im =>
  wS.of' (ps_ret pe_w) (he g σ H _ r fun v H' s p => im.rt v H' ⟨Same.gw s, (r.same s).kept⟩ (h g σ H v H' r s p))
theorem g_retX {P : V → Hp → Prop} (he : EX X H0 M Γ e Γ1 P) (h : ∀ g σ v H', R X.K H0 M g Γ1 σ H' → P v H' → D.rt v H') : SG X H0 M Γ (.Return (some e) pos :: rest) D := fun g σ H D' r im =>
  wS.of' (ps_ret pe_w) (he g σ H _ r fun v H' r1 s p => im.rt v H' ⟨s, r1.kept⟩ (h g σ v H' r1 p))
/-- if c: body else: orelse -/
theorem g_if {k : Bool} (hc : ET X H0 M Γ c k) (ht : k = true → SG X H0 M Γ body { D with nx := fun g σ H => ∀ D', Imp (Far g H) (D.at g) D' → wSs X rest D' σ H })
    (hf : k = false → SG X H0 M Γ orelse { D with nx := fun g σ H => ∀ D', Imp (Far g H) (D.at g) D' → wSs X rest D' σ H }) : SG X H0 M Γ (.If c body orelse pos :: rest) D := fun g σ H D' r im => by
  refine wS.of' (ps_if pt_w pss_w pss_w) (hc g σ H _ r fun H' s => ?_)
  have im' := im.go (Same.gw s)
  have im2 : Imp (Far g H') (({ D with nx := fun g σ H => ∀ D', Imp (Far g H) (D.at g) D' → wSs X rest D' σ H } : DD).at g) { D' with nx := fun σ' H' => wSs X rest D' σ' H' } :=
    ⟨fun σ1 H1 f q => q D' (im'.go f.1), im'.rt, im'.bk, im'.ct⟩
  cases k with
  | true => exact ht rfl g σ H' _ (r.same s) im2
  | false => exact hf rfl g σ H' _ (r.same s) im2
theorem g_ifX {A : Bool → Prop} (hc : TX X H0 M Γ c Γ1 A) (ht : A true → SG X H0 M Γ1 body { D with nx := fun g σ H => ∀ D', Imp (Far g H) (D.at g) D' → wSs X rest D' σ H })
    (hf : A false → SG X H0 M Γ1 orelse { D with nx := fun g σ H => ∀ D', Imp (Far g H) (D.at g) D' → wSs X rest D' σ H }) : SG X H0 M Γ (.If c body orelse pos :: rest) D := fun g σ H D' r im => by
  refine wS.of' (ps_if pt_w pss_w pss_w) (hc g σ H _ r fun k H' r1 s p => ?_)
  have im' := im.go s
  have im2 : Imp (Far g H') (({ D with nx := fun g σ H => ∀ D', Imp (Far g H) (D.at g) D' → wSs X rest D' σ H } : DD).at g) { D' with nx := fun σ' H' => wSs X rest D' σ' H' } :=
    ⟨fun σ1 H1 f q => q D' (im'.go f.1), im'.rt, im'.bk, im'.ct⟩
  cases k with
  | true => exact ht p g σ H' _ r1 im2
  | false => exact hf p g σ H' _ r1 im2
/-- a branch's end: on with what follows the if -/
theorem g_on (h : SG X H0 M Γ rest D) : SG X H0 M Γ [] { D with nx := fun g σ H => ∀ D', Imp (Far g H) (D.at g) D' → wSs X rest D' σ H } := g_nil fun g σ H r D' im => h g σ H D' r im
/-- .append of data to a list of one's own in slot i -/
theorem g_append (i : Nat) {x : Str} {px pa : Pos} {d : PyData} {ds : List PyData} (hls : Γ.getD i .no = .ls ds) (hz : ds.length < 100000) (he : EI X H0 M Γ e d) (hr : SG X H0 M (Γ.set i (.ls (ds ++ [d]))) rest D)
    (hN : X.N[i]? = some x := by rfl) (hv : Vis X.env.scope x := by first | exact Or.inl rfl | exact Or.inr (Or.inl rfl) | exact Or.inr (Or.inr rfl)) (hd : (x == ("__debug__" : Str)) = false := by decide)
    (hcd : (x == ("__classdict__" : Str)) = false := by decide)
    (hp : ∀ {to : TE} {t : TA}, PE X (.Name x px) to → PA X [e] t → PE X (.Call (.Attribute (.Name x px) "append" pa) [e] [] p0) (tBM X.K "list" rAppend to t) := by
      intro to t h1 h2; exact pe_bm PySem.F.plainAttrs_list PySem.F.slot_list_append PySem.F.type_list_append mt_append h1 h2)
    (hs : swapsWith (.Call (.Attribute (.Name x px) "append" pa) [e] [] p0) none pos.line X.env = pure false := by rfl) (hs1 : starEach [e] X.env = (false, eval e X.env) :: starEach [] X.env := by rfl) : SG X H0 M Γ (.Expr (.Call (.Attribute (.Name x px) "append" pa) [e] [] p0) pos :: rest) D := fun g σ H D' r im => by
  obtain ⟨p, vs, ex, hp0, hm, _⟩ := r.ls hls
  refine wS.of' (ps_expr (hp (pe_var hN hv hd hcd) (pa_cons pe_w pa_nil hs1)) hs) ⟨_, ex, .inl ⟨rfl, vs, SqL.of hp0⟩, he g σ H _ r fun v H' s m => ?_⟩
  have r1 := r.same s
  have hm1 := hm.same s
  refine ⟨p, vs, v, rfl, rfl, s _ _ hp0, by rw [hm.len]; exact Nat.lt_of_lt_of_le hz (by decide), ?_⟩
  refine hr g _ _ D' (r1.updLs (es := ds ++ [d]) ex hls (hm1.append (.cons m .nil))) (im.go ((Same.gw s).trans (gw_mut ?_)))
  rw [s _ _ hp0]
  trivial
/-- .extend by a new list -/
theorem g_extend (i : Nat) {x : Str} {px pa : Pos} {es' ds : List PyData} (hls : Γ.getD i .no = .ls ds) (hz : ds.length + es'.length ≤ 100000) (he : EL X H0 M Γ e es') (hr : SG X H0 M (Γ.set i (.ls (ds ++ es'))) rest D)
    (hN : X.N[i]? = some x := by rfl) (hv : Vis X.env.scope x := by first | exact Or.inl rfl | exact Or.inr (Or.inl rfl) | exact Or.inr (Or.inr rfl)) (hd : (x == ("__debug__" : Str)) = false := by decide)
    (hcd : (x == ("__classdict__" : Str)) = false := by decide)
    (hp : ∀ {to : TE} {t : TA}, PE X (.Name x px) to → PA X [e] t → PE X (.Call (.Attribute (.Name x px) "extend" pa) [e] [] p0) (tBM X.K "list" rExtend to t) := by
      intro to t h1 h2; exact pe_bm PySem.F.plainAttrs_list PySem.F.slot_list_extend PySem.F.type_list_extend mt_extend h1 h2)
    (hs : swapsWith (.Call (.Attribute (.Name x px) "extend" pa) [e] [] p0) none pos.line X.env = pure false := by rfl) (hs1 : starEach [e] X.env = (false, eval e X.env) :: starEach [] X.env := by rfl) : SG X H0 M Γ (.Expr (.Call (.Attribute (.Name x px) "extend" pa) [e] [] p0) pos :: rest) D := fun g σ H D' r im => by
  obtain ⟨p, vs, ex, hp0, hm, _⟩ := r.ls hls
  refine wS.of' (ps_expr (hp (pe_var hN hv hd hcd) (pa_cons pe_w pa_nil hs1)) hs) ⟨_, ex, .inl ⟨rfl, vs, SqL.of hp0⟩, he g σ H _ r fun v H' s ⟨q, us, ev, hn, hq, m⟩ => ?_⟩
  subst ev
  have r1 := r.same s
  have hm1 := hm.same s
  refine ⟨p, q, vs, us, rfl, rfl, s _ _ hp0, hq, by rw [hm.len, m.len]; exact Nat.le_trans hz (by decide), ?_⟩
  refine hr g _ _ D' (r1.updLs (es := ds ++ es') ex hls (hm1.append m)) (im.go ((Same.gw s).trans (gw_mut ?_)))
  rw [s _ _ hp0]
  trivial
end
end G

/-! G: for i, x in enumerate(a tuple), out of the library's GoesN. -/
namespace G
open PySem PySem.Spec PyProof.Rows L2

theorem made_enum {v : Value} {ob : Obj} {Z : Heap → Prop} (B : Begins v ob Z) : Meets (Builtin.«enumerate.__new__» ⟨[.type "enumerate", v], []⟩) (fun _ R s =>
    Z s.heap ∧ R (.ok (.ret (.ref (s.heap.push ob).objs.size)))
      { s with heap := (s.heap.push ob).push { cls := .type "enumerate", data := .fields #[.none, .bool false, .ref s.heap.objs.size, rawInt 0, .none, .none] } }) :=
  .of_wp fun prog w A R ⟨hp, ge, dr, tk, os⟩ ⟨hz, hR⟩ => by
    have subE := sub_enumerate
    have it : ∀ {A' : Around} {E Q : Value → Shared → Prop}, Q (.ref hp.objs.size) ⟨hp.push ob, ge, dr, tk, os⟩ → wpAny (model prog w) A' (pyIter v) Q E ⟨hp, ge, dr, tk, os⟩ := fun q => B.iter prog w _ _ ⟨hp, ge, dr, tk, os⟩ _ hz q
    wp_walk using it
    refine wpAny_stack_any fun _ => wpAny_pure ?_
    split
    · rename_i k _ _ _ _ _
      cases (k == Value.type "enumerate") <;> (wp_walk using it; exact ⟨_, rfl, hR⟩)
    · wp_walk using it; exact ⟨_, rfl, hR⟩
/-- the tuple at a, each item in a new pair with its place -/
def Iteu (K : PySem.W.Frag) (a : Addr) : It where
  go i H := ∃ xs x, SqT K H a xs ∧ xs[i]? = some x
  yld i H v H' := ∃ T x, v = .ref T ∧ H T = none ∧ H' = upd H T (.tup [.int (i : Nat), x]) ∧ ∀ xs, SqT K H a xs → xs[i]? = some x
  stop i H := ∃ xs, SqT K H a xs ∧ xs.length = i
abbrev EnumAt (e it a : Addr) (i : Nat) (h : Heap) : Prop := (∃ old, IsEnum h e it (0 + (i : Int)) old) ∧ h.IsTupleIter it a i
theorem EnumAt.there {e it a b : Addr} {i : Nat} {h : Heap} (st : EnumAt e it a i h) (hb : b = e ∨ b = it) : ∃ o, h.get? b = some o ∧ (∀ v, o.data ≠ .cell v) ∧ o.cls ≠ .type "tuple" := by
  obtain ⟨⟨old, he⟩, o, ho, hc, hd⟩ := st
  rcases hb with rfl | rfl
  · exact ⟨_, he, (by intro v q; cases q), fun q => absurd (show Value.type "enumerate" = Value.type "tuple" from q) (by decide)⟩
  · exact ⟨o, ho, (by intro v q; rw [hd] at q; cases q), fun q => absurd (show Value.type "tuple_iterator" = Value.type "tuple" from hc.symm.trans q) (by decide)⟩
theorem EnumAt.goes {X : Cx} {elts : List Expr} {kk : Nat} {tpos : Pos} {e it a : Addr} {i : Nat} {pins : List (Addr × Obj)} {σ : St} {H : Hp} {s : Shared} {xs : List V} (I : Inv X pins σ H s) (hc : X.calm = true) (ne : e ≠ it) (st : EnumAt e it a i s.heap) (hq : SqT X.K H a xs) :
    ∃ its : List Value, Vals xs its ∧ s.heap.IsTuple a its.toArray ∧ GoesN X.prog X.w X.A (.Tuple elts kk tpos) e (e :: [it, a]) [e, it] its.toArray.size
      (fun i h₀ v h => ∃ T t x, v = .ref T ∧ its.toArray[i]? = some x ∧ h.IsTuple T #[.int (0 + (i : Int)) t, x] ∧ h₀.objs.size ≤ T) (fun i h => (∃ old, IsEnum h e it (0 + (i : Int)) old) ∧ h.IsTupleIter it a i ∧ h.IsTuple a its.toArray) := by
  obtain ⟨its, rv, p, _⟩ := I.tuple hq
  obtain ⟨oa, ha, ca, _⟩ := id p
  have away : ∀ b, b = e ∨ b = it → b ≠ a := fun b hb z => by
    obtain ⟨o, ho, _, hn⟩ := st.there hb
    rw [z, ha] at ho
    exact hn (Option.some.inj ho ▸ ca)
  have D := Draws.tuple (prog := X.prog) (w := X.w) (A := X.A.in1) (I.ok.hd hc) it a (Ne.symm (away it (.inr rfl))) its.toArray
  exact ⟨its, rv, p, (GoesN.enumFrom 0 D e ne (by simp [ne, away e (.inl rfl)]) (by simp)).mono fun i h₀ v h _ ⟨T, t, x, y1, y2, y3, y4⟩ => ⟨T, t, x, y1, y3, y4, y2⟩⟩
theorem turn_enumT {P : Program} {w : World} {K : PySem.W.Frag} {elts : List Expr} {kk : Nat} {tpos : Pos} (a e it : Addr) (ne : e ≠ it) : Turn P w K (.Tuple elts kk tpos) (Iteu K a) [e, it] e (EnumAt e it a) where
  mem := List.mem_cons_self
  obj i h st b hb := by
    obtain ⟨o, h1, h2, _⟩ := st.there (b := b) (by simpa using hb)
    exact ⟨o, h1, h2⟩
  keep i h h' st k := by
    obtain ⟨⟨old, he⟩, hi⟩ := st
    exact ⟨⟨old, k e (by simp) _ he⟩, hi.at fun o q => k it (by simp) o q⟩
  item := by
    rintro X rfl rfl rfl hc i pins s σ H E I hf st ⟨xs, x, hq, hx⟩
    obtain ⟨its, rv, p, W⟩ := st.goes (elts := elts) (kk := kk) (tpos := tpos) I hc ne hq
    obtain ⟨u, hu, ru⟩ := rv.get hx
    have lt : ∀ b, b ∈ [e, it] → b < s.heap.objs.size := fun b hb => by
      obtain ⟨o, h1, _⟩ := st.there (b := b) (by simpa using hb)
      exact Heap.lt_size h1
    refine W.goes i s _ E (by have := (List.getElem?_eq_some_iff.mp hu).1; simpa using this) ⟨st.1, st.2, p⟩ fun v h' tk y st' kept _ => ?_
    obtain ⟨T, t, z, rfl, hz, ⟨oT, hT, cT, nT, dT⟩, new⟩ := y
    have ez : z = u := Option.some.inj ((show its.toArray[i]? = some z from hz).symm.trans (by simpa using hu))
    subst ez
    have ei : (0 : Int) + (i : Int) = ((i : Nat) : Int) := by omega
    rw [ei] at dT
    have obj : ObjOk X.prog X.w (upd H T (.tup [.int (i : Nat), x])) h' T (.tup [.int (i : Nat), x]) := ⟨by show 2 ≤ sizeLine; decide, [.int i t, z], .cons ⟨t, rfl⟩ (.cons ru .nil), oT, hT, cT, nT, dT⟩
    refine ⟨.ref T, _, I.turnedNew (ch := [e, it]) kept hf new obj, rfl, ⟨T, x, rfl, I.hok.fresh new, rfl, fun ys hy => (I.tuple_inj hy hq) ▸ hx⟩, ⟨st'.1, st'.2.1⟩, fun b hb => ?_⟩
    rw [upd_ne (Nat.ne_of_lt (Nat.lt_of_lt_of_le (lt b hb) new))]
    exact (hf b hb).1
  done := by
    rintro X rfl rfl rfl hc i pins s σ H E I hf st ⟨xs, hq, hx⟩
    obtain ⟨its, rv, p, W⟩ := st.goes (elts := elts) (kk := kk) (tpos := tpos) I hc ne hq
    have li : its.toArray.size = i := by rw [← hx, rv.length]; simp
    subst li
    obtain ⟨f0, f1, f2, f3, f4, f5⟩ := hf it (by simp)
    refine W.stops s _ E ⟨st.1, st.2, p⟩ fun h' tk kept _ => I.turnedL kept hf
  self A i s Q E st h := by
    obtain ⟨⟨old, he⟩, _⟩ := st
    exact wpAny_pyIter_enum he h
theorem pi_enumT {X : Cx} {e : Expr} {ta : TA} {p pos tpos : Pos} {elts : List Expr} {kk : Nat} (hg : Gl X "enumerate") (hm : X.mg "enumerate" = none) (ha : PA X [e] ta) (hs : starEach [e] X.env = [(false, eval e X.env)] := by rfl) :
    PI X (.Tuple elts kk tpos) (.Call (.Name "enumerate" p) [e] [] pos) (fun σ H R => ta σ H fun vs H1 => ∃ a xs, vs = [.ref a] ∧ SqT X.K H1 a xs ∧ R (Iteu X.K a) H1) where
  run pins s σ H R I h := by
    refine Call_ (ld_blt I hg hm boot_enumerate (PyProof.Rows.callWith_type1 (thn (ha.run pos pins s σ H _ I h) ?_) hs rfl))
    rintro us ⟨hp, ge, dr, tk, os⟩ ⟨vs, H1, J, r1, a, xs, rfl, hq, q⟩
    obtain ⟨u, rfl, ru⟩ := vals1 r1
    obtain rfl : u = Value.ref a := ru
    obtain ⟨its, _, tup, _⟩ := J.tuple hq
    have szI : ∀ o : Obj, (hp.push o).objs.size = hp.objs.size + 1 := fun o => Heap.size_push ..
    refine callType_new F.called_enumerate (by decide) (F.typeCall_enumerate_1 _) (F.newCall_enumerate_1 _) (fun o => F.args_object_init_2 o _) F.entry_enumerate_new (made_enum (begins_tuple a its.toArray)) ⟨tup, ?_⟩
    generalize hI : (hp.push { cls := .type "tuple_iterator", data := .fields #[.ref a, .int 0 0] }) = hi
    have sI : hi.objs.size = hp.objs.size + 1 := by rw [← hI]; exact szI _
    have eI : hi.get? hp.objs.size = some { cls := .type "tuple_iterator", data := .fields #[.ref a, .int 0 0] } := by rw [← hI]; exact Heap.get?_push_size _ rfl
    have kI' : ∀ b o, hp.get? b = some o → hi.get? b = some o := fun b o z => by rw [← hI]; exact Heap.get?_push_of_some _ z
    have eE := Heap.get?_push_size hi (o := { cls := .type "enumerate", data := .fields #[.none, .bool false, .ref hp.objs.size, rawInt 0, .none, .none] }) rfl
    refine ⟨⟨_, eE, rfl⟩, wpAny_pyIter_enum eE ?_⟩
    have ne : hi.objs.size ≠ hp.objs.size := by rw [sI]; exact Nat.succ_ne_self _
    refine ⟨hi.objs.size, [hi.objs.size, hp.objs.size], _, Iteu X.K a, H1, rfl, J.kept (t' := tk) (fun b o z => Heap.get?_push_of_some _ (kI' b o z)), turn_enumT a hi.objs.size hp.objs.size ne, ⟨⟨.none, eE⟩, _, Heap.get?_push_of_some _ eI, rfl, rfl⟩, fun b hb => ?_, q⟩
    have ge' : hp.objs.size ≤ b := by
      have z : b = hi.objs.size ∨ b = hp.objs.size := by simpa using hb
      rcases z with z | z
      · rw [z, sI]; exact Nat.le_succ _
      · rw [z]; exact Nat.le_refl _
    exact J.fpOk ge' (J.hok.fresh ge')
theorem walk_enumT {K : PySem.W.Frag} {a : Addr} {xs : List V} : Walk (Iteu K a) xs.length (fun H => SqT K H a xs) (YPair (fun i => some (.int (i : Nat))) (fun i => xs[i]?)) where
  goes i H hi q := ⟨xs, xs[i], q, List.getElem?_eq_getElem hi⟩
  stops H q := ⟨xs, q, rfl⟩
  yields i H v H' _ q y := by
    obtain ⟨T, x, h1, h2, h3, h4⟩ := y
    exact ⟨T, .int (i : Nat), x, h1, h2, h3, rfl, h4 xs q⟩
end G

namespace G
open PySem PySem.Spec PyProof.Rows L2

/-! ### fewer slots known -/
inductive Sub : SC → SC → Prop
  | nil : Sub [] []
  | k {x : SD} {Γ Γ' : SC} : Sub Γ Γ' → Sub (x :: Γ) (x :: Γ')
  | n {x : SD} {Γ Γ' : SC} : Sub Γ Γ' → Sub (x :: Γ) (.no :: Γ')
theorem Sub.e {x y : SD} {Γ Γ' : SC} (h : x = y) (s : Sub Γ Γ') : Sub (x :: Γ) (y :: Γ') := h ▸ .k s
theorem Sub.refl : ∀ Γ : SC, Sub Γ Γ
  | [] => .nil
  | _ :: r => .k (Sub.refl r)
theorem Sub.len : ∀ {Γ Γ' : SC}, Sub Γ Γ' → Γ'.length = Γ.length
  | _, _, .nil => rfl
  | _, _, .k h => congrArg (· + 1) h.len
  | _, _, .n h => congrArg (· + 1) h.len
theorem Sub.at : ∀ {Γ Γ' : SC}, Sub Γ Γ' → ∀ i, Γ'.getD i .no = Γ.getD i .no ∨ Γ'.getD i .no = .no
  | _, _, .nil, i => .inl rfl
  | _, _, .k h, 0 => .inl rfl
  | _, _, .k h, i + 1 => h.at i
  | _, _, .n h, 0 => .inr rfl
  | _, _, .n h, i + 1 => h.at i
theorem R.sub {K : PySem.W.Frag} {H0 H : Hp} {M : List Addr} {g : Gs} {Γ Γ' : SC} {σ : St} (r : R K H0 M g Γ σ H) (s : Sub Γ Γ') : R K H0 M g Γ' σ H := r.weak s.len s.at
theorem g_sub {X : Cx} {H0 : Hp} {M : List Addr} {Γ Γ' : SC} {sts : List Stmt} {D : DD} (s : Sub Γ Γ') (h : SG X H0 M Γ' sts D) : SG X H0 M Γ sts D := fun g σ H D' r im => h g σ H D' (r.sub s) im

/-! ### for -/
def loopD (X : Cx) (H0 : Hp) (M : List Addr) (Γ' : SC) (B : SC → Prop) (D : DD) : DD :=
  { rt := D.rt, nx := fun g σ H => R X.K H0 M g Γ' σ H, ct := fun g σ H => R X.K H0 M g Γ' σ H, bk := fun g σ H => ∃ Γ', B Γ' ∧ R X.K H0 M g Γ' σ H }
section
variable {X : Cx} {H0 : Hp} {M : List Addr} {Γ Γ1 Γ2 : SC} {e c iter : Expr} {es : List Expr} {pos p0 : Pos} {rest body : List Stmt} {D : DD} {B : SC → Prop}
theorem Imp.refl (g : Hp → Prop) (D : Ends) : Imp g D D := ⟨fun _ _ _ h => h, fun _ _ _ h => h, fun _ _ _ h => h, fun _ _ _ h => h⟩
/-- the body's end at turn i + 1 -/
def PvD (X : Cx) (H0 : Hp) (M : List Addr) (g : Gs) (Γs : Nat → SC) (H1 : Hp) (i : Nat) (σ : St) (H : Hp) : Prop := R X.K H0 M g (Γs i) σ H ∧ Gw H1 H
theorem body_ok {Γs : Nat → SC} {Γb : SC} {i : Nat} {g : Gs} {σ : St} {H H1 : Hp} {rt : VK} {bk : St → Hp → Prop} (hb : SG X H0 M Γb body (loopD X H0 M (Γs (i + 1)) B D)) (r : R X.K H0 M g Γb σ H) (s : Gw H1 H)
    (hrt : ∀ v H, Gw H1 H → Kept g H → D.rt v H → rt v H) (hbk : ∀ Γ' σ H, B Γ' → R X.K H0 M g Γ' σ H → Gw H1 H → bk σ H) :
    wSs X body { nx := PvD X H0 M g Γs H1 (i + 1), rt := rt, ct := PvD X H0 M g Γs H1 (i + 1), bk := bk } σ H :=
  hb g σ H _ r ⟨fun σ' H' f q => ⟨q, s.trans f.1⟩, fun v H' f q => hrt v H' (s.trans f.1) f.2 q, fun σ' H' f ⟨Γ', b, q⟩ => hbk Γ' σ' H' b q (s.trans f.1), fun σ' H' f q => ⟨q, s.trans f.1⟩⟩
/-- for x in a tuple, x in slot t -/
theorem g_forT (t : Nat) {x : Str} {px : Pos} {ds : List PyData} (Γs : Nat → SC) (B : SC → Prop) (hN : X.N.Nodup) (hl : ∀ i, (Γs i).length = X.N.length) (hp : PassesOwn (model X.prog X.w) X.A X.env X.xe) (hc : X.calm = true) (he : EI X H0 M Γ iter (.tuple ds)) (h0 : Sub Γ (Γs 0))
    (hb : ∀ i d, ds[i]? = some d → SG X H0 M ((Γs i).set t (.im d)) body (loopD X H0 M (Γs (i + 1)) B D)) (hr : SG X H0 M (Γs ds.length) rest D) (hbk : ∀ Γ', B Γ' → SG X H0 M Γ' rest D)
    (hi : X.N[t]? = some x := by rfl) (hx : Loc X.env.scope x := by first | exact Or.inl rfl | exact Or.inr rfl) (hf : X.fn x = true ∨ X.env.scope.names.lookup x = some .local := by first | exact .inl rfl | exact .inr rfl | assumption)
    (hs : ∀ x, foldedSetIterable iter X.env x = pure x := by intro _; rfl) : SG X H0 M Γ (.For (.Name x px) iter body [] pos :: rest) D := fun g σ H D' r im => by
  refine wS.of' (ps_for hp hc (pi_tup pe_w) (pg_name hN hi hx hf) pss_w hs) (he g σ H _ r fun v H1 s m => ?_)
  obtain ⟨a, xs, rfl, hq, hxs⟩ := m.tup_inv
  refine ⟨a, rfl, ⟨xs, hq⟩, ?_⟩
  have im1 := im.go (Same.gw s)
  have ht : t < X.N.length := (List.getElem?_eq_some_iff.mp hi).1
  refine for_it walk_tup (PvD X H0 M g Γs H1) ⟨(r.same s).sub h0, Gw.refl H1⟩ (fun i σ H hi p => p.2.sqt hq) (fun i v σ2 H2 H' hi p y => ?_) (fun σ2 H2 p => ?_)
  · obtain ⟨rfl, y⟩ := y
    obtain ⟨d, hd, md⟩ := hxs.get' y
    show wSs X body _ _ _
    refine body_ok (Γs := Γs) (i := i) (hb i d hd) (p.1.setIm (Same.refl _) (by rw [hl]; exact ht) (md.gw p.2 d v)) p.2 (fun v H3 s3 k3 q => im1.rt v H3 ⟨s3, k3⟩ q) (fun Γ' σ3 H3 b r3 s3 => hbk Γ' b g σ3 H3 D' r3 (im1.go s3))
  · have e : xs.length = ds.length := hxs.len
    rw [e] at p
    exact hr g σ2 H2 D' p.1 (im1.go p.2)
/-- for x in range(..), x in slot t -/
theorem g_forR1 (t : Nat) {x : Str} {px pr : Pos} {n : Int} {ea : Expr} (Γs : Nat → SC) (B : SC → Prop) (hN : X.N.Nodup) (hl : ∀ i, (Γs i).length = X.N.length) (hp : PassesOwn (model X.prog X.w) X.A X.env X.xe) (hc : X.calm = true) (hm : X.mg "range" = none) (he : EI X H0 M Γ ea (.int n)) (hn0 : -(2 ^ 62) ≤ n) (hn1 : n < 2 ^ 62) (h0 : Sub Γ (Γs 0))
    (hb : ∀ i : Nat, i < n.toNat → SG X H0 M ((Γs i).set t (.im (.int (i : Nat)))) body (loopD X H0 M (Γs (i + 1)) B D)) (hr : SG X H0 M (Γs n.toNat) rest D) (hbk : ∀ Γ', B Γ' → SG X H0 M Γ' rest D)
    (hg : Gl X "range" := by rfl) (hi : X.N[t]? = some x := by rfl) (hx : Loc X.env.scope x := by first | exact Or.inl rfl | exact Or.inr rfl) (hf : X.fn x = true ∨ X.env.scope.names.lookup x = some .local := by first | exact .inl rfl | exact .inr rfl | assumption)
    (hs1 : starEach [ea] X.env = [(false, eval ea X.env)] := by rfl) (hs : ∀ x, foldedSetIterable (.Call (.Name "range" pr) [ea] [] p0) X.env x = pure x := by intro _; rfl) : SG X H0 M Γ (.For (.Name x px) (.Call (.Name "range" pr) [ea] [] p0) body [] pos :: rest) D := fun g σ H D' r im => by
  refine wS.of' (ps_for hp hc (pi_range1 hg hm (pa_cons pe_w pa_nil hs1) hs1) (pg_name hN hi hx hf) pss_w hs) (he g σ H _ r fun v H1 s m => ?_)
  refine ⟨n, by rw [m.int_inv], hn0, hn1, ?_⟩
  have im1 := im.go (Same.gw s)
  have ht : t < X.N.length := (List.getElem?_eq_some_iff.mp hi).1
  refine for_it walk_range (PvD X H0 M g Γs H1) ⟨(r.same s).sub h0, Gw.refl H1⟩ (fun i σ H hi p => trivial) (fun i v σ2 H2 H' hi p y => ?_) (fun σ2 H2 p => hr g σ2 H2 D' p.1 (im1.go p.2))
  obtain ⟨rfl, y⟩ := y
  have ev : v = V.int ((i : Nat) : Int) := by rw [y]; exact congrArg V.int (by omega)
  subst ev
  show wSs X body _ _ _
  exact body_ok (Γs := Γs) (i := i) (hb i hi) (p.1.setIm (Same.refl _) (by rw [hl]; exact ht) (.int _)) p.2 (fun v H3 s3 k3 q => im1.rt v H3 ⟨s3, k3⟩ q) (fun Γ' σ3 H3 b r3 s3 => hbk Γ' b g σ3 H3 D' r3 (im1.go s3))
/-- for x in range(a, b) -/
theorem g_forR2 (t : Nat) {x : Str} {px pr : Pos} {lo n : Int} {ea eb : Expr} (Γs : Nat → SC) (B : SC → Prop) (hN : X.N.Nodup) (hl : ∀ i, (Γs i).length = X.N.length) (hp : PassesOwn (model X.prog X.w) X.A X.env X.xe) (hc : X.calm = true) (hm : X.mg "range" = none) (ha : EI X H0 M Γ ea (.int lo)) (he : EI X H0 M Γ eb (.int n)) (hn : -(2 ^ 62) ≤ lo ∧ lo < 2 ^ 62 ∧ -(2 ^ 62) ≤ n ∧ n < 2 ^ 62) (h0 : Sub Γ (Γs 0))
    (hb : ∀ i : Nat, i < (n - lo).toNat → SG X H0 M ((Γs i).set t (.im (.int (lo + (i : Nat))))) body (loopD X H0 M (Γs (i + 1)) B D)) (hr : SG X H0 M (Γs (n - lo).toNat) rest D) (hbk : ∀ Γ', B Γ' → SG X H0 M Γ' rest D)
    (hg : Gl X "range" := by rfl) (hi : X.N[t]? = some x := by rfl) (hx : Loc X.env.scope x := by first | exact Or.inl rfl | exact Or.inr rfl) (hf : X.fn x = true ∨ X.env.scope.names.lookup x = some .local := by first | exact .inl rfl | exact .inr rfl | assumption)
    (hs1 : starEach [ea, eb] X.env = [(false, eval ea X.env), (false, eval eb X.env)] := by rfl) (hs2 : starEach [eb] X.env = [(false, eval eb X.env)] := by rfl) (hs : ∀ x, foldedSetIterable (.Call (.Name "range" pr) [ea, eb] [] p0) X.env x = pure x := by intro _; rfl) : SG X H0 M Γ (.For (.Name x px) (.Call (.Name "range" pr) [ea, eb] [] p0) body [] pos :: rest) D := fun g σ H D' r im => by
  refine wS.of' (ps_for hp hc (pi_range2 hg hm (pa_cons pe_w (pa_cons pe_w pa_nil hs2) (by rw [hs1, hs2])) hs1 hs2) (pg_name hN hi hx hf) pss_w hs) (ha g σ H _ r fun v0 H0' s0 m0 => he g σ H0' _ (r.same s0) fun v H1 s m => ?_)
  refine ⟨lo, n, by rw [m.int_inv, m0.int_inv], hn, ?_⟩
  have im1 := im.go ((Same.gw s0).trans (Same.gw s))
  have ht : t < X.N.length := (List.getElem?_eq_some_iff.mp hi).1
  refine for_it walk_range (PvD X H0 M g Γs H1) ⟨((r.same s0).same s).sub h0, Gw.refl H1⟩ (fun i σ H hi p => trivial) (fun i v σ2 H2 H' hi p y => ?_) (fun σ2 H2 p => hr g σ2 H2 D' p.1 (im1.go p.2))
  obtain ⟨rfl, y⟩ := y
  subst y
  show wSs X body _ _ _
  exact body_ok (Γs := Γs) (i := i) (hb i hi) (p.1.setIm (Same.refl _) (by rw [hl]; exact ht) (.int _)) p.2 (fun v H3 s3 k3 q => im1.rt v H3 ⟨s3, k3⟩ q) (fun Γ' σ3 H3 b r3 s3 => hbk Γ' b g σ3 H3 D' r3 (im1.go s3))
/-- for i, x in enumerate(a tuple), in slots t and u -/
theorem g_forET (t u : Nat) {x y : Str} {px py pr pt : Pos} {kk : Nat} {ds : List PyData} {ea : Expr} (Γs : Nat → SC) (B : SC → Prop) (hN : X.N.Nodup) (hl : ∀ i, (Γs i).length = X.N.length) (hp : PassesOwn (model X.prog X.w) X.A X.env X.xe) (hc : X.calm = true) (hm : X.mg "enumerate" = none) (he : EI X H0 M Γ ea (.tuple ds)) (h0 : Sub Γ (Γs 0))
    (hb : ∀ i d, ds[i]? = some d → SG X H0 M (((Γs i).set t (.im (.int (i : Nat)))).set u (.im d)) body (loopD X H0 M (Γs (i + 1)) B D)) (hr : SG X H0 M (Γs ds.length) rest D) (hbk : ∀ Γ', B Γ' → SG X H0 M Γ' rest D)
    (hg : Gl X "enumerate" := by rfl) (hi : X.N[t]? = some x := by rfl) (hx : Loc X.env.scope x := by first | exact Or.inl rfl | exact Or.inr rfl) (hf : X.fn x = true ∨ X.env.scope.names.lookup x = some .local := by first | exact .inl rfl | exact .inr rfl | assumption)
    (hj : X.N[u]? = some y := by rfl) (hy : Loc X.env.scope y := by first | exact Or.inl rfl | exact Or.inr rfl) (hfy : X.fn y = true ∨ X.env.scope.names.lookup y = some .local := by first | exact .inl rfl | exact .inr rfl | assumption)
    (hs1 : starEach [ea] X.env = [(false, eval ea X.env)] := by rfl) (hs : ∀ x, foldedSetIterable (.Call (.Name "enumerate" pr) [ea] [] p0) X.env x = pure x := by intro _; rfl)
    (h1 : (assignEach [.Name x px, .Name y py] X.env).map (·.2) = assign (.Name x px) X.env :: (assignEach [.Name y py] X.env).map (·.2) := by rfl) (h2 : (assignEach [.Name y py] X.env).map (·.2) = assign (.Name y py) X.env :: (assignEach [] X.env).map (·.2) := by rfl)
    (h3 : (assignEach [.Name x px, .Name y py] X.env).length = 2 := by rfl) (h4 : (assignEach [.Name x px, .Name y py] X.env).findIdx? (·.1) = none := by rfl) :
    SG X H0 M Γ (.For (.Tuple [.Name x px, .Name y py] kk pt) (.Call (.Name "enumerate" pr) [ea] [] p0) body [] pos :: rest) D := fun g σ H D' r im => by
  refine wS.of' (ps_for hp hc (pi_enumT hg hm (pa_cons pe_w pa_nil hs1) hs1) (pg_tup hc (pgs_cons (pg_name hN hi hx hf) (pgs_cons (pg_name hN hj hy hfy) pgs_nil h2) h1) h3 h4) pss_w hs) (he g σ H _ r fun v H1 s m => ?_)
  obtain ⟨a, xs, rfl, hq, hxs⟩ := m.tup_inv
  refine ⟨a, xs, rfl, hq, ?_⟩
  have im1 := im.go (Same.gw s)
  have ht : t < X.N.length := (List.getElem?_eq_some_iff.mp hi).1
  have hu : u < X.N.length := (List.getElem?_eq_some_iff.mp hj).1
  refine for_it walk_enumT (PvD X H0 M g Γs H1) ⟨(r.same s).sub h0, Gw.refl H1⟩ (fun i σ H hi p => p.2.sqt hq) (fun i v σ2 H2 H' hi p y => ?_) (fun σ2 H2 p => ?_)
  · obtain ⟨T, z, w, rfl, hT, rfl, e1, e2⟩ := y
    have ez : z = .int ((i : Nat) : Int) := (Option.some.inj e1).symm
    subst ez
    obtain ⟨d, hd, md⟩ := hxs.get' e2
    have sT : Same H2 (upd H2 T (.tup [.int (i : Nat), w])) := same_new hT
    refine ⟨T, _, rfl, .inl (.inl upd_same), rfl, _, _, rfl, _, _, rfl, rfl, ?_⟩
    show wSs X body _ _ _
    have r2 := (p.1.setIm (i := t) (v := .int ((i : Nat) : Int)) sT (by rw [hl]; exact ht) (.int _)).setIm (i := u) (v := w) (Same.refl _) (by rw [List.length_set, hl]; exact hu) ((md.gw p.2 d w).same sT)
    exact body_ok (Γs := Γs) (i := i) (hb i d hd) r2 (p.2.trans (Same.gw sT)) (fun v H3 s3 k3 q => im1.rt v H3 ⟨s3, k3⟩ q) (fun Γ' σ3 H3 b r3 s3 => hbk Γ' b g σ3 H3 D' r3 (im1.go s3))
  · have e : xs.length = ds.length := hxs.len
    rw [e] at p
    exact hr g σ2 H2 D' p.1 (im1.go p.2)
/-- for x in a new list -/
theorem g_forL (t : Nat) {x : Str} {px : Pos} {ds : List PyData} (Γs : Nat → SC) (B : SC → Prop) (hN : X.N.Nodup) (hl : ∀ i, (Γs i).length = X.N.length) (hp : PassesOwn (model X.prog X.w) X.A X.env X.xe) (hc : X.calm = true) (he : EL X H0 M Γ iter ds) (h0 : Sub Γ (Γs 0))
    (hb : ∀ i d, ds[i]? = some d → SG X H0 M ((Γs i).set t (.im d)) body (loopD X H0 M (Γs (i + 1)) B D)) (hr : SG X H0 M (Γs ds.length) rest D) (hrl : (Γs ds.length).all (fun x => !isRl x) = true) (hbk : ∀ Γ', B Γ' → Γ'.all (fun x => !isRl x) = true ∧ SG X H0 M Γ' rest D)
    (hi : X.N[t]? = some x := by rfl) (hx : Loc X.env.scope x := by first | exact Or.inl rfl | exact Or.inr rfl) (hf : X.fn x = true ∨ X.env.scope.names.lookup x = some .local := by first | exact .inl rfl | exact .inr rfl | assumption)
    (hs : ∀ x, foldedSetIterable iter X.env x = pure x := by intro _; rfl) : SG X H0 M Γ (.For (.Name x px) iter body [] pos :: rest) D := fun g σ H D' r im => by
  refine wS.of' (ps_for hp hc (pi_list pe_w) (pg_name hN hi hx hf) pss_w hs) (he g σ H _ r fun v H1 s m => ?_)
  obtain ⟨a, xs, rfl, hn, hq, hxs⟩ := m
  refine ⟨a, rfl, ⟨xs, SqL.of hq⟩, ?_⟩
  have im1 := im.go (Same.gw s)
  have ht : t < X.N.length := (List.getElem?_eq_some_iff.mp hi).1
  refine for_it walk_list (PvD X H0 M ((a, xs) :: g) Γs H1) ⟨(r.ghost s hn hq).sub h0, Gw.refl H1⟩ (fun i σ H hi p => SqL.of (p.1.kept _ List.mem_cons_self)) (fun i v σ2 H2 H' hi p y => ?_) (fun σ2 H2 p => ?_)
  · obtain ⟨rfl, y⟩ := y
    obtain ⟨d, hd, md⟩ := hxs.get' y
    show wSs X body _ _ _
    refine body_ok (Γs := Γs) (i := i) (hb i d hd) (p.1.setIm (Same.refl _) (by rw [hl]; exact ht) (md.gw p.2 d v)) p.2 (fun v H3 s3 k3 q => im1.rt v H3 ⟨s3, fun q hq => k3 q (List.mem_cons_of_mem _ hq)⟩ q) (fun Γ' σ3 H3 b r3 s3 => (hbk Γ' b).2 g σ3 H3 D' (r3.unghost (hbk Γ' b).1) (im1.go s3))
  · have e : xs.length = ds.length := hxs.len
    rw [e] at p
    exact hr g σ2 H2 D' (p.1.unghost hrl) (im1.go p.2)
/-- for x in a list of one's own in slot k, which is only read meanwhile -/
theorem g_forO (t k : Nat) {x y : Str} {px py : Pos} {ds : List PyData} (Γs : Addr → Nat → SC) (B : Addr → SC → Prop) (hN : X.N.Nodup) (hl : ∀ p i, (Γs p i).length = X.N.length) (hp : PassesOwn (model X.prog X.w) X.A X.env X.xe) (hc : X.calm = true) (hk : Γ.getD k .no = .ls ds) (h0 : ∀ p, Sub (Γ.set k (.rl p ds)) (Γs p 0))
    (hb : ∀ p i d, ds[i]? = some d → SG X H0 M ((Γs p i).set t (.im d)) body (loopD X H0 M (Γs p (i + 1)) (B p) D)) (hkn : ∀ p, (Γs p ds.length).getD k .no = .rl p ds) (hrl : ∀ p, ((Γs p ds.length).set k .no).all (fun x => !isRl x) = true) (hr : ∀ p, SG X H0 M ((Γs p ds.length).set k (.ls ds)) rest D)
    (hbk : ∀ p Γ', B p Γ' → Γ'.getD k .no = .rl p ds ∧ (Γ'.set k .no).all (fun x => !isRl x) = true ∧ SG X H0 M (Γ'.set k (.ls ds)) rest D)
    (hi : X.N[t]? = some x := by rfl) (hx : Loc X.env.scope x := by first | exact Or.inl rfl | exact Or.inr rfl) (hf : X.fn x = true ∨ X.env.scope.names.lookup x = some .local := by first | exact .inl rfl | exact .inr rfl | assumption)
    (hNy : X.N[k]? = some y := by rfl) (hv : Vis X.env.scope y := by first | exact Or.inl rfl | exact Or.inr (Or.inl rfl) | exact Or.inr (Or.inr rfl)) (hd : (y == ("__debug__" : Str)) = false := by decide)
    (hcd : (y == ("__classdict__" : Str)) = false := by decide)
    (hs : ∀ x, foldedSetIterable (.Name y py) X.env x = pure x := by intro _; rfl) : SG X H0 M Γ (.For (.Name x px) (.Name y py) body [] pos :: rest) D := fun g σ H D' r im => by
  obtain ⟨a, xs, e, hq, hxs, _⟩ := r.ls hk
  obtain ⟨p, vs, hp0, hnin, r1⟩ := r.freeze hk
  have hil : k < Γ.length := by rw [← r.len]; exact (List.getElem?_eq_some_iff.mp e).1
  have hrl1 : (Γ.set k (.rl p ds)).getD k .no = .rl p ds := by rw [getD_set, if_pos rfl, if_pos hil]
  obtain ⟨e', us, hq', hxs'⟩ := r1.rl hrl1
  have ep : a = p := by
    rw [e] at e'
    injection e' with a; injection a with b; injection b
  subst ep
  have hvs : vs = us := by
    have := r1.kept (a, vs) List.mem_cons_self
    rw [show H a = some (.lst vs) from this] at hq'
    injection hq' with z; injection z
  subst hvs
  refine wS.of' (ps_for hp hc (pi_list (pe_var hNy hv hd hcd)) (pg_name hN hi hx hf) pss_w hs) ⟨_, e, a, rfl, ⟨vs, SqL.of hq'⟩, ?_⟩
  have ht : t < X.N.length := (List.getElem?_eq_some_iff.mp hi).1
  refine for_it walk_list (PvD X H0 M ((a, vs) :: g) (Γs a) H) ⟨r1.sub (h0 a), Gw.refl H⟩ (fun i σ H hi p => SqL.of (p.1.kept _ List.mem_cons_self)) (fun i v σ2 H2 H' hi p y => ?_) (fun σ2 H2 p => ?_)
  · obtain ⟨rfl, y⟩ := y
    obtain ⟨d, hd, md⟩ := hxs'.get' y
    show wSs X body _ _ _
    refine body_ok (Γs := Γs a) (i := i) (hb a i d hd) (p.1.setIm (Same.refl _) (by rw [hl]; exact ht) (md.gw p.2 d v)) p.2 (fun v H3 s3 k3 q => im.rt v H3 ⟨s3, fun q hq => k3 q (List.mem_cons_of_mem _ hq)⟩ q) (fun Γ' σ3 H3 b r3 s3 => ?_)
    obtain ⟨b1, b2, b3⟩ := hbk a Γ' b
    exact b3 g σ3 H3 D' (r3.thaw hnin b1 b2) (im.go s3)
  · have e : vs.length = ds.length := hxs'.len
    rw [e] at p
    exact hr a g σ2 H2 D' (p.1.thaw hnin (hkn a) (hrl a)) (im.go p.2)
end
end G

namespace G
open PySem PySem.Spec PyProof.Rows L2

/-! ### comprehensions -/
/-- the slots in a comprehension's block -/
def wipeC (Γ : SC) : List Nat → SC
  | [] => Γ
  | v :: vs => (wipeC Γ vs).set v .no
theorem wipeC_len (Γ : SC) : ∀ vs, (wipeC Γ vs).length = Γ.length
  | [] => rfl
  | v :: vs => by show ((wipeC Γ vs).set v .no).length = _; rw [List.length_set, wipeC_len Γ vs]
theorem R.wipe {K : PySem.W.Frag} {H0 H : Hp} {M : List Addr} {g : Gs} {Γ : SC} {σ : St} (r : R K H0 M g Γ σ H) : ∀ vs : List Nat, R K H0 M g (wipeC Γ vs) (wipe σ vs) H
  | [] => r
  | v :: vs => by
    have ih := R.wipe r vs
    obtain ⟨own, h1, h2, h3⟩ := ih.slots
    refine ⟨ih.but, by show ((L2.wipe σ vs).set v none).length = ((wipeC Γ vs).set v .no).length; rw [List.length_set, List.length_set, ih.len], fun j => if j = v then [] else own j, fun j => ?_, fun i j hij p hp => ?_, fun q hq => ⟨(h3 q hq).1, fun i z => ?_⟩⟩
    · show SlotOk K H0 M g H (if j = v then [] else own j) (((L2.wipe σ vs).set v none).getD j none) (((wipeC Γ vs).set v .no).getD j .no)
      rw [getD_set, getD_set]
      by_cases hj : v = j
      · subst hj
        simp only [if_true]
        have e : (if v < (wipeC Γ vs).length then SD.no else SD.no) = SD.no := by split <;> rfl
        rw [e]; rfl
      · rw [if_neg hj, if_neg hj, if_neg (Ne.symm hj)]
        exact h1 j
    · have hp' : p ∈ (if i = v then [] else own i) := hp
      show p ∉ (if j = v then [] else own j)
      by_cases hi : i = v
      · rw [if_pos hi] at hp'; cases hp'
      · rw [if_neg hi] at hp'
        by_cases hj : j = v
        · rw [if_pos hj]; exact fun z => nomatch z
        · rw [if_neg hj]; exact h2 i j hij p hp'
    · have z' : q.1 ∈ (if i = v then [] else own i) := z
      by_cases hi : i = v
      · rw [if_pos hi] at z'; cases z'
      · rw [if_neg hi] at z'; exact (h3 q hq).2 i z'
/-- a list that no name holds grows -/
theorem R.ghostUpd {K : PySem.W.Frag} {H0 H : Hp} {M : List Addr} {g : Gs} {Γ : SC} {σ : St} {D : Addr} {vs us : List V} (r : R K H0 M ((D, vs) :: g) Γ σ H) (h0 : H0 D = none) (hn : ∀ us, (D, us) ∈ g → False) (hrl : Γ.all (fun x => !isRl x) = true ∨ ∀ i ds, Γ.getD i .no ≠ .rl D ds) : R K H0 M ((D, us) :: g) Γ σ (upd H D (.lst us)) := by
  obtain ⟨own, h1, h2, h3⟩ := r.slots
  have hD := h3 (D, vs) List.mem_cons_self
  have gw : Gw H (upd H D (.lst us)) := gw_mut (by rw [show H D = some (.lst vs) from hD.1]; trivial)
  refine ⟨fun b o hb hq => ?_, r.len, own, fun i => ?_, h2, fun q hq => ?_⟩
  · rw [upd_ne (fun z => by subst z; rw [h0] at hq; cases hq)]
    exact r.but b o hb hq
  · have k1 := (h1 i).keep gw fun p hp => upd_ne (fun z => hD.2 i (z ▸ hp))
    have hne : ∀ ds, Γ.getD i .no ≠ .rl D ds := by
      rcases hrl with h | h
      · intro ds z
        have := noRl (i := i) h
        rw [z] at this; cases this
      · exact h i
    cases hx : Γ.getD i .no with
    | rl p ds =>
      rw [hx] at k1 hne
      obtain ⟨e, e1, e2, ws, e3, e4⟩ := k1
      refine ⟨e, e1, e2, ws, ?_, e4⟩
      rcases List.mem_cons.mp e3 with z | z
      · exact absurd (by rw [(Prod.mk.inj z).1]) (hne ds)
      · exact List.mem_cons_of_mem _ z
    | no => rw [hx] at k1; exact k1
    | im d => rw [hx] at k1; exact k1
    | va v => rw [hx] at k1; exact k1
    | ls ds => rw [hx] at k1; exact k1
    | pl p ds => rw [hx] at k1; exact k1
    | dk ds => rw [hx] at k1; exact k1
    | st a r b => rw [hx] at k1; exact k1
  · rcases List.mem_cons.mp hq with z | z
    · subst z
      exact ⟨upd_same, hD.2⟩
    · refine ⟨?_, (h3 q (List.mem_cons_of_mem _ z)).2⟩
      rw [upd_ne (fun e => hn q.2 (by rw [← e]; exact z))]
      exact (h3 q (List.mem_cons_of_mem _ z)).1
section
variable {X : Cx} {H0 : Hp} {M : List Addr} {Γ Γ1 Γ2 : SC} {e c iter elt : Expr} {es : List Expr} {pos p0 : Pos}
/-- the contexts of a comprehension's block -/
abbrev Blk (X : Cx) (scope : Scope) (φ : Cx → Prop) : Prop := ∀ (s : Shared) (H : Hp) (C : Addr) (cl : List (Str × Addr)) (fp : List Addr), φ (X.blk s H scope (compEnvC scope cl C X.env) fp)
def wEB (X : Cx) (scope : Scope) (e : Expr) : TE := fun σ H Q => Blk X scope fun Y => wE Y e σ H Q
def wTB (X : Cx) (scope : Scope) (e : Expr) : TT := fun σ H Q => Blk X scope fun Y => wT Y e σ H Q
/-- what a comprehension walks: data whose i-th item is told -/
structure Src (X : Cx) (H0 : Hp) (M : List Addr) (Γ : SC) (iter tg : Expr) (wi : TI) (ds : List PyData) : Prop where
  run : ∀ g σ H (Rr : It → Hp → Prop), R X.K H0 M g Γ σ H → (∀ J g' H1, Same H H1 → R X.K H0 M g' Γ σ H1 → (∀ q, q ∈ g → q ∈ g') → (∀ p, H1 p = none → ∀ us, (p, us) ∈ g' → False) →
    Walk J ds.length (fun H' => Gw H1 H' ∧ Kept g' H') (fun i H x H' => H' = H ∧ ∃ d, ds[i]? = some d ∧ (∀ H2, Gw H1 H2 → Im X.K H2 x d)) → Rr J H1) → wi σ H Rr
theorem src_tup {tg : Expr} {ds : List PyData} (he : EI X H0 M Γ iter (.tuple ds)) : Src X H0 M Γ iter tg (iTup X.K (wE X iter)) ds := ⟨fun g σ H Rr r k => he g σ H _ r fun v H1 s m => by
  obtain ⟨a, xs, rfl, hq, hxs⟩ := m.tup_inv
  refine ⟨a, rfl, ⟨xs, hq⟩, k _ g H1 s (r.same s) (fun q hq => hq) (fun p hp us hu => ?_) ?_⟩
  · have := (r.same s).kept _ hu
    rw [show H1 p = some (.lst us) from this] at hp; cases hp
  · have w := walk_tup (K := X.K) (a := a) (xs := xs)
    rw [hxs.len] at w
    refine w.mono (fun H' g' => g'.1.sqt hq) fun i H2 x H' hi g' y => ?_
    obtain ⟨rfl, y⟩ := y
    obtain ⟨d, hd, md⟩ := hxs.get' y
    exact ⟨rfl, d, hd, fun H3 g3 => md.gw g3 d x⟩⟩
theorem src_new {tg : Expr} {ds : List PyData} (he : EL X H0 M Γ iter ds) : Src X H0 M Γ iter tg (iList X.K (wE X iter)) ds := ⟨fun g σ H Rr r k => he g σ H _ r fun v H1 s m => by
  obtain ⟨a, xs, rfl, hn, hq, hxs⟩ := m
  have r1 := r.ghost s hn hq
  refine ⟨a, rfl, ⟨xs, SqL.of hq⟩, k _ ((a, xs) :: g) H1 s r1 (fun q hq => List.mem_cons_of_mem _ hq) (fun p hp us hu => ?_) ?_⟩
  · have := r1.kept _ hu
    rw [show H1 p = some (.lst us) from this] at hp; cases hp
  · have w := walk_list (K := X.K) (a := a) (xs := xs)
    rw [hxs.len] at w
    refine w.mono (fun H' g' => SqL.of (g'.2 _ List.mem_cons_self)) fun i H2 x H' hi g' y => ?_
    obtain ⟨rfl, y⟩ := y
    obtain ⟨d, hd, md⟩ := hxs.get' y
    exact ⟨rfl, d, hd, fun H3 g3 => md.gw g3 d x⟩⟩
theorem lc_w {x : Str} {px : Pos} {scope : Scope} {ds : List PyData} {fs : List PyData} {wi : TI} {i : Nat} (hc : X.calm = true) (hN : X.N.Nodup) (hsrc : Src X H0 M Γ iter (.Name x px) wi ds) (hlen : fs.length = ds.length) (hmax : ds.length < 100000)
    (hM : MOk X H0 M Γ)
    (he : ∀ (k : Nat) (d f : PyData), ds[k]? = some d → fs[k]? = some f → Blk X scope fun Y => EI Y H0 M ((wipeC Γ [i]).set i (.im d)) elt f)
    (hiN : i < X.N.length) (hl : Γ.length = X.N.length) {g : Gs} {σ : St} {H : Hp} {Q : VK} (r : R X.K H0 M g Γ σ H) (k : ∀ v H', Same H H' → kL X.K fs H v H' → Q v H') : tLc wi (gName i) tYes (wEB X scope elt) [i] σ H Q := by
  refine hsrc.run g σ H _ r fun J g' H1 s1 r1 sub nog w => ?_
  intro Dd hD
  have h0 : H0 Dd = none := r1.fresh (hM g' σ H1 r1) hD
  have hn : ∀ us, (Dd, us) ∈ g' → False := nog Dd hD
  have r2 : R X.K H0 M ((Dd, []) :: g') Γ σ (upd H1 Dd (.lst [])) := r1.ghost (same_new hD) hD upd_same
  have gw2 : Gw H1 (upd H1 Dd (.lst [])) := Same.gw (same_new hD)
  have nrl : ∀ {vs : List V} {H' : Hp}, R X.K H0 M ((Dd, vs) :: g') Γ σ H' → ∀ j es, Γ.getD j .no ≠ .rl Dd es := fun {vs H'} rr j es z => by
    obtain ⟨own, q1, _, q3⟩ := r1.slots
    have qj := q1 j
    rw [z] at qj
    obtain ⟨_, _, _, ws, m, _⟩ := qj
    exact hn ws m
  refine lc_it w (fun k H' => Same H1 H' ∧ ∃ vs, vs.length = k ∧ ImAll X.K H' vs (fs.take k) ∧ R X.K H0 M ((Dd, vs) :: g') Γ σ H') ⟨same_new hD, [], rfl, .nil, r2⟩ (fun k H' hk p => ?_) (fun k v H2 H' hk p y => ?_) (fun H' p => ?_)
  · obtain ⟨p1, vs, _, _, rr⟩ := p
    exact ⟨Same.gw p1, fun q hq => rr.kept q (List.mem_cons_of_mem _ hq)⟩
  · obtain ⟨p1, vs, lv, mv, rr⟩ := p
    obtain ⟨rfl, d, hd, md⟩ := y
    have hkf : k < fs.length := by omega
    have hf : fs[k]? = some fs[k] := List.getElem?_eq_getElem hkf
    refine ⟨?_, ?_⟩
    · show L2.wipe ((L2.wipe σ [i]).set i (some v)) [i] = L2.wipe σ [i]
      show ((σ.set i none).set i (some v)).set i none = σ.set i none
      rw [List.set_set, List.set_set]
    · unfold tYes
      dsimp only
      rw [if_pos rfl]
      intro s H C cl fp
      have rw1 : R X.K H0 M ((Dd, vs) :: g') ((wipeC Γ [i]).set i (.im d)) ((L2.wipe σ [i]).set i (some v)) H' := (rr.wipe [i]).setIm (Same.refl _) (by rw [wipeC_len, hl]; exact hiN) (md H' (Same.gw p1))
      refine he k d fs[k] hd hf s H C cl fp ((Dd, vs) :: g') _ H' _ rw1 fun u H4 s4 m4 => ?_
      have rr4 := rr.same s4
      have hDd : H4 Dd = some (.lst vs) := rr4.kept (Dd, vs) List.mem_cons_self
      refine ⟨vs, hDd, by rw [lv]; exact Nat.lt_of_lt_of_le (Nat.lt_trans hk hmax) (by decide), fun b o hb => ?_, vs ++ [u], by simp [lv], ?_, rr4.ghostUpd h0 hn (.inr (nrl rr4))⟩
      · rw [upd_ne (fun z => by subst z; rw [hD] at hb; cases hb)]
        exact s4 _ _ (p1 _ _ hb)
      have ge : Gw H4 (upd H4 Dd (.lst (vs ++ [u]))) := gw_mut (by rw [hDd]; trivial)
      have e : fs.take (k + 1) = fs.take k ++ [fs[k]] := by rw [List.take_add_one, hf]; rfl
      rw [e]
      exact ((mv.same s4).gw ge _ _).append (.cons (m4.gw ge _ _) .nil)
  · obtain ⟨p1, vs, lv, mv, rr⟩ := p
    have e : fs.take ds.length = fs := List.take_of_length_le (by omega)
    rw [e] at mv
    exact k _ H' (s1.trans p1) ⟨Dd, vs, rfl, s1.free hD, rr.kept (Dd, vs) List.mem_cons_self, mv⟩
theorem l_lc {x : Str} {px : Pos} {scope : Scope} {ds : List PyData} {fs : List PyData} {wi : TI} {i : Nat} (hc : X.calm = true) (hN : X.N.Nodup) (hpi : PI X (.Name x px) iter wi) (hsrc : Src X H0 M Γ iter (.Name x px) wi ds) (hlen : fs.length = ds.length) (hmax : ds.length < 100000)
    (hM : MOk X H0 M Γ)
    (he : ∀ (k : Nat) (d f : PyData), ds[k]? = some d → fs[k]? = some f → Blk X scope fun Y => EI Y H0 M ((wipeC Γ [i]).set i (.im d)) elt f)
    (ok : BlkOk X.N X.env.scope scope [(x, i)])
    (hg : Blk X scope fun Y => PG Y (.Name x px) (gName i)) (hiN : i < X.N.length) (hl : Γ.length = X.N.length)
    (hs : ∀ x, foldedSetIterable iter X.env x = pure x := by intro _; rfl) : EL X H0 M Γ (.ListComp elt [⟨.Name x px, iter, [], 0⟩] scope pos) fs := fun g σ H Q r k =>
  wE.of (pe_lc (te := wEB X scope elt) (tt := tYes) hc hN hpi ok hg (fun _ _ _ _ _ => pts_nil) (fun s H C cl fp => ⟨fun pins s' σ' H' Q' I q => (q s H C cl fp).go pins s' I⟩) hs) (lc_w hc hN hsrc hlen hmax hM he hiN hl r k)
/-- y = [..] on one line -/
theorem g_setLC (j : Nat) {y x : Str} {py px : Pos} {scope : Scope} {ds : List PyData} {fs : List PyData} {wi : TI} {i : Nat} {rest : List Stmt} {D : DD} (hc : X.calm = true) (hN : X.N.Nodup) (hpi : PI X (.Name x px) iter wi) (hsrc : Src X H0 M Γ iter (.Name x px) wi ds) (hlen : fs.length = ds.length) (hmax : ds.length < 100000)
    (hM : MOk X H0 M Γ)
    (he : ∀ (k : Nat) (d f : PyData), ds[k]? = some d → fs[k]? = some f → Blk X scope fun Y => EI Y H0 M ((wipeC Γ [i]).set i (.im d)) elt f)
    (ok : BlkOk X.N X.env.scope scope [(x, i)])
    (hg : Blk X scope fun Y => PG Y (.Name x px) (gName i)) (hiN : i < X.N.length) (hl : Γ.length = X.N.length) (hr : SG X H0 M (Γ.set j (.ls fs)) rest D)
    (hj : X.N[j]? = some y := by rfl) (hyl : X.env.scope.names.lookup y = some .local := by rfl) (hk : X.env.scope.kind = .function := by rfl) (hpl : (py.line == p0.line) = true := by rfl) (hyn : (scope.names.any fun (n, k) => n == y && (k == .local || k == .cell)) = false := by decide +kernel)
    (hs : ∀ x, foldedSetIterable iter X.env x = pure x := by intro _; rfl) : SG X H0 M Γ (.Assign [.Name y py] (.ListComp elt [⟨.Name x px, iter, [], 0⟩] scope p0) pos :: rest) D := fun g σ H D' r im =>
  wS.of' (ps_setLc (te := wEB X scope elt) (tt := tYes) hc hN hj hyl (sw_true hk hyl hpl hyn) hpi ok hg (fun _ _ _ _ _ => pts_nil) (fun s H C cl fp => ⟨fun pins s' σ' H' Q' I q => (q s H C cl fp).go pins s' I⟩) hs) (lc_w hc hN hsrc hlen hmax hM he hiN hl r fun v H' s ⟨p, vs, ev, hn, hp, m⟩ => by
    subst ev
    exact hr g _ _ D' (r.setLs s (by rw [hl]; exact (List.getElem?_eq_some_iff.mp hj).1) hn (r.fresh (hM g σ H r) hn) hp m) (im.go (Same.gw s)))
end
end G

namespace G
open PySem PySem.Spec PyProof.Rows L2
section
variable {X : Cx} {H0 : Hp} {M : List Addr} {Γ Γ1 Γ2 : SC} {e a b c iter elt : Expr} {es : List Expr} {pos p0 : Pos} {rest body : List Stmt} {D : DD}
/-! ### isinstance -/
def tyD : PyData → String
  | .none => "NoneType"
  | .bool _ => "bool"
  | .int _ => "int"
  | .str _ => "str"
  | .list _ => "list"
  | .tuple _ => "tuple"
  | .dict _ => "dict"
theorem Im.ty {K : PySem.W.Frag} {H : Hp} : ∀ {d : PyData} {v : V}, Im K H v d → TyX K H v (.type (tyD d))
  | .none, _, h => by cases h; exact .base .non
  | .bool b, _, h => by cases h; exact .base (.bl b)
  | .int i, _, h => by cases h; exact .base (.int i)
  | .str x, _, h => by cases h; exact .base (.str x)
  | .tuple ds, _, h => by
    cases h with
    | tup a b =>
      rcases a with (a | ⟨o, a⟩) | ⟨o, its, n, hk, hc, _⟩
      · exact .base (.tup a)
      · exact .fTuple a
      · exact .kTuple hk hc
  | .list _, _, h => by cases h
  | .dict _, _, h => by cases h
theorem v_bltn {x : Str} {v : V} {u : Value} (hm : X.mg x = none) (hv : bootBuiltins x = some u) (r : RelV v u) (hg : Gl X x := by rfl) (hn : x ≠ "__name__" := by decide) (hd : (x == ("__debug__" : Str)) = false := by decide) : EV X H0 M Γ (.Name x pos) v := fun g σ H Q R k =>
  wE.of (pe_bltn hg hm hv r hn hd) (k _ H (Same.refl H) rfl)
/-- isinstance(x, T), T a built-in class -/
theorem i_isi {d : PyData} {T : String} {k : Bool} (hm : X.mg "isinstance" = none) (hT : EV X H0 M Γ b (.ty T)) (he : EI X H0 M Γ e d) (hk : kitB (tyD d) T = some k) (hg : Gl X "isinstance" := by rfl)
    (h1 : starEach (e :: [b]) X.env = (false, eval e X.env) :: starEach [b] X.env := by exact star1 rfl) (h2 : starEach (b :: []) X.env = (false, eval b X.env) :: starEach [] X.env := by exact star1 rfl) (hpl : (backTo pos (starEach [b] X.env)).any (·.1) = false := by rfl) :
    EI X H0 M Γ (.Call (.Name "isinstance" p0) [e, b] [] pos) (.bool k) :=
  e_callB (id := "isinstance") call_isi hm (by decide +kernel) (a_consA he (a_consA hT a_nilA h2) h1) (fun H H1 vs Q s1 p k' => by
    obtain ⟨v, r, H2, rfl, s2, s3, m, v', r', H3, rfl, s4, s5, rfl, rfl⟩ := p
    exact ⟨v, .ty T, _, .type T, k, rfl, .ty T, (m.same s3).ty, kit_ty hk, k' _ _ (Same.refl _) (.bl k)⟩) hg (by decide) (by decide) h1 hpl
theorem cutD_from (ds : List PyData) (k : Nat) : cutD ds (some (k : Int)) none = ds.drop k := by
  unfold cutD
  rw [HT.sIx_nat, HT.sIx_none]
  by_cases h : k ≤ ds.length
  · rw [Nat.min_eq_left h, List.take_of_length_le (by rw [List.length_drop]; omega)]
  · rw [Nat.min_eq_right (by omega), List.drop_of_length_le (Nat.le_refl _), List.drop_of_length_le (by omega)]
    exact List.take_nil
theorem cutD_to (ds : List PyData) (k : Nat) : cutD ds none (some (k : Int)) = ds.take k := by
  unfold cutD
  rw [HT.sIx_nat, HT.sIx_none, List.drop_zero, Nat.sub_zero]
  by_cases h : k ≤ ds.length
  · rw [Nat.min_eq_left h]
  · rw [Nat.min_eq_right (by omega), List.take_of_length_le (Nat.le_refl _), List.take_of_length_le (by omega)]
/-! ### len -/
theorem i_lenT {ds : List PyData} (hm : X.mg "len" = none) (he : EI X H0 M Γ e (.tuple ds)) (hg : Gl X "len" := by rfl) (h1 : starEach (e :: []) X.env = (false, eval e X.env) :: starEach [] X.env := by exact star1 rfl) (hpl : (backTo pos (starEach [] X.env)).any (·.1) = false := by rfl) :
    EI X H0 M Γ (.Call (.Name "len" p0) [e] [] pos) (.int ds.length) :=
  e_callB (id := "len") call_len_seq hm PySem.boot_len (a_consA he a_nilA h1) (fun H H1 vs Q s1 p k' => by
    obtain ⟨v, r, H2, rfl, s2, s3, m, rfl⟩ := p
    obtain ⟨q, xs, rfl, hq, hxs⟩ := (m.same s3).tup_inv
    refine ⟨q, xs, rfl, .inr hq, k' _ _ (Same.refl _) ?_⟩
    rw [hxs.len]; exact .int _) hg (by decide) (by decide) h1 hpl
theorem i_lenO {ds : List PyData} (hm : X.mg "len" = none) (he : EE X H0 M Γ e (kO X.K ds)) (hg : Gl X "len" := by rfl) (h1 : starEach (e :: []) X.env = (false, eval e X.env) :: starEach [] X.env := by exact star1 rfl) (hpl : (backTo pos (starEach [] X.env)).any (·.1) = false := by rfl) :
    EI X H0 M Γ (.Call (.Name "len" p0) [e] [] pos) (.int ds.length) :=
  e_callB (id := "len") call_len_seq hm PySem.boot_len (a_consA he a_nilA h1) (fun H H1 vs Q s1 p k' => by
    obtain ⟨v, r, H2, rfl, s2, s3, ⟨q, xs, rfl, hq, hxs⟩, rfl⟩ := p
    refine ⟨q, xs, rfl, .inl (SqL.of (s3 _ _ hq)), k' _ _ (Same.refl _) ?_⟩
    rw [hxs.len]; exact .int _) hg (by decide) (by decide) h1 hpl
theorem i_lenS {z : Str} (hz : z.length ≤ 100000) (hm : X.mg "len" = none) (he : EI X H0 M Γ e (.str z)) (hg : Gl X "len" := by rfl) (h1 : starEach (e :: []) X.env = (false, eval e X.env) :: starEach [] X.env := by exact star1 rfl) (hpl : (backTo pos (starEach [] X.env)).any (·.1) = false := by rfl) :
    EI X H0 M Γ (.Call (.Name "len" p0) [e] [] pos) (.int z.length) :=
  e_callB (id := "len") call_len_str hm PySem.boot_len (a_consA he a_nilA h1) (fun H H1 vs Q s1 p k' => by
    obtain ⟨v, r, H2, rfl, s2, s3, m, rfl⟩ := p
    exact ⟨z, by rw [m.str_inv], Nat.le_trans hz (by decide), k' _ _ (Same.refl _) (.int _)⟩) hg (by decide) (by decide) h1 hpl
/-- a new list is a list -/
theorem EL.o {ds : List PyData} (h : EL X H0 M Γ e ds) : EE X H0 M Γ e (kO X.K ds) := h.mono fun H v H' s ⟨p, vs, e, _, q, m⟩ => ⟨p, vs, e, q, m⟩
/-! ### abs, int -/
theorem i_abs {i : Int} (hm : X.mg "abs" = none) (he : EI X H0 M Γ e (.int i)) (hg : Gl X "abs" := by rfl) (h1 : starEach (e :: []) X.env = (false, eval e X.env) :: starEach [] X.env := by exact star1 rfl) (hpl : (backTo pos (starEach [] X.env)).any (·.1) = false := by rfl) :
    EI X H0 M Γ (.Call (.Name "abs" p0) [e] [] pos) (.int (if i < 0 then -i else i)) :=
  e_callB (id := "abs") call_abs hm (by decide +kernel) (a_consA he a_nilA h1) (fun H H1 vs Q s1 p k' => by
    obtain ⟨v, r, H2, rfl, s2, s3, m, rfl⟩ := p
    exact ⟨i, by rw [m.int_inv], k' _ _ (Same.refl _) (.int _)⟩) hg (by decide) (by decide) h1 hpl
theorem i_int1 {i : Int} (hm : X.mg "int" = none) (he : EI X H0 M Γ e (.int i)) (hg : Gl X "int" := by rfl) (h1 : starEach (e :: []) X.env = (false, eval e X.env) :: starEach [] X.env := by exact star1 rfl) (hpl : (backTo pos (starEach [] X.env)).any (·.1) = false := by rfl) :
    EI X H0 M Γ (.Call (.Name "int" p0) [e] [] pos) (.int i) :=
  e_callTy call_int1 hm (by decide +kernel) (a_consA he a_nilA h1) (fun H H1 vs Q s1 p k' => by
    obtain ⟨v, r, H2, rfl, s2, s3, m, rfl⟩ := p
    exact .inl ⟨i, by rw [m.int_inv], k' _ _ (Same.refl _) (.int _)⟩) hg (by decide) (by decide) h1 hpl
/-! ### list(..), tuple(..) -/
theorem l_ofT {ds : List PyData} (hm : X.mg "list" = none) (he : EI X H0 M Γ e (.tuple ds)) (hg : Gl X "list" := by rfl) (h1 : starEach (e :: []) X.env = (false, eval e X.env) :: starEach [] X.env := by exact star1 rfl) (hpl : (backTo pos (starEach [] X.env)).any (·.1) = false := by rfl) :
    EL X H0 M Γ (.Call (.Name "list" p0) [e] [] pos) ds :=
  e_callTy call_list_of hm (by decide +kernel) (a_consA he a_nilA h1) (fun H H1 vs Q s1 p k' => by
    obtain ⟨v, r, H2, rfl, s2, s3, m, rfl⟩ := p
    obtain ⟨q, xs, rfl, hq, hxs⟩ := (m.same s3).tup_inv
    exact ⟨q, xs, rfl, .inr hq, fun l hl => k' _ _ (same_new hl) ⟨l, xs, rfl, s1.free hl, upd_same, hxs.same (same_new hl)⟩⟩) hg (by decide) (by decide) h1 hpl
theorem l_ofO {ds : List PyData} (hm : X.mg "list" = none) (he : EE X H0 M Γ e (kO X.K ds)) (hg : Gl X "list" := by rfl) (h1 : starEach (e :: []) X.env = (false, eval e X.env) :: starEach [] X.env := by exact star1 rfl) (hpl : (backTo pos (starEach [] X.env)).any (·.1) = false := by rfl) :
    EL X H0 M Γ (.Call (.Name "list" p0) [e] [] pos) ds :=
  e_callTy call_list_of hm (by decide +kernel) (a_consA he a_nilA h1) (fun H H1 vs Q s1 p k' => by
    obtain ⟨v, r, H2, rfl, s2, s3, ⟨q, xs, rfl, hq, hxs⟩, rfl⟩ := p
    exact ⟨q, xs, rfl, .inl (SqL.of (s3 _ _ hq)), fun l hl => k' _ _ (same_new hl) ⟨l, xs, rfl, s1.free hl, upd_same, (hxs.same s3).same (same_new hl)⟩⟩) hg (by decide) (by decide) h1 hpl
theorem i_tupO {ds : List PyData} (hm : X.mg "tuple" = none) (he : EE X H0 M Γ e (kO X.K ds)) (hg : Gl X "tuple" := by rfl) (h1 : starEach (e :: []) X.env = (false, eval e X.env) :: starEach [] X.env := by exact star1 rfl) (hpl : (backTo pos (starEach [] X.env)).any (·.1) = false := by rfl) :
    EI X H0 M Γ (.Call (.Name "tuple" p0) [e] [] pos) (.tuple ds) :=
  e_callTy call_tuple_of hm (by decide +kernel) (a_consA he a_nilA h1) (fun H H1 vs Q s1 p k' => by
    obtain ⟨v, r, H2, rfl, s2, s3, ⟨q, xs, rfl, hq, hxs⟩, rfl⟩ := p
    exact ⟨q, xs, rfl, .inl ⟨SqL.of (s3 _ _ hq), fun l hl => k' _ _ (same_new hl) (.tup (.inl (.inl upd_same)) ((hxs.same s3).same (same_new hl)))⟩⟩) hg (by decide) (by decide) h1 hpl
/-- the keys of a dict of one's own, in a new list -/
def keyD : Key → PyData
  | .inl i => .int i
  | .inr x => .str x
theorem ImKv.keys {K : PySem.W.Frag} {H : Hp} : ∀ {vs : List (Key × V)} {ds : List (Key × PyData)}, ImKv K H vs ds → ImAll K H (vs.map fun kv => L2.kV kv.1) (ds.map fun kv => keyD kv.1)
  | _, _, .nil => .nil
  | (k, v) :: vs, (k', d) :: ds, .cons h t => by
    obtain ⟨h1, _⟩ := h
    have h1' : k = k' := h1
    subst h1'
    refine .cons ?_ (ImKv.keys t)
    cases k with
    | inl i => exact .int i
    | inr x => exact .str x
abbrev kD (K : PySem.W.Frag) (ds : List (Key × PyData)) : EK := fun _ v H' => ∃ p vs, v = .ref p ∧ H' p = some (.dK vs) ∧ ImKv K H' vs ds
theorem d_var (i : Nat) {x : Str} {ds : List (Key × PyData)} (h : Γ.getD i .no = .dk ds) (hN : X.N[i]? = some x := by rfl) (hv : Vis X.env.scope x := by first | exact Or.inl rfl | exact Or.inr (Or.inl rfl) | exact Or.inr (Or.inr rfl)) (hd : (x == ("__debug__" : Str)) = false := by decide)
    (hcd : (x == ("__classdict__" : Str)) = false := by decide) : EE X H0 M Γ (.Name x pos) (kD X.K ds) := fun g σ H Q r k => by
  obtain ⟨p, vs, e, m, q, _⟩ := r.dk h
  exact wE.of (pe_var hN hv hd hcd) ⟨_, e, k _ H (Same.refl H) ⟨p, vs, rfl, m, q⟩⟩
theorem l_ofD {ds : List (Key × PyData)} (hc : X.calm = true) (hm : X.mg "list" = none) (he : EE X H0 M Γ e (kD X.K ds)) (hg : Gl X "list" := by rfl) (h1 : starEach (e :: []) X.env = (false, eval e X.env) :: starEach [] X.env := by exact star1 rfl) (hpl : (backTo pos (starEach [] X.env)).any (·.1) = false := by rfl) :
    EL X H0 M Γ (.Call (.Name "list" p0) [e] [] pos) (ds.map fun kv => keyD kv.1) :=
  e_callTy (call_list_dK hc) hm (by decide +kernel) (a_consA he a_nilA h1) (fun H H1 vs Q s1 p k' => by
    obtain ⟨v, r, H2, rfl, s2, s3, ⟨q, xs, rfl, hq, hxs⟩, rfl⟩ := p
    exact ⟨q, xs, rfl, s3 _ _ hq, fun l hl => k' _ _ (same_new hl) ⟨l, _, rfl, s1.free hl, upd_same, (hxs.keys.same s3).same (same_new hl)⟩⟩) hg (by decide) (by decide) h1 hpl
/-! ### list + list -/
theorem l_cat {ds es : List PyData} (hz : ds.length + es.length ≤ 100000) (ha : EE X H0 M Γ a (kO X.K ds)) (hb : EE X H0 M Γ b (kO X.K es)) : EL X H0 M Γ (.BinOp a .Add b pos) (ds ++ es) :=
  fun g σ H Q R k => wE.of (pe_op op_cat pe_w pe_w) (ha g σ H _ R fun x H1 s1 ⟨p, xs, e1, h1, m1⟩ => hb g σ H1 _ (R.same s1) fun y H2 s2 ⟨q, ys, e2, h2, m2⟩ =>
    ⟨p, q, xs, ys, e1, e2, s2 _ _ h1, h2, by rw [m1.len, m2.len]; exact Nat.le_trans hz (by decide), fun r hr => k _ _ ((s1.trans s2).trans (same_new hr)) ⟨r, _, rfl, (s1.trans s2).free hr, upd_same, ((m1.same s2).append m2).same (same_new hr)⟩⟩)
/-! ### == of lists -/
def rEqL (K : PySem.W.Frag) : R2 := fun x y H Q => ∃ p q xs ys ds es, x = .ref p ∧ y = .ref q ∧ SqL K H p xs ∧ SqL K H q ys ∧ ImAll K H xs ds ∧ ImAll K H ys es ∧ PyData.depthAll ds < 64 ∧ Q (.bl (PyData.eqvAll ds es)) H
theorem op_eqL (hu : X.A.units + 64 < cLine) : OpR X (compareOp .Eq) (rEqL X.K) := by
  intro pins s σ H x y v u Q I rx ry h
  obtain ⟨p, q, xs, ys, ds, es, rfl, rfl, hp, hq, hd, he, sd, k⟩ := h
  obtain ⟨as, r1⟩ := Dp.reads I (.list ds) _ v (.lst hp (hd.dp ds xs)) rx
  obtain ⟨bs, r2⟩ := Dp.reads I (.list es) _ u (.lst hq (he.dp es ys)) ry
  have h1 : PyData.depth (.list ds) = PyData.depthAll ds + 1 := by first | rfl | simp [PyData.depth] | (simp [PyData.depth]; omega)
  have : min (PyData.depth (.list ds)) (PyData.depth (.list es)) ≤ PyData.depth (.list ds) := Nat.min_le_left _ _
  refine SeqAt.eq_plain r1 r2 (hd.plain ds xs) (he.plain es ys) (by omega) ⟨.bl _, H, I, ?_, k⟩
  show Value.bool (PyData.eqv (.list ds) (.list es)) = Value.bool (PyData.eqvAll ds es)
  rw [PyData.eqv]
theorem i_eqL {k : Nat} {ds es : List PyData} (hr : Room k X.A) (hd : PyData.depthAll ds < 64) (ha : EE X H0 M Γ a (kO X.K ds)) (hb : EE X H0 M Γ b (kO X.K es)) : EI X H0 M Γ (.Compare a [.Eq] [b] pos) (.bool (PyData.eqvAll ds es)) :=
  e_cmp (op_eqL hr.units) ha hb (nomark _) fun H H1 H2 x y Q s1 s2 ⟨p, xs, e1, h1, m1⟩ ⟨q, ys, e2, h2, m2⟩ k => ⟨p, q, xs, ys, ds, es, e1, e2, SqL.of (s2 _ _ h1), SqL.of h2, m1.same s2, m2, hd, k _ _ (Same.refl _) (.bl _)⟩
/-! ### in a list -/
def rInP (K : PySem.W.Frag) (neg : Bool) : R2 := fun x y H Q => ∃ d p xs ds, Im K H x d ∧ y = .ref p ∧ SqL K H p xs ∧ ImAll K H xs ds ∧ d.depth ≤ 64 ∧ Q (.bl (if neg then !(ds.any fun z => PyData.eqv z d) else ds.any fun z => PyData.eqv z d)) H
theorem op_inP (hu : X.A.units + 66 < cLine) : OpR X (compareOp .In) (rInP X.K false) := by
  intro pins s σ H x y v u Q I rx ry h
  obtain ⟨d, p, xs, ds, hd, rfl, hp, hds, sd, k⟩ := h
  obtain ⟨as, r1⟩ := Dp.reads I d x v (hd.dp d x) rx
  obtain ⟨bs, r2⟩ := Dp.reads I (.list ds) _ u (.lst hp (hds.dp ds xs)) ry
  have : min (PyData.depthAll ds) d.depth ≤ d.depth := Nat.min_le_right _ _
  exact SeqAt.in_list_data r2 r1 (hds.plain ds xs) (hd.plain d x) (by omega) ⟨.bl _, H, I, rfl, k⟩
theorem op_niP (hu : X.A.units + 66 < cLine) : OpR X (compareOp .NotIn) (rInP X.K true) := by
  intro pins s σ H x y v u Q I rx ry h
  obtain ⟨d, p, xs, ds, hd, rfl, hp, hds, sd, k⟩ := h
  obtain ⟨as, r1⟩ := Dp.reads I d x v (hd.dp d x) rx
  obtain ⟨bs, r2⟩ := Dp.reads I (.list ds) _ u (.lst hp (hds.dp ds xs)) ry
  have : min (PyData.depthAll ds) d.depth ≤ d.depth := Nat.min_le_right _ _
  exact SeqAt.notIn_list_data r2 r1 (hds.plain ds xs) (hd.plain d x) (by omega) ⟨.bl _, H, I, rfl, k⟩
theorem units66 {k : Nat} {A : Around} (r : Room k A) : A.units + 66 < cLine := by have := r.un; omega
theorem t_notIn {k : Nat} {d : PyData} {ds : List PyData} (hr : Room k X.A) (hd : d.depth ≤ 64) (ha : EI X H0 M Γ a d) (hb : EE X H0 M Γ b (kO X.K ds)) (hm : behindInMarks .NotIn b = false := by rfl) : ET X H0 M Γ (.Compare a [.NotIn] [b] pos) (!(ds.any fun z => PyData.eqv z d)) :=
  t_cmp (op_niP (units66 hr)) ha hb hm fun H H1 H2 x y Q s1 s2 p1 ⟨p, xs, e1, h1, m1⟩ k => ⟨d, p, xs, ds, p1.same s2, e1, SqL.of h1, m1, hd, k _ (Same.refl _)⟩
theorem t_in {k : Nat} {d : PyData} {ds : List PyData} (hr : Room k X.A) (hd : d.depth ≤ 64) (ha : EI X H0 M Γ a d) (hb : EE X H0 M Γ b (kO X.K ds)) (hm : behindInMarks .In b = false := by rfl) : ET X H0 M Γ (.Compare a [.In] [b] pos) (ds.any fun z => PyData.eqv z d) :=
  t_cmp (op_inP (units66 hr)) ha hb hm fun H H1 H2 x y Q s1 s2 p1 ⟨p, xs, e1, h1, m1⟩ k => ⟨d, p, xs, ds, p1.same s2, e1, SqL.of h1, m1, hd, k _ (Same.refl _)⟩
/-! ### 0 <= i < n -/
theorem t_chain {i j l : Int} {op op' : CmpOp} {f f' : Int → Int → Bool} (ho : OpR X (compareOp op) (rI0 fun i j => .bl (f i j))) (ho' : OpR X (compareOp op') (rI0 fun i j => .bl (f' i j))) (ha : EI X H0 M Γ a (.int i)) (hb : EI X H0 M Γ b (.int j)) (hc : EI X H0 M Γ c (.int l))
    (hm : lastMarks [op, op'] [b, c] = false := by with_unfolding_all rfl) : ET X H0 M Γ (.Compare a [op, op'] [b, c] pos) (f i j && f' j l) := fun g σ H Q R k =>
  wT.of (pt_chain ho ho' pe_w pe_w pe_w hm) (ha g σ H _ R fun x H1 s1 p1 => hb g σ H1 _ (R.same s1) fun y H2 s2 p2 => ⟨i, j, p1.int_inv, p2.int_inv, f i j, rfl, by
    cases hf : f i j with
    | false =>
      rw [if_neg (by decide)]
      rw [hf] at k
      exact ⟨_, rfl, k H2 (s1.trans s2)⟩
    | true =>
      rw [if_pos rfl]
      rw [hf] at k
      exact hc g σ H2 _ (R.same (s1.trans s2)) fun z H3 s3 p3 => ⟨j, l, p2.int_inv, p3.int_inv, _, rfl, k H3 ((s1.trans s2).trans s3)⟩⟩)
/-! ### stores -/
/-- xs[i] = e -/
theorem g_item (i : Nat) {x : Str} {px pa : Pos} {d : PyData} {ds : List PyData} {j : Int} {n : Nat} (hls : Γ.getD i .no = .ls ds) (hj : ixN ds.length j = some n) (he : EI X H0 M Γ e d) (hix : EI X H0 M Γ b (.int j)) (hr : SG X H0 M (Γ.set i (.ls (ds.set n d))) rest D)
    (hN : X.N[i]? = some x := by rfl) (hv : Vis X.env.scope x := by first | exact Or.inl rfl | exact Or.inr (Or.inl rfl) | exact Or.inr (Or.inr rfl)) (hd : (x == ("__debug__" : Str)) = false := by decide)
    (hcd : (x == ("__classdict__" : Str)) = false := by decide)
    (hp : ∀ {to ti te : TE}, PE X (.Name x px) to → PE X b ti → PE X e te → PS X (.Assign [.Subscript (.Name x px) b pa] e pos) (tAsg te (gSub to ti rSetL)) := by
      intro to ti te h1 h2 h3; exact ps_asg h3 (pg_sub h1 h2 set_list)) : SG X H0 M Γ (.Assign [.Subscript (.Name x px) b pa] e pos :: rest) D := fun g σ H D' r im => by
  refine wS.of' (hp (pe_var hN hv hd hcd) pe_w pe_w) (he g σ H _ r fun v H1 s1 m1 => ?_)
  have r1 := r.same s1
  obtain ⟨p, vs, ex, hp0, hm, _⟩ := r1.ls hls
  refine ⟨_, ex, hix g σ H1 _ r1 fun u H2 s2 m2 => ?_⟩
  refine ⟨p, vs, j, n, rfl, m2.int_inv, s2 _ _ hp0, by rw [hm.len]; exact hj, ?_⟩
  refine hr g _ _ D' ((r1.same s2).updLs ex hls ((hm.same s2).set n (m1.same s2))) (im.go (((Same.gw s1).trans (Same.gw s2)).trans (gw_mut ?_)))
  rw [s2 _ _ hp0]; trivial
/-- x = {} -/
theorem g_dict (i : Nat) {x : Str} {px pd : Pos} (hM : MOk X H0 M Γ) (hN : X.N.Nodup) (hl : Γ.length = X.N.length) (hr : SG X H0 M (Γ.set i (.dk [])) rest D) (hi : X.N[i]? = some x := by rfl) (hx : Loc X.env.scope x := by first | exact Or.inl rfl | exact Or.inr rfl)
    (hs : swapsWith (.Dict [] [] pd) (some (.Name x px)) pos.line X.env = pure false := by rfl) (hf : X.fn x = true ∨ X.env.scope.names.lookup x = some .local := by first | exact .inl rfl | exact .inr rfl | assumption) : SG X H0 M Γ (.Assign [.Name x px] (.Dict [] [] pd) pos :: rest) D := fun g σ H D' r im =>
  wS.of' (ps_set hN hi hx pe_dnewK hs hf) (fun p hp => hr g _ _ D' (r.setDk (same_new hp) (by rw [hl]; exact (List.getElem?_eq_some_iff.mp hi).1) hp (r.fresh (hM g σ H r) hp) upd_same .nil) (im.go (Same.gw (same_new hp))))
def putD (kvs : List (Key × PyData)) (k : Key) (v : PyData) : List (Key × PyData) :=
  if (kvs.any fun kv => decide (kv.1 = k)) = true then kvs.map (fun kv => if kv.1 = k then (kv.1, v) else kv) else kvs ++ [(k, v)]
theorem ImKv.any {K : PySem.W.Frag} {H : Hp} (k : Key) : ∀ {vs : List (Key × V)} {ds : List (Key × PyData)}, ImKv K H vs ds → (vs.any fun kv => decide (kv.1 = k)) = (ds.any fun kv => decide (kv.1 = k))
  | _, _, .nil => rfl
  | _, _, .cons h t => by
    rw [List.any_cons, List.any_cons, ImKv.any k t, h.1]
theorem ImKv.map {K : PySem.W.Frag} {H : Hp} {k : Key} {v : V} {d : PyData} (m : Im K H v d) : ∀ {vs : List (Key × V)} {ds : List (Key × PyData)}, ImKv K H vs ds → ImKv K H (vs.map fun kv => if kv.1 = k then (kv.1, v) else kv) (ds.map fun kv => if kv.1 = k then (kv.1, d) else kv)
  | _, _, .nil => .nil
  | p :: _, q :: _, .cons h t => by
    refine .cons ?_ (ImKv.map m t)
    by_cases e : p.1 = k
    · dsimp only; rw [if_pos e, if_pos (h.1 ▸ e)]; exact ⟨h.1, m⟩
    · dsimp only; rw [if_neg e, if_neg (h.1 ▸ e)]; exact h
theorem ImKv.app {K : PySem.W.Frag} {H : Hp} {k : Key} {v : V} {d : PyData} (m : Im K H v d) : ∀ {vs : List (Key × V)} {ds : List (Key × PyData)}, ImKv K H vs ds → ImKv K H (vs ++ [(k, v)]) (ds ++ [(k, d)])
  | _, _, .nil => .cons ⟨rfl, m⟩ .nil
  | _, _, .cons h t => .cons h (ImKv.app m t)
theorem ImKv.put {K : PySem.W.Frag} {H : Hp} {k : Key} {v : V} {d : PyData} {vs : List (Key × V)} {ds : List (Key × PyData)} (m : Im K H v d) (h : ImKv K H vs ds) : ImKv K H (putK vs k v) (putD ds k d) := by
  unfold putK putD
  rw [h.any k]
  split
  · exact h.map m
  · exact h.app m
theorem ImKv.len {K : PySem.W.Frag} {H : Hp} : ∀ {vs : List (Key × V)} {ds : List (Key × PyData)}, ImKv K H vs ds → vs.length = ds.length
  | _, _, .nil => rfl
  | _, _, .cons _ t => congrArg (· + 1) (ImKv.len t)
/-- d[k] = e, the key a text or an int -/
theorem g_dput (i : Nat) {k n : Nat} {x : Str} {px pa : Pos} {d : PyData} {kk : Key} {ds : List (Key × PyData)} (hr0 : Room k X.A) (hls : Γ.getD i .no = .dk ds) (hz : ds.length < 100000) (he : EI X H0 M Γ e d) (hix : EI X H0 M Γ b (keyD kk)) (hr : SG X H0 M (Γ.set i (.dk (putD ds kk d))) rest D)
    (hN : X.N[i]? = some x := by rfl) (hv : Vis X.env.scope x := by first | exact Or.inl rfl | exact Or.inr (Or.inl rfl) | exact Or.inr (Or.inr rfl)) (hd : (x == ("__debug__" : Str)) = false := by decide)
    (hcd : (x == ("__classdict__" : Str)) = false := by decide)
    (hs : swapsWith e (some (.Subscript (.Name x px) b pa)) pos.line X.env = pure false := by rfl) : SG X H0 M Γ (.Assign [.Subscript (.Name x px) b pa] e pos :: rest) D := fun g σ H D' r im => by
  have hu : X.A.units + 1 < cLine := by have := hr0.un; omega
  refine wS.of' (ps_dput hu (pe_var hN hv hd hcd) pe_w pe_w hs) (he g σ H _ r fun v H1 s1 m1 => ?_)
  have r1 := r.same s1
  obtain ⟨p, vs, ex, hp0, hm, _⟩ := r1.dk hls
  refine ⟨_, ex, hix g σ H1 _ r1 fun u H2 s2 m2 => ?_⟩
  have eu : u = L2.kV kk := by
    cases kk with
    | inl i => exact m2.int_inv
    | inr x => exact m2.str_inv
  subst eu
  refine ⟨p, _, rfl, DPut.k (k := kk) (s2 _ _ hp0) (by rw [hm.len]; exact Nat.lt_of_lt_of_le hz (by decide)), ?_⟩
  refine hr g _ _ D' ((r1.same s2).updDk ex hls ((hm.gw (Same.gw s2)).put (m1.same s2))) (im.go (((Same.gw s1).trans (Same.gw s2)).trans (gw_mut ?_)))
  rw [s2 _ _ hp0]; trivial
/-- the end of a loop's turn -/
theorem g_loop {Γ' : SC} {B : SC → Prop} (s : Sub Γ Γ') : SG X H0 M Γ [] (loopD X H0 M Γ' B D) := g_nil fun g σ H r => r.sub s
/-- e alone, whose value is dropped -/
theorem g_expr {P : EK} (he : EE X H0 M Γ e P) (hr : SG X H0 M Γ rest D) (hs : swapsWith e none pos.line X.env = pure false := by rfl) : SG X H0 M Γ (.Expr e pos :: rest) D := fun g σ H D' r im =>
  wS.of' (ps_expr pe_w hs) (he g σ H _ r fun v H' s p => hr g σ H' D' (r.same s) (im.go (Same.gw s)))
/-- return a list of one's own -/
theorem g_retO (i : Nat) {x : Str} {px : Pos} {ds : List PyData} (h : Γ.getD i .no = .ls ds) (k : ∀ H p vs, But M H0 H → H0 p = none → H p = some (.lst vs) → ImAll X.K H vs ds → D.rt (.ref p) H)
    (hN : X.N[i]? = some x := by rfl) (hv : Vis X.env.scope x := by first | exact Or.inl rfl | exact Or.inr (Or.inl rfl) | exact Or.inr (Or.inr rfl)) (hd : (x == ("__debug__" : Str)) = false := by decide)
    (hcd : (x == ("__classdict__" : Str)) = false := by decide) : SG X H0 M Γ (.Return (some (.Name x px)) pos :: rest) D := fun g σ H D' r im => by
  obtain ⟨p, vs, e, m, q, n⟩ := r.ls h
  exact wS.of' (ps_ret (pe_var hN hv hd hcd)) ⟨_, e, im.rt _ _ ⟨Gw.refl H, r.kept⟩ (k H p vs r.but n m q)⟩
/-- return data, a new list -/
theorem g_retI {d : PyData} (he : EI X H0 M Γ e d) (k : ∀ v H', But M H0 H' → Im X.K H' v d → D.rt v H') : SG X H0 M Γ (.Return (some e) pos :: rest) D := g_ret he fun g σ H v H' r s m => k v H' (r.but.same s) m
theorem g_retL {ds : List PyData} (hM : MOk X H0 M Γ) (he : EL X H0 M Γ e ds) (k : ∀ p vs H', But M H0 H' → H0 p = none → H' p = some (.lst vs) → ImAll X.K H' vs ds → D.rt (.ref p) H') : SG X H0 M Γ (.Return (some e) pos :: rest) D :=
  g_ret he fun g σ H v H' r s ⟨p, vs, ev, n, q, m⟩ => by subst ev; exact k p vs H' (r.but.same s) (r.fresh (hM g σ H r) n) q m
theorem g_retXI {A : PyData → Prop} (he : EX X H0 M Γ e Γ1 (xI X.K A)) (k : ∀ g σ v H' d, R X.K H0 M g Γ1 σ H' → A d → Im X.K H' v d → D.rt v H') : SG X H0 M Γ (.Return (some e) pos :: rest) D := g_retX he fun g σ v H' r ⟨d, p, m⟩ => k g σ v H' d r p m
end
/-! ### defs -/
section
variable {P : Program} {w : World} {K : PySem.W.Frag} {mg : Str → Option Value} {base : Heap} {x qual : Str} {st : Stmt} {f : Addr} {fd : FuncData} {N ps : List Str} {k : Nat} {sp : Sp}
/-- the context of a body that lets nothing out -/
abbrev CxN (P : Program) (w : World) (K : PySem.W.Frag) (mg : Str → Option Value) (base : Heap) (N : List Str) (qual : Str) (st : Stmt) (f : Addr) (cdv : Value) (A : Around) (outer : List Env) (s : Shared) (H : Hp) (E : XK) : Cx :=
  (cxOf CX0 P w K mg base N qual (defScope st) f cdv A outer s H E).nox
theorem mk_fn (F : Fun K x qual st f fd) (S : FnScope N ps (defScope st)) (len : ∀ vs H Q E, sp vs H Q E → vs.length = ps.length)
    (body : ∀ cdv A outer s H vs Q E, Room k (A.deeper (envOfC qual (defScope st) s.heap.objs.size f cdv)) → sp vs H Q E →
      ∃ M Γ, R K H M [] Γ (L2.start N vs) H ∧ SG (CxN P w K mg base N qual st f cdv A outer s H E) H M Γ (defBody st) { rt := Q, nx := fun _ _ H' => Q .non H' }) : FnOk P w K mg base CX0 (k + 1) f fd ps sp :=
  F.ok S len fun cdv A outer s H vs Q E hr h => ⟨wSs _ _, pss_w, by
    obtain ⟨M, Γ, r, sg⟩ := body cdv A outer s H vs Q E hr h
    exact sg [] _ H _ r ⟨fun _ _ _ q => q, fun _ _ _ q => q, fun _ _ _ q => q, fun _ _ _ q => q⟩⟩
theorem mk_has {n : Nat} (F : Fun K x qual st f fd) (G : FnOk P w K mg base CX0 n f fd ps sp) (hm : mg x = some (.ref f)) (b : L2.Binds K fd ps []) : Has P w K mg base CX0 n x ps sp := ⟨f, fd, G, hm, F.kp, b⟩
end
end G

/-! G: errors. -/
namespace G
open PySem PySem.Spec PyProof.Rows L2

/-- the ends of a suite behind «except x as n»: slot i is empty -/
def Ends.gone (D : Ends) (i : Nat) : Ends where
  nx σ H := D.nx (σ.set i none) H
  rt := D.rt
  bk σ H := D.bk (σ.set i none) H
  ct σ H := D.ct (σ.set i none) H
section
variable {X : Cx} {x n : Str} {c : Value} {i : Nat} {body suite orelse : List Stmt} {b₀ : Stmt} {np pos pos' : Pos} {tb : WX → TS} {ts : Addr → Value → Option Addr → TS} {Wout : WX} {u : TS}
/-- what an error that the clause takes comes to -/
theorem caught_as (hs : X.stack = X.env :: X.outer) (hf : X.env.frame = some X.env.locals) (hN : X.N.Nodup) (hi : X.N[i]? = some n) (hln : X.env.kindOf n = some .local) (hc : Names X x c)
    (hsu : ∀ (a : Addr) (oe : Obj) (cls : Value) (d : Option Addr) (pn : List (Addr × Obj)), Zc cls d oe → (∃ vs, oe.data = .fields vs) → PSs (X.suite a ((a, oe) :: pn)) (b₀ :: suite) (ts a cls d))
    {pins : List (Addr × Obj)} {D : Ends} {xe : Value → Shared → Prop} {cls : Value} {d : Option Addr} {a : Addr} {B : Heap} {sI s' : Shared} {pins' : List (Addr × Obj)} {σ' : St} {H' : Hp} (J' : Inv (X.tr (X.pn ++ pins) xe) pins' σ' H' sI) (ok : X.Ok)
    (nb : ∀ b o, sI.heap.get? b = some o → b ∉ frs X.stack → B.get? b = some o) (up : sI.heap.UpToSlots s'.heap) (sky : Sky B X.stack a (Zc cls d) X.env.locals s'.heap) (na : H' a = none) (os : s'.os = sI.os) (ag : AllBare s'.gens)
    (hex : PySem.W.exmOne X.K cls c = some true) (hyes : ts a cls d (Ends.gone D i) (σ'.set i (some (.ref a))) H') :
    wpAny (model X.prog X.w) X.A (noteFrame (.ref a) X.env) (fun _ s₂ => wpAny (model X.prog X.w) X.A (setFlight (.ref a) none) (fun _ s₃ =>
      wpAny (model X.prog X.w) X.A (handleBy (.ref a) X.env [.ExceptHandler (some (.Name x np)) (some n) (b₀ :: suite) pos']) (SP X pins D) X.xe s₃) X.xe s₂) X.xe s' := by
  have fr : X.A.frames = some (X.env :: X.outer) := hs ▸ ok.frames
  have home := Inv.ofTry J' ok
  refine Sky.land Zc.steady fr hf (hs ▸ sky) fun hA flA upA => ?_
  obtain ⟨oA, vA, eA, zA, dA⟩ := flA.there
  have off : a ∉ frs (X.env :: X.outer) := fun m => by
    obtain ⟨_, o, e, no⟩ := flA.2.2.1.mem m
    exact no _ (Option.some.inj (eA.symm.trans e) ▸ dA)
  have offL : a ≠ X.env.locals := fun z => off (List.mem_filterMap.mpr ⟨X.env, List.mem_cons_self, z ▸ hf⟩)
  have offF : a ∉ X.fs := fun m => by
    obtain ⟨e, he, q⟩ := List.mem_filterMap.mp m
    exact off (List.mem_filterMap.mpr ⟨e, List.mem_cons_of_mem _ he, q⟩)
  have JA := home.landed (s' := { s' with heap := hA }) nb flA.1 (up.trans upA) os ag
  have SA := JA.suite eA dA na offL offF
  refine wpAny_handleBy_cons (codeAny_handlers_test ?_) (fun q => nomatch q)
  have typ : PySem.W.Looks (model X.prog X.w) hA (typeOf (.ref a)) cls := fun _ _ _ s k q => wpAny_typeOf_ref (k _ _ eA) (by rw [zA.1]; exact q)
  have look := PySem.W.exm_one (M := model X.prog X.w) JA.kIn typ hex
  have named : ∀ {Q E : Value → Shared → Prop}, Q c { s' with heap := hA } → wpAny (model X.prog X.w) (X.A.mark (some (.ref a))) (eval (.Name x np) X.env) Q E { s' with heap := hA } := fun q => by
    rcases hc with ⟨g1, g2, m | ⟨m, v, ne⟩⟩
    · exact ld_glob (X := X.suite a _) SA g1 m q g2
    · exact ld_blt (X := X.suite a _) SA g1 m v q ne g2
  refine named (look.here ?_)
  refine codeAny_handlers_suite_as (HandSPX.lands_againZ flA fun hB flB upB => ?_)
  obtain ⟨oB, vB, eB, zB, dB⟩ := flB.there
  have SB := (home.landed (s' := { s' with heap := hB }) nb flB.1 ((up.trans upA).trans upB) os ag).suite eB dB na offL offF
  refine store_ok (X := X.suite a ((a, oB) :: (X.pn ++ pins))) (v := .ref a) SB hN hi (.inl hln) rfl (fun sC SC => ?_) (.inr hln)
  refine wpAny_mono ((hsu a oB cls d (X.pn ++ pins) zB ⟨vB, dB⟩).run [] sC _ H' _ SC hyes) (fun f sD q => ?_) (fun _ _ z => z.elim)
  have out : ∀ {σD : St} {HD : Hp} {Q : Shared → Prop}, Inv (X.suite a ((a, oB) :: (X.pn ++ pins))) [] σD HD sD → (∀ sE, Inv X pins (σD.set i none) HD sE → Q sE) →
      wpAny (model X.prog X.w) X.A (do bindName X.env n .none; unbindBehindTheSuite X.env n pos') (fun _ sE => Q sE) X.xe sD := fun S q => gone_ok (S.unsuite ok) hN hi hln q
  cases f with
  | ret w =>
    obtain ⟨v, σD, HD, S, r, q⟩ := q
    exact out S fun _ J => ⟨_, _, _, J, r, q⟩
  | next => obtain ⟨σD, HD, S, q⟩ := q; exact out S fun _ J => ⟨_, _, J, q⟩
  | brk => obtain ⟨σD, HD, S, q⟩ := q; exact out S fun _ J => ⟨_, _, J, q⟩
  | cont => obtain ⟨σD, HD, S, q⟩ := q; exact out S fun _ J => ⟨_, _, J, q⟩
/-- try: body / except x as n: suite / else: orelse; every error that the body lets out is the clause's -/
theorem ps_try_asE (ho : PSs X orelse u) (hs : X.stack = X.env :: X.outer) (hf : X.env.frame = some X.env.locals) (hN : X.N.Nodup) (hi : X.N[i]? = some n) (hln : X.env.kindOf n = some .local) (hc : Names X x c)
    (hb : ∀ (W : WX) (pn : List (Addr × Obj)) (xe : Value → Shared → Prop), Takes (X.tr pn xe) W → PassesOwn (model X.prog X.w) X.A X.env xe → PSs (X.tr pn xe) body (tb W))
    (hsu : ∀ (a : Addr) (oe : Obj) (cls : Value) (d : Option Addr) (pn : List (Addr × Obj)), Zc cls d oe → (∃ vs, oe.data = .fields vs) → PSs (X.suite a ((a, oe) :: pn)) (b₀ :: suite) (ts a cls d)) :
    PS X (.Try body [.ExceptHandler (some (.Name x np)) (some n) (b₀ :: suite) pos'] orelse [] pos) (fun D σ H =>
      tb (fun cls d σ H => PySem.W.exmOne X.K cls c = some true ∧ ∀ a, H a = none → ts a cls d (Ends.gone D i) (σ.set i (some (.ref a))) H) { D with nx := u D } σ H) := by
  refine ⟨fun pins s σ H D I h => wpAny_Try_except ?_⟩
  refine wpAny_mono ((hb _ (X.pn ++ pins) _ (fun e s' q => ?_) PassesOwn.looking).run [] s σ H _ (I.toTry _) h) (fun f s' q => ?_) (fun _ _ q => q)
  · obtain ⟨a, B, sI, pins', σ', H', cls, d, rfl, J', nb, up, sky, na, os, ag, w1, w2⟩ := q
    exact caught_as hs hf hN hi hln hc hsu J' I.ok nb up sky na os ag w1 (w2 a na)
  · cases f with
    | next =>
      obtain ⟨σ', H', J, q⟩ := q
      exact ho.run pins s' σ' H' D (J.ofTry I.ok) q
    | ret w =>
      obtain ⟨v, σ', H', J, r, q⟩ := q
      exact ⟨v, σ', H', J.ofTry I.ok, r, q⟩
    | brk => obtain ⟨σ', H', J, q⟩ := q; exact ⟨σ', H', J.ofTry I.ok, q⟩
    | cont => obtain ⟨σ', H', J, q⟩ := q; exact ⟨σ', H', J.ofTry I.ok, q⟩
end
end G

/-! G: errors over slots. -/
namespace G
open PySem PySem.Spec PyProof.Rows L2

abbrev veMro : List Value := [.type "ValueError", .type "Exception", .type "BaseException", .type "object"]
/-- an error class of one's own under ValueError, without an __init__ -/
structure ExcF (K : PySem.W.Frag) (mg : Str → Option Value) (x : Str) (C : Addr) : Prop where
  q : PySem.W.excIn K C veMro "ValueError.__new__" = true
  g : mg x = some (.ref C)
  k : PySem.W.keepIn K (.ref C) = true
  b : PySem.W.subIn K (.ref C) (.type "BaseException") = some true
  t : PySem.W.typeIn K (.ref C) = some (.type "type")
  i : PySem.W.hasDictIn K C = true
/-- an error class caught by name, and what it says of the class D -/
theorem ExcF.caught {K : PySem.W.Frag} {mg : Str → Option Value} {x : Str} {C D : Addr} {r : Bool} (F : ExcF K mg x C) (s : PySem.W.subIn K (.ref D) (.ref C) = some r) : PySem.W.exmOne K (.ref D) (.ref C) = some r := PySem.W.exm_ref F.b F.i F.t s
theorem ExcF.caught' {K : PySem.W.Frag} {mg : Str → Option Value} {x : Str} {C : Addr} {cls : Value} {r : Bool} (F : ExcF K mg x C) (s : PySem.W.subIn K cls (.ref C) = some r) : PySem.W.exmOne K cls (.ref C) = some r := PySem.W.exm_ref F.b F.i F.t s
section
variable {X : Cx} {H0 : Hp} {M : List Addr} {Γ Γ1 Γ2 : SC} {e a b c : Expr} {es : List Expr} {pos p0 : Pos} {rest body orelse suite : List Stmt} {b₀ : Stmt} {D : DD} {P : EK} {W : WX}
/-- raise X('..') -/
theorem g_raise {x m : Str} {C : Addr} {j : Nat} {p p2 pos' : Pos} (F : ExcF X.K X.mg x C) (hc : X.calm = true) (tk : Takes X W) (h : ∀ g σ H, R X.K H0 M g Γ σ H → W (.ref C) none σ H) (hg : Gl X x := by rfl) (hdb : (x == ("__debug__" : Str)) = false := by decide) :
    SG X H0 M Γ (.Raise (some (.Call (.Name x p) [.Constant (.str m) j p2] [] pos')) none pos :: rest) D := fun g σ H D' r im =>
  wS.of' (ps_raise hc tk (pmk_own PySem.F.excBase_ValueError F.q F.g F.k (raises_own F.b F.t) hg hdb)) (h g σ H r)
/-- a call that may raise -/
theorem w_callS {x : Str} {ps : List Str} {sp : Sp} {n k : Nat} {g : Gs} {σ : St} {H : Hp} {Q : VK} {Pa : AK} (r : R X.K H0 M g Γ σ H) (tk : Takes X W) (h : HasX X (L2.CX X.prog X.w) n x ps sp) (hr : Room k X.A) (hk : n ≤ k) (ha : AA X H0 M Γ (e :: es) Pa)
    (hsp : ∀ H1 vs, Same H H1 → Pa H vs H1 → sp vs H1 Q (fun cls d H' => W cls d σ H'))
    (hg : Gl X x := by rfl) (hdb : (x == ("__debug__" : Str)) = false := by decide) (he : starEach (e :: es) X.env = (false, eval e X.env) :: starEach es X.env := by exact star1 rfl) (hpl : (backTo pos (starEach es X.env)).any (·.1) = false := by rfl) : wE X (.Call (.Name x p0) (e :: es) [] pos) σ H Q := by
  obtain ⟨f, fd, F, hm, hk', hb⟩ := h.ex
  refine wE.of (pe_callS (E := WE W) F (hr.mono hk) hg hm hk' hb (fun σ => passAt tk σ) pa_w hdb he hpl) (ha g σ H _ r fun vs H1 s1 p1 => hsp H1 vs s1 p1)
theorem e_callS {x : Str} {ps : List Str} {sp : Sp} {n k : Nat} {Pa : AK} (tk : Takes X W) (h : HasX X (L2.CX X.prog X.w) n x ps sp) (hr : Room k X.A) (hk : n ≤ k) (ha : AA X H0 M Γ (e :: es) Pa)
    (hsp : ∀ g σ H H1 vs (Q : VK), R X.K H0 M g Γ σ H → Same H H1 → Pa H vs H1 → (∀ v H', Same H1 H' → P H v H' → Q v H') → sp vs H1 Q (fun cls d H' => W cls d σ H'))
    (hg : Gl X x := by rfl) (hdb : (x == ("__debug__" : Str)) = false := by decide) (he : starEach (e :: es) X.env = (false, eval e X.env) :: starEach es X.env := by exact star1 rfl) (hpl : (backTo pos (starEach es X.env)).any (·.1) = false := by rfl) : EE X H0 M Γ (.Call (.Name x p0) (e :: es) [] pos) P := fun g σ H Q r k =>
  w_callS r tk h hr hk ha (fun H1 vs s1 p1 => hsp g σ H H1 vs Q r s1 p1 fun v H' s2 p2 => k v H' (s1.trans s2) p2) hg hdb he hpl
/-- behind a suite «except .. as n» -/
abbrev goneD (X : Cx) (rest : List Stmt) (D : DD) (i : Nat) : DD := { rt := D.rt, nx := fun g σ H => ∀ D', Imp (Far g H) (D.at g) D' → wSs X rest D' (σ.set i none) H }
theorem g_gone {Y : Cx} {i : Nat} (hK : Y.K = X.K) (h : SG X H0 M (Γ.set i .no) rest D) : SG Y H0 M Γ [] (goneD X rest D i) := g_nil fun g σ H r D' im => h g _ H D' (by
  rw [hK] at r
  exact r.wipe [i]) im
/-- try: f(..) / except x as n: suite / else: orelse -/
theorem g_tryE (i : Nat) {x n f : Str} {ps : List Str} {sp : Sp} {C : Addr} {np pos' pe pf : Pos} {k m : Nat} {Pa : AK} (XP : Value → Option Addr → Prop) (hs : X.stack = X.env :: X.outer) (hf : X.env.frame = some X.env.locals) (hN : X.N.Nodup) (hl : Γ.length = X.N.length) (F : ExcF X.K X.mg x C)
    (hx : ∀ cls d, XP cls d → PySem.W.subIn X.K cls (.ref C) = some true)
    (h : HasX X (L2.CX X.prog X.w) m f ps sp) (hr : Room k X.A) (hk : m ≤ k) (ha : ∀ pn xe, AA (X.tr pn xe) H0 M Γ (e :: es) Pa)
    (hsp : ∀ g σ H H1 vs (Q : VK) (E : XK), R X.K H0 M g Γ σ H → Same H H1 → Pa H vs H1 → (∀ v H', Same H1 H' → P H v H' → Q v H') → (∀ cls d H', XP cls d → Same H1 H' → E cls d H') → sp vs H1 Q E)
    (ho : (∃ H v H', P H v H') → SG X H0 M Γ orelse { D with nx := fun g σ H => ∀ D', Imp (Far g H) (D.at g) D' → wSs X rest D' σ H })
    (hsu : ∀ (u : Addr) (oe : Obj) (cls : Value) (d : Option Addr) (pn : List (Addr × Obj)), XP cls d → Zc cls d oe → (∃ vs, oe.data = .fields vs) → SG (X.suite u ((u, oe) :: pn)) H0 M (Γ.set i (.va (.ref u))) (b₀ :: suite) (goneD X rest D i))
    (hi : X.N[i]? = some n := by rfl) (hln : X.env.kindOf n = some .local := by rfl) (hgx : Gl X x := by rfl) (hdx : (x == ("__debug__" : Str)) = false := by decide)
    (hg : Gl X f := by rfl) (hdb : (f == ("__debug__" : Str)) = false := by decide) (he : starEach (e :: es) X.env = (false, eval e X.env) :: starEach es X.env := by exact star1 rfl) (hpl : (backTo pos (starEach es X.env)).any (·.1) = false := by rfl)
    (hsw : swapsWith (.Call (.Name f pf) (e :: es) [] pos) none pe.line X.env = pure false := by rfl) :
    SG X H0 M Γ (.Try [.Expr (.Call (.Name f pf) (e :: es) [] pos) pe] [.ExceptHandler (some (.Name x np)) (some n) (b₀ :: suite) pos'] orelse [] p0 :: rest) D := fun g σ H D' r im => by
  refine wS.of' (ps_try_asE (tb := fun W => tDrop (tCallS sp (WE W) (fun σ H Q => ∀ pn xe, wA (X.tr pn xe) (e :: es) σ H Q))) (ts := fun u cls d D σ H => ∀ oe pn, Zc cls d oe → (∃ vs, oe.data = .fields vs) → wSs (X.suite u ((u, oe) :: pn)) (b₀ :: suite) D σ H) pss_w hs hf hN hi hln ⟨hgx, hdx, .inl F.g⟩ (fun W pn xe tk hp => ?_)
    (fun u oe cls d pn z q => ⟨fun pins s σ H D I w => (w oe pn z q).go pins s I⟩)) ?_
  · obtain ⟨fa, fd, G, hm, hk', hb⟩ := h.ex
    exact pss_one (ps_expr (pe_callS (X := X.tr pn xe) G (hr.mono hk) hg hm hk' hb (fun σ => passAt tk σ) ⟨fun pos pins s σ H Q I w => (w pn xe).go pos pins s I⟩ hdb he hpl) hsw)
  · intro pn xe
    refine ha pn xe g σ H _ r fun vs H1 s1 p1 => ?_
    refine hsp g σ H H1 vs _ _ r s1 p1 (fun v H' s2 p2 => ?_) (fun cls d H' xp s2 => ?_)
    · have s3 := s1.trans s2
      have im3 := im.go (Same.gw s3)
      exact ho ⟨_, _, _, p2⟩ g σ H' _ (r.same s3) ⟨fun σ4 H4 f4 q4 => q4 D' (im3.go f4.1), im3.rt, im3.bk, im3.ct⟩
    · have s3 := s1.trans s2
      have im3 := im.go (Same.gw s3)
      refine ⟨F.caught' (hx cls d xp), fun u hu oe pn z q => ?_⟩
      exact hsu u oe cls d pn xp z q g _ H' _ ((r.same s3).setVa (i := i) (v := .ref u) (Same.refl _) (by rw [hl]; exact (List.getElem?_eq_some_iff.mp hi).1))
        ⟨fun σ4 H4 f4 q4 => q4 D' (im3.go f4.1), im3.rt, fun _ _ _ q => q.elim, fun _ _ _ q => q.elim⟩
/-- isinstance(the caught error, X) -/
theorem i_isE {Y : Cx} {u C D : Addr} {i : Nat} {x n : Str} {px : Pos} {oe : Obj} {pn : List (Addr × Obj)} {k : Bool} (hY : Y = X.suite u ((u, oe) :: pn)) (E : ExcC X.K C) (hz : Zc (.ref C) none oe) (hf : ∃ vs, oe.data = .fields vs) (hm : Y.mg "isinstance" = none) (hx : Y.mg x = some (.ref D)) (hk : PySem.W.kitOne X.K (.ref C) (.ref D) = some k) (hv : Γ.getD i .no = .va (.ref u))
    (hN : Y.N[i]? = some n := by rfl) (hvi : Vis Y.env.scope n := by first | exact Or.inl rfl | exact Or.inr (Or.inl rfl) | exact Or.inr (Or.inr rfl)) (hd : (n == ("__debug__" : Str)) = false := by decide) (hcd : (n == ("__classdict__" : Str)) = false := by decide)
    (hg : Gl Y "isinstance" := by rfl) (hgx : Gl Y x := by rfl) (hdx : (x == ("__debug__" : Str)) = false := by decide)
    (h1 : starEach [.Name n px, .Name x p0] Y.env = (false, eval (.Name n px) Y.env) :: starEach [.Name x p0] Y.env := by rfl) (h2 : starEach [.Name x p0] Y.env = (false, eval (.Name x p0) Y.env) :: starEach [] Y.env := by rfl) (hpl : (backTo pos (starEach [.Name x p0] Y.env)).any (·.1) = false := by rfl) {p1 : Pos} :
    EI Y H0 M Γ (.Call (.Name "isinstance" p1) [.Name n px, .Name x p0] [] pos) (.bool k) := fun g σ H Q R q => by
  subst hY
  refine wE.of (pe_callB (call_isE E hz hf) hg hm (by decide +kernel) (pa_cons (pe_var hN hvi hd hcd) (pa_cons (pe_glob (v := .ref D) hgx hx rfl hdx) pa_nil h2) h1) (by decide) (by decide) h1 hpl) ⟨_, R.va hv, ?_⟩
  exact ⟨.ref D, .ref D, k, rfl, fun u r => r, hk, q _ H (Same.refl H) (.bl k)⟩
/-! ### defs that may raise -/
variable {Pr : Program} {w : World} {K : PySem.W.Frag} {mg : Str → Option Value} {base : Heap} {x qual : Str} {st : Stmt} {f : Addr} {fd : FuncData} {N ps : List Str} {k : Nat} {sp : Sp}
abbrev CxX (P : Program) (w : World) (K : PySem.W.Frag) (mg : Str → Option Value) (base : Heap) (N : List Str) (qual : Str) (st : Stmt) (f : Addr) (cdv : Value) (A : Around) (outer : List Env) (s : Shared) (H : Hp) (E : XK) : Cx :=
  cxOf (L2.CX P w) P w K mg base N qual (defScope st) f cdv A outer s H E
theorem mk_fnX (F : Fun K x qual st f fd) (S : FnScope N ps (defScope st)) (len : ∀ vs H Q E, sp vs H Q E → vs.length = ps.length)
    (body : ∀ cdv A outer s H vs Q E, Room k (A.deeper (envOfC qual (defScope st) s.heap.objs.size f cdv)) → sp vs H Q E →
      ∃ M Γ, R K H M [] Γ (L2.start N vs) H ∧ SG (CxX Pr w K mg base N qual st f cdv A outer s H E) H M Γ (defBody st) { rt := Q, nx := fun _ _ H' => Q .non H' }) : FnOk Pr w K mg base (L2.CX Pr w) (k + 1) f fd ps sp :=
  F.okX S len fun cdv A outer s H vs Q E hr h => ⟨wSs _ _, pss_w, by
    obtain ⟨M, Γ, r, sg⟩ := body cdv A outer s H vs Q E hr h
    exact sg [] _ H _ r ⟨fun _ _ _ q => q, fun _ _ _ q => q, fun _ _ _ q => q, fun _ _ _ q => q⟩⟩
end
end G

namespace G
open PySem PySem.Spec PyProof.Rows L2
section
variable {X : Cx} {H0 : Hp} {M : List Addr} {Γ Γ1 Γ2 : SC} {e a b c : Expr} {es : List Expr} {pos p0 : Pos} {rest body orelse suite : List Stmt} {D : DD} {P : EK}
/-- slots that can't be -/
abbrev bad : SD := .im (.list [])
theorem g_bad (i : Nat) {sts : List Stmt} (h : Γ.getD i .no = bad) : SG X H0 M Γ sts D := fun g σ H D' r im => by
  obtain ⟨v, _, m⟩ := r.im h
  cases m
/-- e alone; what it tells without the heap -/
theorem g_exprP {φ : Prop} (he : EE X H0 M Γ e (fun _ _ _ => φ)) (hr : φ → SG X H0 M Γ rest D) (hs : swapsWith e none pos.line X.env = pure false := by rfl) : SG X H0 M Γ (.Expr e pos :: rest) D := fun g σ H D' r im =>
  wS.of' (ps_expr pe_w hs) (he g σ H _ r fun v H' s p => hr p g σ H' D' (r.same s) (im.go (Same.gw s)))
theorem i_one {op : BoolOp} {d : PyData} (h : EI X H0 M Γ a d) : EI X H0 M Γ (.BoolOp op [a] pos) d := fun g σ H Q r k => wE.of (pe_one pe_w) (h g σ H Q r k)
theorem i_and {x y : Bool} {es : List Expr} (h : EI X H0 M Γ a (.bool x)) (k : x = true → EI X H0 M Γ (.BoolOp .And (b :: es) pos) (.bool y)) : EI X H0 M Γ (.BoolOp .And (a :: b :: es) pos) (.bool (x && y)) := fun g σ H Q r q =>
  wE.of (pe_and pe_w pe_w) (h g σ H _ r fun v H1 s1 m1 => ⟨x, m1.bl_inv, by
    cases x with
    | true => rw [if_pos rfl]; exact k rfl g σ H1 Q (r.same s1) fun v H2 s2 m2 => q v H2 (s1.trans s2) m2
    | false => rw [if_neg (by decide)]; exact q _ H1 s1 (.bl _)⟩)
theorem i_or {x y : Bool} {es : List Expr} (h : EI X H0 M Γ a (.bool x)) (k : x = false → EI X H0 M Γ (.BoolOp .Or (b :: es) pos) (.bool y)) : EI X H0 M Γ (.BoolOp .Or (a :: b :: es) pos) (.bool (x || y)) := fun g σ H Q r q =>
  wE.of (pe_or pe_w pe_w) (h g σ H _ r fun v H1 s1 m1 => ⟨x, m1.bl_inv, by
    cases x with
    | false => rw [if_neg (by decide)]; exact k rfl g σ H1 Q (r.same s1) fun v H2 s2 m2 => q v H2 (s1.trans s2) m2
    | true => rw [if_pos rfl]; exact q _ H1 s1 (.bl _)⟩)
theorem i_not {x : Bool} (h : EI X H0 M Γ a (.bool x)) : EI X H0 M Γ (.UnaryOp .Not a pos) (.bool (!x)) := fun g σ H Q r q => wE.of (pe_not pe_w) (h g σ H _ r fun v H1 s1 m1 => ⟨x, m1.bl_inv, q _ H1 s1 (.bl _)⟩)
theorem i_ifE {x : Bool} {d : PyData} (h : ET X H0 M Γ c x) (h1 : x = true → EI X H0 M Γ a d) (h2 : x = false → EI X H0 M Γ b d) : EI X H0 M Γ (.IfExp c a b pos) d := fun g σ H Q r q =>
  wE.of (pe_ifExp pt_w pe_w pe_w) (h g σ H _ r fun H1 s1 => by
    cases x with
    | true => rw [if_pos rfl]; exact h1 rfl g σ H1 Q (r.same s1) fun v H2 s2 m2 => q v H2 (s1.trans s2) m2
    | false => rw [if_neg (by decide)]; exact h2 rfl g σ H1 Q (r.same s1) fun v H2 s2 m2 => q v H2 (s1.trans s2) m2)
/-- eqv of data that cannot change, both ways the same -/
theorem EI.plain {d : PyData} (h : d.plain = true) : PyData.eqv d d = true := SeqAt.eqv_refl_plain d h
end
end G

/-! G: loops whose slots are told by a property; lists handed over; a new beginning; the drawing state made. -/
namespace G
open PySem PySem.Spec PyProof.Rows L2
/-! ### loops -/
def loopP (X : Cx) (H0 : Hp) (M : List Addr) (S : SC → Prop) (B : SC → Prop) (D : DD) : DD :=
  { rt := D.rt, nx := fun g σ H => ∃ Γ', S Γ' ∧ R X.K H0 M g Γ' σ H, ct := fun g σ H => ∃ Γ', S Γ' ∧ R X.K H0 M g Γ' σ H, bk := fun g σ H => ∃ Γ', B Γ' ∧ R X.K H0 M g Γ' σ H }
section
variable {X : Cx} {H0 : Hp} {M : List Addr} {Γ Γ0 Γ1 Γ2 : SC} {e a b c iter : Expr} {es : List Expr} {pos p0 : Pos} {rest body : List Stmt} {D : DD} {B : SC → Prop}
def PvP (X : Cx) (H0 : Hp) (M : List Addr) (g : Gs) (S : Nat → SC → Prop) (H1 : Hp) (i : Nat) (σ : St) (H : Hp) : Prop := (∃ Γ', S i Γ' ∧ R X.K H0 M g Γ' σ H) ∧ Gw H1 H
theorem g_loopP {S : SC → Prop} {Γ' : SC} (s : Sub Γ Γ') (h : S Γ') : SG X H0 M Γ [] (loopP X H0 M S B D) := g_nil fun g σ H r => ⟨Γ', h, r.sub s⟩
theorem body_okP {S : Nat → SC → Prop} {Γb : SC} {i : Nat} {g : Gs} {σ : St} {H H1 : Hp} {rt : VK} {bk : St → Hp → Prop} (hb : SG X H0 M Γb body (loopP X H0 M (S (i + 1)) B D)) (r : R X.K H0 M g Γb σ H) (s : Gw H1 H)
    (hrt : ∀ v H, Gw H1 H → Kept g H → D.rt v H → rt v H) (hbk : ∀ Γ' σ H, B Γ' → R X.K H0 M g Γ' σ H → Gw H1 H → bk σ H) :
    wSs X body { nx := PvP X H0 M g S H1 (i + 1), rt := rt, ct := PvP X H0 M g S H1 (i + 1), bk := bk } σ H :=
  hb g σ H _ r ⟨fun σ' H' f q => ⟨q, s.trans f.1⟩, fun v H' f q => hrt v H' (s.trans f.1) f.2 q, fun σ' H' f ⟨Γ', b, q⟩ => hbk Γ' σ' H' b q (s.trans f.1), fun σ' H' f q => ⟨q, s.trans f.1⟩⟩
theorem g_forTP (t : Nat) {x : Str} {px : Pos} {ds : List PyData} (S : Nat → SC → Prop) (B : SC → Prop) (hN : X.N.Nodup) (hl : ∀ i Γ, S i Γ → Γ.length = X.N.length) (hp : PassesOwn (model X.prog X.w) X.A X.env X.xe) (hc : X.calm = true) (he : EI X H0 M Γ iter (.tuple ds)) (s0 : Sub Γ Γ0) (h0 : S 0 Γ0)
    (hb : ∀ i d Γ, ds[i]? = some d → S i Γ → SG X H0 M (Γ.set t (.im d)) body (loopP X H0 M (S (i + 1)) B D)) (hr : ∀ Γ, S ds.length Γ → SG X H0 M Γ rest D) (hbk : ∀ Γ', B Γ' → SG X H0 M Γ' rest D)
    (hi : X.N[t]? = some x := by rfl) (hx : Loc X.env.scope x := by first | exact Or.inl rfl | exact Or.inr rfl) (hf : X.fn x = true ∨ X.env.scope.names.lookup x = some .local := by first | exact .inl rfl | exact .inr rfl | assumption)
    (hs : ∀ x, foldedSetIterable iter X.env x = pure x := by intro _; rfl) : SG X H0 M Γ (.For (.Name x px) iter body [] pos :: rest) D := fun g σ H D' r im => by
  refine wS.of' (ps_for hp hc (pi_tup pe_w) (pg_name hN hi hx hf) pss_w hs) (he g σ H _ r fun v H1 s m => ?_)
  obtain ⟨a, xs, rfl, hq, hxs⟩ := m.tup_inv
  refine ⟨a, rfl, ⟨xs, hq⟩, ?_⟩
  have im1 := im.go (Same.gw s)
  have ht : t < X.N.length := (List.getElem?_eq_some_iff.mp hi).1
  refine for_it walk_tup (PvP X H0 M g S H1) ⟨⟨Γ0, h0, (r.same s).sub s0⟩, Gw.refl H1⟩ (fun i σ H hi p => p.2.sqt hq) (fun i v σ2 H2 H' hi p y => ?_) (fun σ2 H2 p => ?_)
  · obtain ⟨rfl, y⟩ := y
    obtain ⟨d, hd, md⟩ := hxs.get' y
    obtain ⟨⟨Γ', s', r'⟩, gw⟩ := p
    show wSs X body _ _ _
    refine body_okP (S := S) (i := i) (hb i d Γ' hd s') (r'.setIm (Same.refl _) (by rw [hl i Γ' s']; exact ht) (md.gw gw d v)) gw (fun v H3 s3 k3 q => im1.rt v H3 ⟨s3, k3⟩ q) (fun Γ' σ3 H3 b r3 s3 => hbk Γ' b g σ3 H3 D' r3 (im1.go s3))
  · have e : xs.length = ds.length := hxs.len
    rw [e] at p
    obtain ⟨⟨Γ', s', r'⟩, gw⟩ := p
    exact hr Γ' s' g σ2 H2 D' r' (im1.go gw)
theorem g_forR1P (t : Nat) {x : Str} {px pr : Pos} {n : Int} {ea : Expr} (S : Nat → SC → Prop) (B : SC → Prop) (hN : X.N.Nodup) (hl : ∀ i Γ, S i Γ → Γ.length = X.N.length) (hp : PassesOwn (model X.prog X.w) X.A X.env X.xe) (hc : X.calm = true) (hm : X.mg "range" = none) (he : EI X H0 M Γ ea (.int n)) (hn0 : -(2 ^ 62) ≤ n) (hn1 : n < 2 ^ 62) (s0 : Sub Γ Γ0) (h0 : S 0 Γ0)
    (hb : ∀ (i : Nat) Γ, i < n.toNat → S i Γ → SG X H0 M (Γ.set t (.im (.int (i : Nat)))) body (loopP X H0 M (S (i + 1)) B D)) (hr : ∀ Γ, S n.toNat Γ → SG X H0 M Γ rest D) (hbk : ∀ Γ', B Γ' → SG X H0 M Γ' rest D)
    (hg : Gl X "range" := by rfl) (hi : X.N[t]? = some x := by rfl) (hx : Loc X.env.scope x := by first | exact Or.inl rfl | exact Or.inr rfl) (hf : X.fn x = true ∨ X.env.scope.names.lookup x = some .local := by first | exact .inl rfl | exact .inr rfl | assumption)
    (hs1 : starEach [ea] X.env = [(false, eval ea X.env)] := by rfl) (hs : ∀ x, foldedSetIterable (.Call (.Name "range" pr) [ea] [] p0) X.env x = pure x := by intro _; rfl) : SG X H0 M Γ (.For (.Name x px) (.Call (.Name "range" pr) [ea] [] p0) body [] pos :: rest) D := fun g σ H D' r im => by
  refine wS.of' (ps_for hp hc (pi_range1 hg hm (pa_cons pe_w pa_nil hs1) hs1) (pg_name hN hi hx hf) pss_w hs) (he g σ H _ r fun v H1 s m => ?_)
  refine ⟨n, by rw [m.int_inv], hn0, hn1, ?_⟩
  have im1 := im.go (Same.gw s)
  have ht : t < X.N.length := (List.getElem?_eq_some_iff.mp hi).1
  refine for_it walk_range (PvP X H0 M g S H1) ⟨⟨Γ0, h0, (r.same s).sub s0⟩, Gw.refl H1⟩ (fun i σ H hi p => trivial) (fun i v σ2 H2 H' hi p y => ?_) (fun σ2 H2 p => ?_)
  · obtain ⟨rfl, y⟩ := y
    obtain ⟨⟨Γ', s', r'⟩, gw⟩ := p
    have ev : v = V.int ((i : Nat) : Int) := by rw [y]; exact congrArg V.int (by omega)
    subst ev
    show wSs X body _ _ _
    exact body_okP (S := S) (i := i) (hb i Γ' hi s') (r'.setIm (Same.refl _) (by rw [hl i Γ' s']; exact ht) (.int _)) gw (fun v H3 s3 k3 q => im1.rt v H3 ⟨s3, k3⟩ q) (fun Γ' σ3 H3 b r3 s3 => hbk Γ' b g σ3 H3 D' r3 (im1.go s3))
  · obtain ⟨⟨Γ', s', r'⟩, gw⟩ := p
    exact hr Γ' s' g σ2 H2 D' r' (im1.go gw)
theorem g_forR2P (t : Nat) {x : Str} {px pr : Pos} {lo n : Int} {ea eb : Expr} (S : Nat → SC → Prop) (B : SC → Prop) (hN : X.N.Nodup) (hl : ∀ i Γ, S i Γ → Γ.length = X.N.length) (hp : PassesOwn (model X.prog X.w) X.A X.env X.xe) (hc : X.calm = true) (hm : X.mg "range" = none) (ha : EI X H0 M Γ ea (.int lo)) (he : EI X H0 M Γ eb (.int n)) (hn : -(2 ^ 62) ≤ lo ∧ lo < 2 ^ 62 ∧ -(2 ^ 62) ≤ n ∧ n < 2 ^ 62) (s0 : Sub Γ Γ0) (h0 : S 0 Γ0)
    (hb : ∀ (i : Nat) Γ, i < (n - lo).toNat → S i Γ → SG X H0 M (Γ.set t (.im (.int (lo + (i : Nat))))) body (loopP X H0 M (S (i + 1)) B D)) (hr : ∀ Γ, S (n - lo).toNat Γ → SG X H0 M Γ rest D) (hbk : ∀ Γ', B Γ' → SG X H0 M Γ' rest D)
    (hg : Gl X "range" := by rfl) (hi : X.N[t]? = some x := by rfl) (hx : Loc X.env.scope x := by first | exact Or.inl rfl | exact Or.inr rfl) (hf : X.fn x = true ∨ X.env.scope.names.lookup x = some .local := by first | exact .inl rfl | exact .inr rfl | assumption)
    (hs1 : starEach [ea, eb] X.env = [(false, eval ea X.env), (false, eval eb X.env)] := by rfl) (hs2 : starEach [eb] X.env = [(false, eval eb X.env)] := by rfl) (hs : ∀ x, foldedSetIterable (.Call (.Name "range" pr) [ea, eb] [] p0) X.env x = pure x := by intro _; rfl) : SG X H0 M Γ (.For (.Name x px) (.Call (.Name "range" pr) [ea, eb] [] p0) body [] pos :: rest) D := fun g σ H D' r im => by
  refine wS.of' (ps_for hp hc (pi_range2 hg hm (pa_cons pe_w (pa_cons pe_w pa_nil hs2) (by rw [hs1, hs2])) hs1 hs2) (pg_name hN hi hx hf) pss_w hs) (ha g σ H _ r fun v0 H0' s0 m0 => he g σ H0' _ (r.same s0) fun v H1 s m => ?_)
  refine ⟨lo, n, by rw [m.int_inv, m0.int_inv], hn, ?_⟩
  have im1 := im.go ((Same.gw s0).trans (Same.gw s))
  have ht : t < X.N.length := (List.getElem?_eq_some_iff.mp hi).1
  refine for_it walk_range (PvP X H0 M g S H1) ⟨⟨Γ0, h0, ((r.same s0).same s).sub ‹Sub Γ Γ0›⟩, Gw.refl H1⟩ (fun i σ H hi p => trivial) (fun i v σ2 H2 H' hi p y => ?_) (fun σ2 H2 p => ?_)
  · obtain ⟨rfl, y⟩ := y
    obtain ⟨⟨Γ', s', r'⟩, gw⟩ := p
    subst y
    show wSs X body _ _ _
    exact body_okP (S := S) (i := i) (hb i Γ' hi s') (r'.setIm (Same.refl _) (by rw [hl i Γ' s']; exact ht) (.int _)) gw (fun v H3 s3 k3 q => im1.rt v H3 ⟨s3, k3⟩ q) (fun Γ' σ3 H3 b r3 s3 => hbk Γ' b g σ3 H3 D' r3 (im1.go s3))
  · obtain ⟨⟨Γ', s', r'⟩, gw⟩ := p
    exact hr Γ' s' g σ2 H2 D' r' (im1.go gw)
/-! ### lists handed over, only read -/
abbrev kQ (K : PySem.W.Frag) (ds : List PyData) : EK := fun _ v H' => ∃ p vs, v = .ref p ∧ SqL K H' p vs ∧ ImAll K H' vs ds
theorem kO.q {ds : List PyData} (h : EE X H0 M Γ e (kO X.K ds)) : EE X H0 M Γ e (kQ X.K ds) := h.mono fun H v H' s ⟨p, vs, e, q, m⟩ => ⟨p, vs, e, SqL.of q, m⟩
theorem q_var (i : Nat) {x : Str} {p : Addr} {ds : List PyData} (h : Γ.getD i .no = .pl p ds) (hN : X.N[i]? = some x := by rfl) (hv : Vis X.env.scope x := by first | exact Or.inl rfl | exact Or.inr (Or.inl rfl) | exact Or.inr (Or.inr rfl)) (hd : (x == ("__debug__" : Str)) = false := by decide)
    (hcd : (x == ("__classdict__" : Str)) = false := by decide) : EE X H0 M Γ (.Name x pos) (kQ X.K ds) := fun g σ H Q r k => by
  obtain ⟨e, vs, q, m⟩ := r.pl h
  exact wE.of (pe_var hN hv hd hcd) ⟨_, e, k _ H (Same.refl H) ⟨p, vs, rfl, q, m⟩⟩
theorem i_ixQ {d : PyData} {ds : List PyData} {i : Int} (hi : atI ds i = some d) (ha : EE X H0 M Γ a (kQ X.K ds)) (hb : EI X H0 M Γ b (.int i)) (hs : PlainIx b := by exact fun _ _ => rfl) : EI X H0 M Γ (.Subscript a b pos) d := fun g σ H Q R k =>
  wE.of (pe_ix ix_list pe_w pe_w hs) (ha g σ H _ R fun x H1 s1 p1 => hb g σ H1 _ (R.same s1) fun y H2 s2 p2 => by
    obtain ⟨q, xs, rfl, hq, hx⟩ := p1
    obtain ⟨v, h1, h2⟩ := atI_im (hx.same s2) hi
    exact ⟨q, xs, i, v, rfl, p2.int_inv, (But.of (M := []) s2).seq hq (fun z => nomatch z), h1, k _ _ (s1.trans s2) h2⟩)
theorem i_lenQ {ds : List PyData} (hm : X.mg "len" = none) (he : EE X H0 M Γ e (kQ X.K ds)) (hg : Gl X "len" := by rfl) (h1 : starEach (e :: []) X.env = (false, eval e X.env) :: starEach [] X.env := by exact star1 rfl) (hpl : (backTo pos (starEach [] X.env)).any (·.1) = false := by rfl) :
    EI X H0 M Γ (.Call (.Name "len" p0) [e] [] pos) (.int ds.length) :=
  e_callB (id := "len") call_len_seq hm PySem.boot_len (a_consA he a_nilA h1) (fun H H1 vs Q s1 p k' => by
    obtain ⟨v, r, H2, rfl, s2, s3, ⟨q, xs, rfl, hq, hxs⟩, rfl⟩ := p
    refine ⟨q, xs, rfl, .inl ((But.of (M := []) s3).seq hq (fun z => nomatch z)), k' _ _ (Same.refl _) ?_⟩
    rw [hxs.len]; exact .int _) hg (by decide) (by decide) h1 hpl
/-! ### from here on, with this heap as the beginning -/
def SD.fix : SD → SD
  | .im d => .im d
  | .va v => .va v
  | .pl p ds => .pl p ds
  | .st a _ _ => .va (.ref a)
  | _ => .no
theorem R.fix {K : PySem.W.Frag} {H : Hp} {g : Gs} {σ : St} (r : R K H0 M g Γ σ H) : R K H [] [] (Γ.map SD.fix) σ H := by
  obtain ⟨own, h1, _, _⟩ := r.slots
  refine ⟨But.refl _ _, by rw [r.len, List.length_map], fun _ => [], fun i => ?_, fun _ _ _ p hp => (nomatch hp), fun _ z => (nomatch z)⟩
  have h := h1 i
  have e : (Γ.map SD.fix).getD i .no = (Γ.getD i .no).fix := by
    rw [List.getD_eq_getElem?_getD, List.getD_eq_getElem?_getD, List.getElem?_map]
    cases Γ[i]? <;> rfl
  rw [e]
  cases q : Γ.getD i .no with
  | no => rfl
  | im d => rw [q] at h; exact ⟨rfl, h.2⟩
  | va v => rw [q] at h; exact ⟨rfl, h.2⟩
  | ls ds => rfl
  | rl p ds => rfl
  | pl p ds =>
    rw [q] at h
    obtain ⟨_, e1, n, vs, s, m⟩ := h
    exact ⟨rfl, e1, (fun z => nomatch z), vs, r.but.seq s n, m⟩
  | dk kvs => rfl
  | st a r' b => rw [q] at h; exact ⟨rfl, h.2.1⟩
theorem w_fix {g : Gs} {σ : St} {H : Hp} {sts : List Stmt} {D' : Ends} (r : R X.K H0 M g Γ σ H) (h : SG X H [] (Γ.map SD.fix) sts { rt := D'.rt, nx := fun _ => D'.nx, bk := fun _ => D'.bk, ct := fun _ => D'.ct }) : wSs X sts D' σ H :=
  h [] σ H D' r.fix ⟨fun _ _ _ q => q, fun _ _ _ q => q, fun _ _ _ q => q, fun _ _ _ q => q⟩
/-- an item of a list that was there at the beginning -/
theorem i_ixB (j : Nat) {x : Str} {px : Pos} {p : Addr} {xs : List V} {i : Int} {v : V} {d : PyData} (h : Γ.getD j .no = .va (.ref p)) (h0 : H0 p = some (.lst xs)) (hi : atI xs i = some v) (hd0 : Im X.K H0 v d) (hb : EI X H0 [] Γ b (.int i)) (hs : PlainIx b := by exact fun _ _ => rfl)
    (hN : X.N[j]? = some x := by rfl) (hv : Vis X.env.scope x := by first | exact Or.inl rfl | exact Or.inr (Or.inl rfl) | exact Or.inr (Or.inr rfl)) (hd : (x == ("__debug__" : Str)) = false := by decide)
    (hcd : (x == ("__classdict__" : Str)) = false := by decide) : EI X H0 [] Γ (.Subscript (.Name x px) b pos) d := fun g σ H Q r k =>
  wE.of (pe_ix ix_list (pe_var hN hv hd hcd) pe_w hs) ⟨_, r.va h, hb g σ H _ r fun y H2 s2 p2 => ⟨p, xs, i, v, rfl, p2.int_inv, SqL.of (s2 _ _ (r.but.nil _ _ h0)), hi, k _ _ s2 (hd0.same (r.but.nil.trans s2))⟩⟩
theorem o_ixB (j : Nat) {x : Str} {px : Pos} {p q : Addr} {xs ys : List V} {i : Int} {ds : List PyData} (h : Γ.getD j .no = .va (.ref p)) (h0 : H0 p = some (.lst xs)) (hi : atI xs i = some (.ref q)) (hq : H0 q = some (.lst ys)) (hd0 : ImAll X.K H0 ys ds) (hb : EI X H0 [] Γ b (.int i)) (hs : PlainIx b := by exact fun _ _ => rfl)
    (hN : X.N[j]? = some x := by rfl) (hv : Vis X.env.scope x := by first | exact Or.inl rfl | exact Or.inr (Or.inl rfl) | exact Or.inr (Or.inr rfl)) (hd : (x == ("__debug__" : Str)) = false := by decide)
    (hcd : (x == ("__classdict__" : Str)) = false := by decide) : EE X H0 [] Γ (.Subscript (.Name x px) b pos) (kO X.K ds) := fun g σ H Q r k =>
  wE.of (pe_ix ix_list (pe_var hN hv hd hcd) pe_w hs) ⟨_, r.va h, hb g σ H _ r fun y H2 s2 p2 => ⟨p, xs, i, _, rfl, p2.int_inv, SqL.of (s2 _ _ (r.but.nil _ _ h0)), hi, k _ _ s2 ⟨q, ys, rfl, s2 _ _ (r.but.nil _ _ hq), hd0.same (r.but.nil.trans s2)⟩⟩⟩
/-! ### the drawing state is made -/
abbrev kSt : EK := fun H v H' => ∃ a r, v = .ref a ∧ H a = none ∧ H r = none ∧ StAt H' a r 0
theorem R.setSt {K : PySem.W.Frag} {g : Gs} {σ : St} {H H' : Hp} {i : Nat} {a q : Addr} {n : Nat} (r : R K H0 M g Γ σ H) (e : Same H H') (hi : i < Γ.length) (hn : H a = none) (hq : H q = none) (h0 : H0 a = none) (s : StAt H' a q n) :
    R K H0 M g (Γ.set i (.st a q n)) (σ.set i (some (.ref a))) H' :=
  r.put e hi (p := [a, q]) ⟨rfl, rfl, s, .inl h0⟩ fun z hz => by
    rcases List.mem_cons.mp hz with h | h
    · subst h; exact hn
    · have : z = q := by simpa using h
      subst this; exact hq
theorem g_setSt (i : Nat) {x : Str} {px : Pos} (hM : MOk X H0 M Γ) (hN : X.N.Nodup) (hl : Γ.length = X.N.length) (he : EE X H0 M Γ e kSt) (hr : ∀ a q, SG X H0 M (Γ.set i (.st a q 0)) rest D) (hi : X.N[i]? = some x := by rfl) (hx : Loc X.env.scope x := by first | exact Or.inl rfl | exact Or.inr rfl)
    (hs : swapsWith e (some (.Name x px)) pos.line X.env = pure false := by rfl) (hf : X.fn x = true ∨ X.env.scope.names.lookup x = some .local := by first | exact .inl rfl | exact .inr rfl | assumption) : SG X H0 M Γ (.Assign [.Name x px] e pos :: rest) D := fun g σ H D' r im =>
  wS.of' (ps_set hN hi hx pe_w hs hf) (he g σ H _ r fun v H' s ⟨a, q, ev, hn, hq, z⟩ => by
    subst ev
    exact hr a q g _ _ D' (r.setSt s (by rw [hl]; exact (List.getElem?_eq_some_iff.mp hi).1) hn hq (r.fresh (hM g σ H r) hn) z) (im.go (Same.gw s)))
/-- return [row, 0, seed] -/
theorem g_retSt (i : Nat) {x : Str} {px : Pos} {e1 e2 : Expr} {row : List Int} {n sd : Int} (h : Γ.getD i .no = .ls (row.map .int)) (h1 : EI X H0 M Γ e1 (.int n)) (h2 : EI X H0 M Γ e2 (.int sd)) (hM : MOk X H0 M Γ) (n0 : n = 0) (k : ∀ H a r, But M H0 H → H0 a = none → H0 r = none → StAt H a r 0 → D.rt (.ref a) H)
    (hN : X.N[i]? = some x := by rfl) (hv : Vis X.env.scope x := by first | exact Or.inl rfl | exact Or.inr (Or.inl rfl) | exact Or.inr (Or.inr rfl)) (hd : (x == ("__debug__" : Str)) = false := by decide)
    (hcd : (x == ("__classdict__" : Str)) = false := by decide)
    (hs1 : starEach (.Name x px :: [e1, e2]) X.env = (false, eval (.Name x px) X.env) :: starEach [e1, e2] X.env := by exact star1 rfl) (hs2 : starEach (e1 :: [e2]) X.env = (false, eval e1 X.env) :: starEach [e2] X.env := by exact star1 rfl) (hs3 : starEach (e2 :: []) X.env = (false, eval e2 X.env) :: starEach [] X.env := by exact star1 rfl) :
    SG X H0 M Γ (.Return (some (.List [.Name x px, e1, e2] p0)) pos :: rest) D := fun g σ H D' r im => by
  obtain ⟨p, vs, ex, hp, m, hp0⟩ := r.ls h
  refine wS.of' (ps_ret (pe_lst (pa_cons (pe_var hN hv hd hcd) (pa_cons pe_w (pa_cons pe_w pa_nil hs3) hs2) hs1))) ⟨_, ex, h1 g σ H _ r fun v1 H1 s1 m1 => h2 g σ H1 _ (r.same s1) fun v2 H2 s2 m2 => ?_⟩
  refine ⟨by show 3 ≤ sizeLine; decide, fun a ha => ?_⟩
  have r2 := (r.same s1).same s2
  have hp2 : H2 p = some (.lst vs) := s2 _ _ (s1 _ _ hp)
  have ne : a ≠ p := fun z => by rw [z, hp2] at ha; cases ha
  have s3 := same_new (o := HO.lst [.ref p, v1, v2]) ha
  have r3 := r2.same s3
  refine im.rt _ _ ⟨((Same.gw s1).trans (Same.gw s2)).trans (Same.gw s3), r3.kept⟩ (k _ a p r3.but (r2.fresh (hM g σ H2 r2) ha) hp0 ⟨ne, row, n, sd, ?_, ?_, by omega, by omega⟩)
  · rw [m1.int_inv, m2.int_inv]; exact upd_same
  · rw [s3 _ _ hp2]
    have e : vs = row.map V.int := by
      have key : ∀ {us : List V} {row : List Int}, ImAll X.K H us (row.map PyData.int) → us = row.map V.int := by
        intro us row
        induction row generalizing us with
        | nil => intro h; cases h; rfl
        | cons c row ih =>
          intro h
          cases h with
          | cons x y => rw [x.int_inv, ih y]; rfl
      exact key m
    rw [e]
end
end G

namespace G
open PySem PySem.Spec PyProof.Rows L2
section
variable {X : Cx} {H0 : Hp} {M : List Addr} {Γ Γ1 Γ2 : SC} {a b : Expr} {pos : Pos}
/-- tuple + tuple, drawn -/
theorem x_catT {A B D : PyData → Prop} (ha : EX X H0 M Γ a Γ1 (xI X.K A)) (hb : EX X H0 M Γ1 b Γ2 (xI X.K B)) (h : ∀ dx dy, A dx → B dy → ∃ ds es, dx = .tuple ds ∧ dy = .tuple es ∧ ds.length + es.length ≤ 100000 ∧ D (.tuple (ds ++ es))) :
    EX X H0 M Γ (.BinOp a .Add b pos) Γ2 (xI X.K D) := x_bin op_catA ha hb fun H x y dx dy Q p1 p2 m1 m2 k => by
  obtain ⟨ds, es, rfl, rfl, hz, z⟩ := h dx dy p1 p2
  obtain ⟨q, xs, rfl, hq, hx⟩ := id m1.tup_inv
  obtain ⟨q', ys, rfl, hq', hy⟩ := id m2.tup_inv
  refine ⟨q, q', xs, ys, rfl, rfl, hq, hq', by rw [hx.len, hy.len]; exact Nat.le_trans hz (by decide), fun e => ?_, fun _ e => ?_, fun _ _ p hp => ?_⟩
  · subst e
    have : ds = [] := by cases hx; rfl
    subst this
    exact k _ _ _ (Same.refl _) z m2
  · subst e
    have : es = [] := by cases hy; rfl
    subst this
    rw [List.append_nil] at z
    exact k _ _ _ (Same.refl _) z m1
  · exact k _ _ _ (same_new hp) z (.tup (.inl (.inl upd_same)) ((hx.append hy).same (same_new hp)))
end
end G

namespace K86
open PySem PySem.Spec PyProof.Rows L2 G
/-! ### the text by places -/
def top (i : Nat) : Stmt := PySem.Challenge.pw_worldorpaper_k86_parts_and_places.main.body.getD i (.Pass ⟨0, 0, 0, 0⟩)
/-! ### terms -/
inductive Tm where
  | v (x : Str)
  | a (f : Str) (as : List Tm)
mutual
def Tm.py : Tm → PyData
  | .v x => .str x
  | .a f as => .tuple (.str f :: Tm.pys as)
def Tm.pys : List Tm → List PyData
  | [] => []
  | t :: ts => t.py :: Tm.pys ts
end
def Tm.args : Tm → List Tm
  | .v _ => []
  | .a _ as => as
mutual
def Tm.size : Tm → Nat
  | .v _ => 1
  | .a _ as => 1 + Tm.sizes as
def Tm.sizes : List Tm → Nat
  | [] => 0
  | t :: ts => t.size + Tm.sizes ts
end
mutual
def Tm.dep : Tm → Nat
  | .v _ => 0
  | .a _ as => 1 + Tm.deps as
def Tm.deps : List Tm → Nat
  | [] => 0
  | t :: ts => max t.dep (Tm.deps ts)
end
theorem Tm.pys_len : ∀ ts : List Tm, (Tm.pys ts).length = ts.length
  | [] => rfl
  | _ :: ts => congrArg (· + 1) (Tm.pys_len ts)
theorem Tm.pys_get : ∀ {ts : List Tm} {i : Nat} {d : PyData}, (Tm.pys ts)[i]? = some d → ∃ t, ts[i]? = some t ∧ d = t.py
  | [], i, d, h => by simp [Tm.pys] at h
  | t :: ts, 0, d, h => ⟨t, rfl, (Option.some.inj h).symm⟩
  | t :: ts, i + 1, d, h => Tm.pys_get (ts := ts) (i := i) (by simpa [Tm.pys] using h)
/-! ### places -/
abbrev Pl := List Nat
def pl (p : Pl) : PyData := .tuple (p.map fun i => .int (i : Nat))
mutual
def Tm.places : Tm → List Pl
  | .v _ => [[]]
  | .a _ as => [] :: Tm.placesL 0 as
def Tm.placesL (k : Nat) : List Tm → List Pl
  | [] => []
  | t :: ts => (t.places.map fun p => k :: p) ++ Tm.placesL (k + 1) ts
end
theorem Tm.places_eq (t : Tm) : t.places = [] :: Tm.placesL 0 t.args := by cases t <;> simp [Tm.places, Tm.args, Tm.placesL]
mutual
theorem Tm.places_len : ∀ t : Tm, t.places.length = t.size
  | .v _ => rfl
  | .a _ as => by
    show (Tm.placesL 0 as).length + 1 = 1 + Tm.sizes as
    rw [Tm.placesL_len 0 as, Nat.add_comm]
theorem Tm.placesL_len : ∀ (k : Nat) (ts : List Tm), (Tm.placesL k ts).length = Tm.sizes ts
  | _, [] => rfl
  | k, t :: ts => by
    show ((t.places.map fun p => k :: p) ++ Tm.placesL (k + 1) ts).length = t.size + Tm.sizes ts
    rw [List.length_append, List.length_map, Tm.places_len t, Tm.placesL_len (k + 1) ts]
end
theorem Tm.placesL_snoc : ∀ (ts : List Tm) (k : Nat) (u : Tm), Tm.placesL k (ts ++ [u]) = Tm.placesL k ts ++ u.places.map fun p => (k + ts.length) :: p
  | [], k, u => by simp [Tm.placesL]
  | t :: ts, k, u => by
    show (t.places.map fun p => k :: p) ++ Tm.placesL (k + 1) (ts ++ [u]) = ((t.places.map fun p => k :: p) ++ Tm.placesL (k + 1) ts) ++ _
    rw [Tm.placesL_snoc ts (k + 1) u, List.append_assoc]
    have e : k + 1 + ts.length = k + (t :: ts).length := by rw [List.length_cons]; omega
    rw [e]
theorem take_more {α : Type} {l : List α} {i : Nat} {x : α} (h : l[i]? = some x) : l.take (i + 1) = l.take i ++ [x] := by rw [List.take_add_one, h]; rfl
theorem Tm.placesL_more {ts : List Tm} {i : Nat} {u : Tm} (h : ts[i]? = some u) : Tm.placesL 0 (ts.take (i + 1)) = Tm.placesL 0 (ts.take i) ++ u.places.map fun p => i :: p := by
  have hi : i < ts.length := (List.getElem?_eq_some_iff.mp h).1
  rw [take_more h, Tm.placesL_snoc, List.length_take, Nat.min_eq_left (by omega), Nat.zero_add]
theorem Tm.dep_arg : ∀ {ts : List Tm} {i : Nat} {u : Tm}, ts[i]? = some u → u.dep ≤ Tm.deps ts
  | t :: ts, 0, u, h => by
    have e : t = u := Option.some.inj h
    subst e
    exact Nat.le_max_left _ _
  | t :: ts, i + 1, u, h => Nat.le_trans (Tm.dep_arg (ts := ts) (i := i) (by simpa using h)) (Nat.le_max_right _ _)
theorem Tm.size_arg : ∀ {ts : List Tm} {i : Nat} {u : Tm}, ts[i]? = some u → u.size ≤ Tm.sizes ts
  | t :: ts, 0, u, h => by
    have e : t = u := Option.some.inj h
    subst e
    exact Nat.le_add_right _ _
  | t :: ts, i + 1, u, h => Nat.le_trans (Tm.size_arg (ts := ts) (i := i) (by simpa using h)) (Nat.le_add_left _ _)
theorem Tm.sizes_take : ∀ (ts : List Tm) (i : Nat), Tm.sizes (ts.take i) ≤ Tm.sizes ts
  | [], i => by rw [List.take_nil]; exact Nat.le_refl _
  | t :: ts, 0 => Nat.zero_le _
  | t :: ts, i + 1 => Nat.add_le_add_left (Tm.sizes_take ts i) _
mutual
theorem Tm.places_short : ∀ (t : Tm) (p : Pl), p ∈ t.places → p.length < t.size
  | .v _, p, h => by
    have : p = [] := by simpa [Tm.places] using h
    subst this
    exact Nat.zero_lt_one
  | .a _ as, p, h => by
    show p.length < 1 + Tm.sizes as
    rcases List.mem_cons.mp (show p ∈ [] :: Tm.placesL 0 as from h) with e | h
    · rw [e]; show 0 < _; omega
    · have := Tm.placesL_short 0 as p h
      omega
theorem Tm.placesL_short : ∀ (k : Nat) (ts : List Tm) (p : Pl), p ∈ Tm.placesL k ts → p.length ≤ Tm.sizes ts
  | _, [], p, h => nomatch h
  | k, t :: ts, p, h => by
    show p.length ≤ t.size + Tm.sizes ts
    rcases List.mem_append.mp (show p ∈ (t.places.map fun p => k :: p) ++ Tm.placesL (k + 1) ts from h) with h | h
    · obtain ⟨q, hq, e⟩ := List.mem_map.mp h
      subst e
      have := Tm.places_short t q hq
      show q.length + 1 ≤ _
      omega
    · have := Tm.placesL_short (k + 1) ts p h
      omega
end
/-- an argument -/
theorem Tm.arg {t : Tm} {i : Nat} {d : PyData} (h : (Tm.pys t.args)[i]? = some d) : ∃ u, t.args[i]? = some u ∧ d = u.py ∧ u.dep + 1 ≤ t.dep ∧ u.size + 1 ≤ t.size := by
  obtain ⟨u, h1, h2⟩ := Tm.pys_get h
  refine ⟨u, h1, h2, ?_⟩
  cases t with
  | v x => simp [Tm.args] at h1
  | a f as =>
    have h3 : as[i]? = some u := h1
    have := Tm.dep_arg h3
    have := Tm.size_arg h3
    show u.dep + 1 ≤ 1 + Tm.deps as ∧ u.size + 1 ≤ 1 + Tm.sizes as
    omega
theorem Tm.sizes_args (t : Tm) : Tm.sizes t.args + 1 = t.size := by
  cases t with
  | v _ => rfl
  | a f as => exact Nat.add_comm _ _
mutual
def Tm.parts : Tm → List Tm
  | .v x => [.v x]
  | .a f as => .a f as :: Tm.partsL as
def Tm.partsL : List Tm → List Tm
  | [] => []
  | t :: ts => t.parts ++ Tm.partsL ts
end
theorem Tm.parts_eq (t : Tm) : Tm.pys t.parts = t.py :: Tm.pys (Tm.partsL t.args) := by cases t <;> rfl
theorem Tm.pys_app : ∀ ts us : List Tm, Tm.pys (ts ++ us) = Tm.pys ts ++ Tm.pys us
  | [], _ => rfl
  | t :: ts, us => congrArg (t.py :: ·) (Tm.pys_app ts us)
theorem Tm.partsL_app : ∀ ts us : List Tm, Tm.partsL (ts ++ us) = Tm.partsL ts ++ Tm.partsL us
  | [], _ => rfl
  | t :: ts, us => by
    show t.parts ++ Tm.partsL (ts ++ us) = (t.parts ++ Tm.partsL ts) ++ Tm.partsL us
    rw [Tm.partsL_app ts us, List.append_assoc]
theorem Tm.partsL_more {ts : List Tm} {i : Nat} {u : Tm} (h : ts[i]? = some u) : Tm.partsL (ts.take (i + 1)) = Tm.partsL (ts.take i) ++ u.parts := by
  rw [take_more h, Tm.partsL_app]
  show _ ++ (u.parts ++ []) = _
  rw [List.append_nil]
mutual
theorem Tm.parts_len : ∀ t : Tm, t.parts.length = t.size
  | .v _ => rfl
  | .a _ as => by
    show (Tm.partsL as).length + 1 = 1 + Tm.sizes as
    rw [Tm.partsL_len as, Nat.add_comm]
theorem Tm.partsL_len : ∀ ts : List Tm, (Tm.partsL ts).length = Tm.sizes ts
  | [] => rfl
  | t :: ts => by
    show (t.parts ++ Tm.partsL ts).length = t.size + Tm.sizes ts
    rw [List.length_append, Tm.parts_len t, Tm.partsL_len ts]
end
mutual
theorem Tm.parts_dep : ∀ (t u : Tm), u ∈ t.parts → u.dep ≤ t.dep
  | .v x, u, h => by
    have : u = .v x := by simpa [Tm.parts] using h
    rw [this]; exact Nat.le_refl _
  | .a f as, u, h => by
    rcases List.mem_cons.mp (show u ∈ Tm.a f as :: Tm.partsL as from h) with e | h
    · rw [e]; exact Nat.le_refl _
    · exact Nat.le_trans (Tm.partsL_dep as u h) (Nat.le_add_left _ _)
theorem Tm.partsL_dep : ∀ (ts : List Tm) (u : Tm), u ∈ Tm.partsL ts → u.dep ≤ Tm.deps ts
  | [], _, h => nomatch h
  | t :: ts, u, h => by
    rcases List.mem_append.mp (show u ∈ t.parts ++ Tm.partsL ts from h) with h | h
    · exact Nat.le_trans (Tm.parts_dep t u h) (Nat.le_max_left _ _)
    · exact Nat.le_trans (Tm.partsL_dep ts u h) (Nat.le_max_right _ _)
end
mutual
theorem Tm.py_depth : ∀ t : Tm, t.py.depth = t.dep
  | .v _ => by simp [Tm.py, PyData.depth, Tm.dep]
  | .a f as => by
    have := Tm.pys_depth as
    simp only [Tm.py, PyData.depth, Tm.dep, PyData.depthAll]
    omega
theorem Tm.pys_depth : ∀ ts : List Tm, PyData.depthAll (Tm.pys ts) = Tm.deps ts
  | [] => by simp [Tm.pys, PyData.depthAll, Tm.deps]
  | t :: ts => by
    have h1 := Tm.py_depth t
    have h2 := Tm.pys_depth ts
    simp only [Tm.pys, PyData.depthAll, Tm.deps]
    rw [h1, h2]
end
/-! ### without doubles -/
def nubStep (acc : List PyData) (d : PyData) : List PyData := if (acc.any fun z => PyData.eqv z d) = true then acc else acc ++ [d]
def nub (ds : List PyData) : List PyData := ds.foldl nubStep []
theorem nub_snoc (ds : List PyData) (d : PyData) : nub (ds ++ [d]) = if ((nub ds).any fun z => PyData.eqv z d) = true then nub ds else nub ds ++ [d] := by
  unfold nub
  rw [List.foldl_append]
  rfl
theorem foldl_nub_len : ∀ (ds acc : List PyData), (ds.foldl nubStep acc).length ≤ acc.length + ds.length
  | [], acc => Nat.le_refl _
  | d :: ds, acc => by
    have := foldl_nub_len ds (nubStep acc d)
    have h : (nubStep acc d).length ≤ acc.length + 1 := by
      unfold nubStep
      split
      · omega
      · rw [List.length_append]; exact Nat.le_refl _
    rw [List.foldl_cons, List.length_cons]
    omega
theorem nub_len (ds : List PyData) : (nub ds).length ≤ ds.length := by
  have := foldl_nub_len ds []
  simpa [nub] using this
/-- the texts among data, without doubles -/
def nmStep (acc : List Str) : PyData → List Str
  | .str x => if x ∈ acc then acc else acc ++ [x]
  | _ => acc
def nms (ds : List PyData) : List Str := ds.foldl nmStep []
def names (ds : List PyData) : List PyData := (nms ds).map .str
def nkStep (acc : List (Key × PyData)) : PyData → List (Key × PyData)
  | .str x => putD acc (.inr x) (.bool true)
  | _ => acc
def namesK (ds : List PyData) : List (Key × PyData) := ds.foldl nkStep []
theorem namesK_str (ds : List PyData) (x : Str) : namesK (ds ++ [Tm.py (.v x)]) = putD (namesK ds) (.inr x) (.bool true) := by unfold namesK; rw [List.foldl_append]; rfl
theorem namesK_tup (ds : List PyData) (g : Str) (as : List Tm) : namesK (ds ++ [Tm.py (.a g as)]) = namesK ds := by unfold namesK; rw [List.foldl_append]; rfl
theorem putD_keys (acc : List Str) (x : Str) : putD (acc.map fun z => (Sum.inr z, PyData.bool true)) (.inr x) (.bool true) = (if x ∈ acc then acc else acc ++ [x]).map fun z => ((Sum.inr z : Key), PyData.bool true) := by
  unfold putD
  have e : ((acc.map fun z => ((Sum.inr z : Key), PyData.bool true)).any fun kv => decide (kv.1 = Sum.inr x)) = decide (x ∈ acc) := by
    rw [List.any_map]
    by_cases h : x ∈ acc
    · rw [decide_eq_true h]
      exact List.any_eq_true.mpr ⟨x, h, by simp⟩
    · rw [decide_eq_false h]
      refine List.any_eq_false.mpr fun y hy => ?_
      have : y ≠ x := fun z => h (z ▸ hy)
      simp [this]
  rw [e]
  by_cases h : x ∈ acc
  · rw [if_pos (decide_eq_true h), if_pos h, List.map_map]
    refine List.map_congr_left fun y _ => ?_
    show (if (Sum.inr y : Key) = Sum.inr x then _ else _) = _
    split <;> rfl
  · rw [if_neg (by simp [h]), if_neg h, List.map_append]
    rfl
theorem nk_nm : ∀ (ds : List PyData) (acc : List Str), ds.foldl nkStep (acc.map fun z => ((Sum.inr z : Key), PyData.bool true)) = (ds.foldl nmStep acc).map fun z => ((Sum.inr z : Key), PyData.bool true)
  | [], _ => rfl
  | d :: ds, acc => by
    rw [List.foldl_cons, List.foldl_cons, ← nk_nm ds (nmStep acc d)]
    congr 1
    cases d with
    | str x => exact putD_keys acc x
    | _ => rfl
theorem namesK_eq (ds : List PyData) : namesK ds = (nms ds).map fun z => ((Sum.inr z : Key), PyData.bool true) := nk_nm ds []
theorem namesK_keys (ds : List PyData) : (namesK ds).map (fun kv => keyD kv.1) = names ds := by
  rw [namesK_eq, List.map_map]
  rfl
theorem foldl_nm_len : ∀ (ds : List PyData) (acc : List Str), (ds.foldl nmStep acc).length ≤ acc.length + ds.length
  | [], acc => Nat.le_refl _
  | d :: ds, acc => by
    have := foldl_nm_len ds (nmStep acc d)
    have h : (nmStep acc d).length ≤ acc.length + 1 := by
      unfold nmStep
      split
      · split
        · omega
        · rw [List.length_append]; exact Nat.le_refl _
      · omega
    rw [List.foldl_cons, List.length_cons]
    omega
theorem namesK_len (ds : List PyData) : (namesK ds).length ≤ ds.length := by
  rw [namesK_eq, List.length_map]
  have := foldl_nm_len ds []
  simpa [nms] using this
/-! ### the part at a place, a part replaced -/
def Tm.at : Tm → Pl → Option Tm
  | t, [] => some t
  | t, i :: p => match t.args[i]? with
    | some u => u.at p
    | none => none
def Tm.put (u : Tm) : Tm → Pl → Option Tm
  | _, [] => some u
  | .v _, _ :: _ => none
  | .a f as, i :: p => match as[i]? with
    | some w => match Tm.put u w p with
      | some w' => some (.a f (as.set i w'))
      | none => none
    | none => none
theorem Tm.at_snoc : ∀ (p : Pl) (t : Tm) (i : Nat), t.at (p ++ [i]) = (t.at p).bind fun u => u.args[i]?
  | [], t, i => by
    show (match t.args[i]? with | some u => u.at [] | none => none) = t.args[i]?
    cases t.args[i]? <;> rfl
  | j :: p, t, i => by
    show (match t.args[j]? with | some u => u.at (p ++ [i]) | none => none) = (match t.args[j]? with | some u => u.at p | none => none).bind _
    cases h : t.args[j]? with
    | none => rfl
    | some u => exact Tm.at_snoc p u i
theorem Tm.at_take {p : Pl} {t : Tm} {u : Tm} (h : t.at p = some u) : ∀ i, ∃ w, t.at (p.take i) = some w := by
  intro i
  cases q : t.at (p.take i) with
  | some w => exact ⟨w, rfl⟩
  | none =>
    exfalso
    have key : ∀ (r : Pl) (s : Pl), t.at s = none → t.at (s ++ r) = none := by
      intro r
      induction r with
      | nil => intro s hs; rw [List.append_nil]; exact hs
      | cons j r ih =>
        intro s hs
        have e : s ++ j :: r = (s ++ [j]) ++ r := by simp
        rw [e]
        exact ih _ (by rw [Tm.at_snoc, hs]; rfl)
    have := key (p.drop i) _ q
    rw [List.take_append_drop, h] at this
    cases this
theorem Tm.at_dep : ∀ (p : Pl) (t u : Tm), t.at p = some u → u.dep + p.length ≤ t.dep ∧ u.size ≤ t.size
  | [], t, u, h => by
    have e : t = u := Option.some.inj h
    subst e
    exact ⟨Nat.le_refl _, Nat.le_refl _⟩
  | i :: p, .v x, u, h => by cases h
  | i :: p, .a f as, u, h => by
    have h' : (match as[i]? with | some w => w.at p | none => none) = some u := h
    cases q : as[i]? with
    | none => rw [q] at h'; cases h'
    | some w =>
      rw [q] at h'
      have ih := Tm.at_dep p w u h'
      have h1 := Tm.dep_arg q
      have h2 := Tm.size_arg q
      show u.dep + (p.length + 1) ≤ 1 + Tm.deps as ∧ u.size ≤ 1 + Tm.sizes as
      omega
theorem Tm.put_none {u : Tm} : ∀ {p : Pl} {t : Tm}, t.at p = none → Tm.put u t p = none
  | [], t, h => by cases h
  | i :: p, .v x, h => rfl
  | i :: p, .a f as, h => by
    have h' : (match as[i]? with | some w => w.at p | none => none) = none := h
    show (match as[i]? with | some w => (match Tm.put u w p with | some w' => some (Tm.a f (as.set i w')) | none => none) | none => none) = none
    cases q : as[i]? with
    | none => rfl
    | some w =>
      rw [q] at h'
      dsimp only
      rw [Tm.put_none (u := u) (t := w) (p := p) h']
theorem Tm.put_some {u : Tm} : ∀ {p : Pl} {t w : Tm}, t.at p = some w → ∃ t', Tm.put u t p = some t' ∧ t'.at p = some u ∧ (∀ w', w' = w → Tm.put w' t' p = some t)
  | [], t, w, h => by
    have e : t = w := Option.some.inj h
    subst e
    exact ⟨u, rfl, rfl, fun w' e => by subst e; rfl⟩
  | i :: p, .v x, w, h => by cases h
  | i :: p, .a f as, w, h => by
    have h' : (match as[i]? with | some w => w.at p | none => none) = some w := h
    cases q : as[i]? with
    | none => rw [q] at h'; cases h'
    | some z =>
      rw [q] at h'
      obtain ⟨z', h1, h2, h3⟩ := Tm.put_some (u := u) h'
      have hi : i < as.length := (List.getElem?_eq_some_iff.mp q).1
      have gs : (as.set i z')[i]? = some z' := List.getElem?_set_self hi
      refine ⟨.a f (as.set i z'), ?_, ?_, fun w' e => ?_⟩
      · show (match as[i]? with | some w => (match Tm.put u w p with | some w' => some (Tm.a f (as.set i w')) | none => none) | none => none) = _
        rw [q]
        dsimp only
        rw [h1]
      · show (match (as.set i z')[i]? with | some u => u.at p | none => none) = some u
        rw [gs]; exact h2
      · show (match (as.set i z')[i]? with | some w => (match Tm.put w' w p with | some w' => some (Tm.a f ((as.set i z').set i w')) | none => none) | none => none) = _
        rw [gs]
        dsimp only
        rw [h3 w' e]
        dsimp only
        rw [List.set_set]
        have es : as.set i z = as := by
          have := (List.getElem?_eq_some_iff.mp q).2
          rw [← this]; exact List.set_getElem_self hi
        rw [es]
theorem Tm.deps_set {w : Tm} {n : Nat} : ∀ {as : List Tm} {i : Nat}, Tm.deps as ≤ n → w.dep ≤ n → Tm.deps (as.set i w) ≤ n
  | [], i, h, _ => h
  | t :: ts, 0, h, hw => by
    have : max t.dep (Tm.deps ts) ≤ n := h
    show max w.dep (Tm.deps ts) ≤ n
    omega
  | t :: ts, i + 1, h, hw => by
    have h' : max t.dep (Tm.deps ts) ≤ n := h
    have ih := Tm.deps_set (w := w) (as := ts) (i := i) (n := n) (by omega) hw
    show max t.dep (Tm.deps (ts.set i w)) ≤ n
    omega
theorem Tm.sizes_set {w : Tm} : ∀ {as : List Tm} {i : Nat} {z : Tm}, as[i]? = some z → Tm.sizes (as.set i w) + z.size = Tm.sizes as + w.size
  | t :: ts, 0, z, h => by
    have e : t = z := Option.some.inj h
    subst e
    show w.size + Tm.sizes ts + t.size = t.size + Tm.sizes ts + w.size
    omega
  | t :: ts, i + 1, z, h => by
    have ih := Tm.sizes_set (w := w) (as := ts) (i := i) (by simpa using h)
    show t.size + Tm.sizes (ts.set i w) + z.size = t.size + Tm.sizes ts + w.size
    omega
theorem Tm.put_dep {u : Tm} : ∀ {p : Pl} {t t' : Tm}, Tm.put u t p = some t' → t'.dep ≤ t.dep + u.dep ∧ t'.size ≤ t.size + u.size
  | [], t, t', h => by
    have e : u = t' := Option.some.inj (by cases t <;> exact h)
    subst e
    exact ⟨Nat.le_add_left _ _, Nat.le_add_left _ _⟩
  | i :: p, .v x, t', h => by cases h
  | i :: p, .a f as, t', h => by
    have h' : (match as[i]? with | some w => (match Tm.put u w p with | some w' => some (Tm.a f (as.set i w')) | none => none) | none => none) = some t' := h
    cases q : as[i]? with
    | none => rw [q] at h'; cases h'
    | some z =>
      rw [q] at h'
      dsimp only at h'
      cases q2 : Tm.put u z p with
      | none => rw [q2] at h'; cases h'
      | some z' =>
        rw [q2] at h'
        have e : Tm.a f (as.set i z') = t' := Option.some.inj h'
        subst e
        have ih := Tm.put_dep q2
        have h1 := Tm.dep_arg q
        have h2 := Tm.sizes_set (w := z') q
        have h3 := Tm.deps_set (w := z') (as := as) (i := i) (n := Tm.deps as + u.dep) (by omega) (by omega)
        show 1 + Tm.deps (as.set i z') ≤ 1 + Tm.deps as + u.dep ∧ 1 + Tm.sizes (as.set i z') ≤ 1 + Tm.sizes as + u.size
        omega
mutual
theorem Tm.mem_places : ∀ (t : Tm) (p : Pl), p ∈ t.places → ∃ u, t.at p = some u
  | .v x, p, h => by
    have e : p = [] := by simpa [Tm.places] using h
    subst e
    exact ⟨_, rfl⟩
  | .a f as, p, h => by
    rcases List.mem_cons.mp (show p ∈ [] :: Tm.placesL 0 as from h) with e | h
    · subst e; exact ⟨_, rfl⟩
    · obtain ⟨i, q, w, u, e, h1, h2⟩ := Tm.mem_placesL 0 as p h
      subst e
      refine ⟨u, ?_⟩
      show (match as[0 + i]? with | some w => w.at q | none => none) = some u
      rw [Nat.zero_add, h1]
      exact h2
theorem Tm.mem_placesL : ∀ (k : Nat) (ts : List Tm) (p : Pl), p ∈ Tm.placesL k ts → ∃ i q w u, p = (k + i) :: q ∧ ts[i]? = some w ∧ w.at q = some u
  | _, [], _, h => nomatch h
  | k, t :: ts, p, h => by
    rcases List.mem_append.mp (show p ∈ (t.places.map fun p => k :: p) ++ Tm.placesL (k + 1) ts from h) with h | h
    · obtain ⟨q, hq, e⟩ := List.mem_map.mp h
      obtain ⟨u, hu⟩ := Tm.mem_places t q hq
      exact ⟨0, q, t, u, e.symm, rfl, hu⟩
    · obtain ⟨i, q, w, u, e, h1, h2⟩ := Tm.mem_placesL (k + 1) ts p h
      exact ⟨i + 1, q, w, u, by rw [e]; congr 1; omega, h1, h2⟩
end
theorem k_ss : kitB "str" "str" = some true := by decide +kernel
theorem k_ts : kitB "tuple" "str" = some false := by decide +kernel
theorem Tm.pys_at : ∀ {ts : List Tm} {i : Nat} {u : Tm}, ts[i]? = some u → (Tm.pys ts)[i]? = some u.py
  | t :: ts, 0, u, h => by
    have e : t = u := Option.some.inj h
    subst e; rfl
  | t :: ts, i + 1, u, h => Tm.pys_at (ts := ts) (i := i) (by simpa using h)
/-! ### what the module has -/
section
variable {P : Program} {w : World} {K : PySem.W.Frag} {mg : Str → Option Value} {base : Heap}
/-! ### _arguments -/
abbrev sArgs : Stmt := top 10
theorem scArgs : FnScope ["term"] ["term"] (defScope sArgs) := ⟨rfl, rfl, rfl, by decide +kernel, rfl, by decide +kernel, by decide +kernel⟩
def AArgs : List PyData → PyData → Prop := fun ds d => ∃ t : Tm, ds = [t.py] ∧ d = .tuple (Tm.pys t.args)
theorem len1 {A : List PyData → PyData → Prop} {n : Nat} (h : ∀ ds d, A ds d → ds.length = n) : ∀ vs H Q E, spI K A vs H Q E → vs.length = n := fun vs H Q E ⟨ds, d, m, a, _⟩ => m.len.trans (h ds d a)
theorem lenL {A : List PyData → List PyData → Prop} {n : Nat} (h : ∀ ds d, A ds d → ds.length = n) : ∀ vs H Q E, spL K A vs H Q E → vs.length = n := fun vs H Q E ⟨ds, d, m, a, _⟩ => m.len.trans (h ds d a)
theorem ok_args {f : Addr} {fd : FuncData} (F : Fun K "_arguments" "_arguments" sArgs f fd) (mI : mg "isinstance" = none) (mS : mg "str" = none) : FnOk P w K mg base CX0 1 f fd ["term"] (spI K AArgs) := by
  refine mk_fn F scArgs (len1 (n := 1) fun ds d ⟨t, e, _⟩ => by rw [e]; rfl) fun cdv A outer s H vs Q E hr ⟨ds, d, m, ⟨t, e1, e2⟩, q⟩ => ?_
  subst e1 e2
  refine ⟨[], [.im t.py], R.start (n := 0) (SlotVs.ims m) (by rw [m.len]; rfl) (fun _ _ z => by simp at z), ?_⟩
  cases t with
  | v x =>
    refine g_if (k := true) (t_val (i_isi (T := "str") mI (v_bltn mS (by decide +kernel) rfl) (i_var 0 rfl) k_ss)) (fun _ => ?_) (fun z => nomatch z)
    exact g_retI (i_tup a_nil) fun v H' b m => q v H' b.nil m
  | a g as =>
    refine g_if (k := false) (t_val (i_isi (T := "str") mI (v_bltn mS (by decide +kernel) rfl) (i_var 0 rfl) k_ts)) (fun z => nomatch z) (fun _ => g_on ?_)
    refine g_retI ((i_slT (i_var 0 rfl) (part_some i_int) part_none).to ?_) fun v H' b m => q v H' b.nil m
    exact congrArg PyData.tuple (cutD_from _ 1)
/-! ### places_of -/
abbrev sPlaces : Stmt := top 4
theorem scPlaces : FnScope ["term", "places", "index", "argument", "place"] ["term"] (defScope sPlaces) := ⟨rfl, rfl, rfl, by decide +kernel, rfl, by decide +kernel, by decide +kernel⟩
def APl (n : Nat) : List PyData → List PyData → Prop := fun ds rs => ∃ t : Tm, ds = [t.py] ∧ t.dep ≤ n ∧ t.size ≤ 1000 ∧ rs = t.places.map pl
theorem ok_places {f : Addr} {fd : FuncData} (F : Fun K "places_of" "places_of" sPlaces f fd) (mE : mg "enumerate" = none) (hA : Has P w K mg base CX0 1 "_arguments" ["term"] (spI K AArgs)) (n : Nat) (ih : ∀ m, m < n → Has P w K mg base CX0 (m + 2) "places_of" ["term"] (spL K (APl m))) :
    FnOk P w K mg base CX0 (n + 2) f fd ["term"] (spL K (APl n)) := by
  refine mk_fn F scPlaces (lenL (n := 1) fun ds d ⟨t, e, _⟩ => by rw [e]; rfl) fun cdv A outer s H vs Q E hr ⟨ds, d, m, ⟨t, e1, hd, hz, e2⟩, q⟩ => ?_
  subst e1 e2
  refine ⟨[], [.im t.py, .no, .no, .no, .no], R.start (n := 4) (SlotVs.ims m) (by rw [m.len]; rfl) (fun _ _ z => by simp at z), ?_⟩
  refine g_setL 1 MOk.nil scPlaces.nd rfl (l_lst (a_cons (i_tup a_nil) a_nil)) ?_
  refine g_forET 2 3 (fun i => [.im t.py, .ls (pl [] :: (Tm.placesL 0 (t.args.take i)).map pl), .no, .no, .no]) (fun _ => False) scPlaces.nd (fun _ => rfl) PassesOwn.never rfl mE
    (i_call hA hr (by omega) ⟨t, rfl, rfl⟩ (a_cons (i_var 0 rfl) a_nil)) (.k (.k (.k (.k (.k .nil))))) (fun i d hi => ?_) ?_ (fun _ z => z.elim)
  · obtain ⟨u, hu, e, h1, h2⟩ := Tm.arg hi
    subst e
    have zt := Tm.sizes_args t
    have zk := Tm.sizes_take t.args i
    refine g_extend 1 (es' := (u.places.map fun p => i :: p).map pl) rfl ?_ ?_ (g_loop (Sub.k (Sub.e ?_ (.n (.n (.k .nil))))))
    · simp only [List.length_cons, List.length_map, Tm.placesL_len, Tm.places_len]; omega
    · refine l_lc (i := 4) (ds := u.places.map pl) rfl scPlaces.nd (pi_list pe_w) (src_new (l_call (ih (n - 1) (by omega)) hr (by omega) ⟨u, rfl, by omega, by omega, rfl⟩ (a_cons (i_var 3 rfl) a_nil))) (by simp) (by simp [Tm.places_len]; omega) MOk.nil
        (fun k d f hk hf s' H' C cl fp => ?_) (blkOk_by (N := ["term", "places", "index", "argument", "place"]) (sc := defScope sPlaces) (by decide +kernel)) (fun _ _ _ _ _ => pg_name scPlaces.nd rfl (Or.inl rfl)) (by show 4 < 5; decide) rfl
      rw [List.getElem?_map, List.getElem?_map] at hf
      rw [List.getElem?_map] at hk
      cases hp : u.places[k]? with
      | none => rw [hp] at hk; cases hk
      | some p =>
        rw [hp] at hk hf
        cases hk; cases hf
        refine (i_catT (ds := [.int (i : Nat)]) (es := p.map fun i => .int (i : Nat)) ?_ (i_tup (a_cons (i_var 2 rfl) a_nil)) (i_var 4 rfl)).to rfl
        have := Tm.places_short u p (List.mem_of_getElem? hp)
        simp only [List.length_cons, List.length_nil, List.length_map]
        omega
    · rw [Tm.placesL_more hu, List.map_append]
      rfl
  · refine g_retO 1 rfl fun H' p us b h0 hp mm => q p us H' b.nil h0 hp ?_
    rw [Tm.places_eq]
    have e : t.args.take (Tm.pys t.args).length = t.args := by rw [Tm.pys_len, List.take_length]
    rw [e] at mm
    exact mm
/-! ### _all_parts -/
abbrev sAll : Stmt := top 12
theorem scAll : FnScope ["term", "parts", "argument"] ["term"] (defScope sAll) := ⟨rfl, rfl, rfl, by decide +kernel, rfl, by decide +kernel, by decide +kernel⟩
def AAll (n : Nat) : List PyData → List PyData → Prop := fun ds rs => ∃ t : Tm, ds = [t.py] ∧ t.dep ≤ n ∧ t.size ≤ 2000 ∧ rs = Tm.pys t.parts
theorem ok_all {f : Addr} {fd : FuncData} (F : Fun K "_all_parts" "_all_parts" sAll f fd) (hA : Has P w K mg base CX0 1 "_arguments" ["term"] (spI K AArgs)) (n : Nat) (ih : ∀ m, m < n → Has P w K mg base CX0 (m + 2) "_all_parts" ["term"] (spL K (AAll m))) :
    FnOk P w K mg base CX0 (n + 2) f fd ["term"] (spL K (AAll n)) := by
  refine mk_fn F scAll (lenL (n := 1) fun ds d ⟨t, e, _⟩ => by rw [e]; rfl) fun cdv A outer s H vs Q E hr ⟨ds, d, m, ⟨t, e1, hd, hz, e2⟩, q⟩ => ?_
  subst e1 e2
  refine ⟨[], [.im t.py, .no, .no], R.start (n := 2) (SlotVs.ims m) (by rw [m.len]; rfl) (fun _ _ z => by simp at z), ?_⟩
  refine g_setL 1 MOk.nil scAll.nd rfl (l_lst (a_cons (i_var 0 rfl) a_nil)) ?_
  refine g_forT 2 (ds := Tm.pys t.args) (fun i => [.im t.py, .ls (t.py :: Tm.pys (Tm.partsL (t.args.take i))), .no]) (fun _ => False) scAll.nd (fun _ => rfl) PassesOwn.never rfl
    (i_call hA hr (by omega) ⟨t, rfl, rfl⟩ (a_cons (i_var 0 rfl) a_nil)) (.k (.k (.k .nil))) (fun i d hi => ?_) ?_ (fun _ z => z.elim)
  · obtain ⟨u, hu, e, h1, h2⟩ := Tm.arg hi
    subst e
    have zt := Tm.sizes_args t
    have zk := Tm.sizes_take t.args i
    refine g_extend 1 (es' := Tm.pys u.parts) rfl ?_ (l_call (ih (n - 1) (by omega)) hr (by omega) ⟨u, rfl, by omega, by omega, rfl⟩ (a_cons (i_var 2 rfl) a_nil)) (g_loop (Sub.k (Sub.e ?_ (.n .nil))))
    · simp only [List.length_cons, Tm.pys_len, Tm.partsL_len, Tm.parts_len]; omega
    · rw [Tm.partsL_more hu, Tm.pys_app]
      rfl
  · refine g_retO 1 rfl fun H' p us b h0 hp mm => q p us H' b.nil h0 hp ?_
    rw [Tm.parts_eq]
    have e : t.args.take (Tm.pys t.args).length = t.args := by rw [Tm.pys_len, List.take_length]
    rw [e] at mm
    exact mm
/-! ### term_size -/
abbrev sSize : Stmt := top 9
theorem scSize : FnScope ["term"] ["term"] (defScope sSize) := ⟨rfl, rfl, rfl, by decide +kernel, rfl, by decide +kernel, by decide +kernel⟩
def ASize (n : Nat) : List PyData → PyData → Prop := fun ds d => ∃ t : Tm, ds = [t.py] ∧ t.dep ≤ n ∧ t.size ≤ 2000 ∧ d = .int t.size
theorem ok_size {f : Addr} {fd : FuncData} {n : Nat} (F : Fun K "term_size" "term_size" sSize f fd) (ml : mg "len" = none) (hA : Has P w K mg base CX0 (n + 2) "_all_parts" ["term"] (spL K (AAll n))) : FnOk P w K mg base CX0 (n + 3) f fd ["term"] (spI K (ASize n)) := by
  refine mk_fn F scSize (len1 (n := 1) fun ds d ⟨t, e, _⟩ => by rw [e]; rfl) fun cdv A outer s H vs Q E hr ⟨ds, d, m, ⟨t, e1, hd, hz, e2⟩, q⟩ => ?_
  subst e1 e2
  refine ⟨[], [.im t.py], R.start (n := 0) (SlotVs.ims m) (by rw [m.len]; rfl) (fun _ _ z => by simp at z), ?_⟩
  refine g_retI ((i_lenO ml (l_call hA hr (by omega) ⟨t, rfl, hd, hz, rfl⟩ (a_cons (i_var 0 rfl) a_nil)).o).to ?_) fun v H' b m => q v H' b.nil m
  rw [Tm.pys_len, Tm.parts_len]
/-! ### parts_of -/
abbrev sParts : Stmt := top 7
theorem scParts : FnScope ["term", "parts", "part"] ["term"] (defScope sParts) := ⟨rfl, rfl, rfl, by decide +kernel, rfl, by decide +kernel, by decide +kernel⟩
def AParts (n : Nat) : List PyData → List PyData → Prop := fun ds rs => ∃ t : Tm, ds = [t.py] ∧ t.dep ≤ n ∧ n ≤ 60 ∧ t.size ≤ 2000 ∧ rs = nub (Tm.pys t.parts)
theorem ok_parts {f : Addr} {fd : FuncData} {n : Nat} (F : Fun K "parts_of" "parts_of" sParts f fd) (hA : Has P w K mg base CX0 (n + 2) "_all_parts" ["term"] (spL K (AAll n))) : FnOk P w K mg base CX0 (n + 3) f fd ["term"] (spL K (AParts n)) := by
  refine mk_fn F scParts (lenL (n := 1) fun ds d ⟨t, e, _⟩ => by rw [e]; rfl) fun cdv A outer s H vs Q E hr ⟨ds, d, m, ⟨t, e1, hd, h6, hz, e2⟩, q⟩ => ?_
  subst e1 e2
  refine ⟨[], [.im t.py, .no, .no], R.start (n := 2) (SlotVs.ims m) (by rw [m.len]; rfl) (fun _ _ z => by simp at z), ?_⟩
  refine g_setL 1 MOk.nil scParts.nd rfl (l_lst a_nil) ?_
  refine g_forL 2 (ds := Tm.pys t.parts) (fun i => [.im t.py, .ls (nub ((Tm.pys t.parts).take i)), .no]) (fun _ => False) scParts.nd (fun _ => rfl) PassesOwn.never rfl
    (l_call hA hr (by omega) ⟨t, rfl, hd, hz, rfl⟩ (a_cons (i_var 0 rfl) a_nil)) (.k (.k (.k .nil))) (fun i d hi => ?_) ?_ rfl (fun _ z => z.elim)
  · obtain ⟨u, hu, e⟩ := Tm.pys_get hi
    have hu' := Tm.parts_dep t u (List.mem_of_getElem? hu)
    have hi' : i < 2000 := by
      have := (List.getElem?_eq_some_iff.mp hi).1
      rw [Tm.pys_len, Tm.parts_len] at this
      omega
    have hl := nub_len ((Tm.pys t.parts).take i)
    rw [List.length_take] at hl
    refine g_if (t_notIn hr (by rw [e, Tm.py_depth]; omega) (i_var 2 rfl) (o_var 1 rfl)) (fun k => ?_) (fun k => g_on (g_loop (Sub.k (Sub.e ?_ (.n .nil)))))
    · refine g_append 1 rfl (by omega) (i_var 2 rfl) (g_on (g_loop (Sub.k (Sub.e ?_ (.n .nil)))))
      rw [take_more hi, nub_snoc, if_neg (by simpa using k)]
    · rw [take_more hi, nub_snoc, if_pos (by simpa using k)]
  · refine g_retO 1 rfl fun H' p us b h0 hp mm => q p us H' b.nil h0 hp ?_
    rw [List.take_length] at mm
    exact mm
/-! ### unknowns_of -/
abbrev sUnk : Stmt := top 8
theorem scUnk : FnScope ["term", "found", "part"] ["term"] (defScope sUnk) := ⟨rfl, rfl, rfl, by decide +kernel, rfl, by decide +kernel, by decide +kernel⟩
def AUnk (n : Nat) : List PyData → List PyData → Prop := fun ds rs => ∃ t : Tm, ds = [t.py] ∧ t.dep ≤ n ∧ t.size ≤ 2000 ∧ rs = names (Tm.pys t.parts)
theorem ok_unk {f : Addr} {fd : FuncData} {n : Nat} (F : Fun K "unknowns_of" "unknowns_of" sUnk f fd) (mI : mg "isinstance" = none) (mS : mg "str" = none) (mL : mg "list" = none) (hA : Has P w K mg base CX0 (n + 2) "_all_parts" ["term"] (spL K (AAll n))) : FnOk P w K mg base CX0 (n + 3) f fd ["term"] (spL K (AUnk n)) := by
  refine mk_fn F scUnk (lenL (n := 1) fun ds d ⟨t, e, _⟩ => by rw [e]; rfl) fun cdv A outer s H vs Q E hr ⟨ds, d, m, ⟨t, e1, hd, hz, e2⟩, q⟩ => ?_
  subst e1 e2
  refine ⟨[], [.im t.py, .no, .no], R.start (n := 2) (SlotVs.ims m) (by rw [m.len]; rfl) (fun _ _ z => by simp at z), ?_⟩
  refine g_dict 1 MOk.nil scUnk.nd rfl ?_
  refine g_forL 2 (ds := Tm.pys t.parts) (fun i => [.im t.py, .dk (namesK ((Tm.pys t.parts).take i)), .no]) (fun _ => False) scUnk.nd (fun _ => rfl) PassesOwn.never rfl
    (l_call hA hr (by omega) ⟨t, rfl, hd, hz, rfl⟩ (a_cons (i_var 0 rfl) a_nil)) (.k (.k (.k .nil))) (fun i d hi => ?_) ?_ rfl (fun _ z => z.elim)
  · obtain ⟨u, hu, e⟩ := Tm.pys_get hi
    have hi' : i < 2000 := by
      have := (List.getElem?_eq_some_iff.mp hi).1
      rw [Tm.pys_len, Tm.parts_len] at this
      omega
    have hl := namesK_len ((Tm.pys t.parts).take i)
    rw [List.length_take] at hl
    subst e
    cases u with
    | v x =>
      refine g_if (k := true) (t_val (i_isi (T := "str") mI (v_bltn mS (by decide +kernel) rfl) (i_var 2 rfl) k_ss)) (fun _ => ?_) (fun z => nomatch z)
      refine g_dput 1 (n := 0) (kk := .inr x) hr rfl (by omega) i_bl (i_var 2 rfl) (g_on (g_loop (Sub.k (Sub.e ?_ (.n .nil)))))
      rw [take_more hi, namesK_str]
    | a g as =>
      refine g_if (k := false) (t_val (i_isi (T := "str") mI (v_bltn mS (by decide +kernel) rfl) (i_var 2 rfl) k_ts)) (fun z => nomatch z) (fun _ => g_on (g_loop (Sub.k (Sub.e ?_ (.n .nil)))))
      rw [take_more hi, namesK_tup]
  · refine g_retL MOk.nil ((l_ofD rfl mL (d_var 1 rfl)).to ?_) fun p us H' b h0 hp mm => q p us H' b.nil h0 hp mm
    rw [List.take_length, namesK_keys]
/-! ### _check_index -/
variable {C : Addr}
abbrev sChk : Stmt := top 11
theorem scChk : FnScope ["part", "index"] ["part", "index"] (defScope sChk) := ⟨rfl, rfl, rfl, by decide +kernel, rfl, by decide +kernel, by decide +kernel⟩
def spChk (K : PySem.W.Frag) (C : Addr) : Sp := fun vs H Q E => ∃ (t : Tm) (i : Int), ImAll K H vs [t.py, .int i] ∧ ((0 ≤ i ∧ i < t.args.length) → ∀ H', Same H H' → Q .non H') ∧ (¬ (0 ≤ i ∧ i < t.args.length) → ∀ H', Same H H' → E (.ref C) none H')
theorem ok_chk {f : Addr} {fd : FuncData} (F : Fun K "_check_index" "_check_index" sChk f fd) (ml : mg "len" = none) (X : ExcF K mg "BadPlace" C) (hA : Has P w K mg base CX0 1 "_arguments" ["term"] (spI K AArgs)) : FnOk P w K mg base (L2.CX P w) 2 f fd ["part", "index"] (spChk K C) := by
  refine mk_fnX F scChk (fun vs H Q E ⟨t, i, m, _⟩ => m.len) fun cdv A outer s H vs Q E hr ⟨t, i, m, q1, q2⟩ => ?_
  refine ⟨[], [.im t.py, .im (.int i)], R.start (n := 0) (SlotVs.ims m) (by rw [m.len]; rfl) (fun _ _ z => by simp at z), ?_⟩
  refine g_if (t_not (t_chain op_le op_lt i_int (i_var 1 rfl) (i_lenT ml (i_call hA hr (by omega) ⟨t, rfl, rfl⟩ (a_cons (i_var 0 rfl) a_nil))))) (fun k => ?_) (fun k => g_on (g_nil fun g σ H' r => q1 ?_ H' r.but.nil))
  · refine g_raise X rfl (takes_of rfl rfl rfl rfl) fun g σ H' r => q2 (fun z => ?_) H' r.but.nil
    rw [Tm.pys_len] at k
    simp [z.1, z.2] at k
  · rw [Tm.pys_len] at k
    simpa using k
/-! ### part_at -/
abbrev sPart : Stmt := top 5
theorem scPart : FnScope ["term", "place", "part", "index"] ["term", "place"] (defScope sPart) := ⟨rfl, rfl, rfl, by decide +kernel, rfl, by decide +kernel, by decide +kernel⟩
def spPart (K : PySem.W.Frag) (C : Addr) : Sp := fun vs H Q E => ∃ (t : Tm) (p : Pl), ImAll K H vs [t.py, pl p] ∧ (∀ u, t.at p = some u → ∀ v H', Same H H' → Im K H' v u.py → Q v H') ∧ (t.at p = none → ∀ H', Same H H' → E (.ref C) none H')
def cur (t : Tm) (p : Pl) : SD := match t.at p with
  | some u => .im u.py
  | none => bad
theorem ok_part {f : Addr} {fd : FuncData} (F : Fun K "part_at" "part_at" sPart f fd) (hC : Has P w K mg base (L2.CX P w) 2 "_check_index" ["part", "index"] (spChk K C)) : FnOk P w K mg base (L2.CX P w) 3 f fd ["term", "place"] (spPart K C) := by
  refine mk_fnX F scPart (fun vs H Q E ⟨t, i, m, _⟩ => m.len) fun cdv A outer s H vs Q E hr ⟨t, p, m, q1, q2⟩ => ?_
  refine ⟨[], [.im t.py, .im (pl p), .no, .no], R.start (n := 2) (SlotVs.ims m) (by rw [m.len]; rfl) (fun _ _ z => by simp at z), ?_⟩
  refine g_set 2 scPart.nd rfl (i_var 0 rfl) ?_
  refine g_forT 3 (ds := p.map fun i => .int (i : Nat)) (fun i => [.im t.py, .im (pl p), cur t (p.take i), .no]) (fun _ => False) scPart.nd (fun _ => rfl) (passes_of rfl) rfl (i_var 1 rfl) (.k (.k (.k (.k .nil)))) (fun i d hi => ?_) ?_ (fun _ z => z.elim)
  · rw [List.getElem?_map] at hi
    cases hp : p[i]? with
    | none => rw [hp] at hi; cases hi
    | some j =>
      rw [hp] at hi
      cases hi
      have nx := Tm.at_snoc (p.take i) t j
      rw [← take_more hp] at nx
      cases hc : t.at (p.take i) with
      | none => exact g_bad 2 (by show cur t (p.take i) = bad; unfold cur; rw [hc])
      | some u =>
        rw [hc] at nx
        have nx' : t.at (p.take (i + 1)) = u.args[j]? := nx
        have ec : cur t (p.take i) = .im u.py := by unfold cur; rw [hc]
        rw [ec]
        refine g_exprP (φ := j < u.args.length) (e_callS (takes_of rfl rfl rfl rfl) hC hr (by omega) (a_cons (i_var 2 rfl) (a_cons (i_var 3 rfl) a_nil)) fun g σ H1 H2 vs Q' r s m k => ?_) (fun hj => ?_)
        · refine ⟨u, (j : Nat), m, fun hz H' s' => k _ H' s' (by omega), fun hz H' s' => q2 ?_ H' ((r.same s).but.nil.trans s')⟩
          cases q : t.at p with
          | none => rfl
          | some w =>
            obtain ⟨w', hw⟩ := Tm.at_take q (i + 1)
            rw [nx', List.getElem?_eq_none (by omega)] at hw
            cases hw
        · have hu : u.args[j]? = some u.args[j] := List.getElem?_eq_getElem hj
          have e2 : cur t (p.take (i + 1)) = .im (u.args[j]).py := by unfold cur; rw [nx', hu]
          refine g_set 2 scPart.nd rfl (i_ixT (d := (u.args[j]).py) (ds := match u with | .v x => [] | .a f as => .str f :: Tm.pys as) ?_ ((i_var 2 rfl).to ?_) (i_add (i_var 3 rfl) i_int)) (g_loop (.k (.k (Sub.e ?_ (.n .nil)))))
          · cases u with
            | v x => exact absurd hj (by simp [Tm.args])
            | a f as =>
              show atI (.str f :: Tm.pys as) (((j : Nat) : Int) + 1) = some _
              have ej : ((j : Nat) : Int) + 1 = ((j + 1 : Nat) : Int) := by omega
              rw [ej]
              exact atI_nat (Tm.pys_at hu)
          · cases u with
            | v x => exact absurd hj (by simp [Tm.args])
            | a f as => rfl
          · exact e2.symm
  · have e : p.take (p.map fun i => PyData.int (i : Nat)).length = p := by rw [List.length_map, List.take_length]
    rw [e]
    cases hc : t.at p with
    | none => exact g_bad 2 (by show cur t p = bad; unfold cur; rw [hc])
    | some u =>
      have ec : cur t p = .im u.py := by unfold cur; rw [hc]
      rw [ec]
      exact g_retI (i_var 2 rfl) fun v H' b m => q1 u hc v H' b.nil m
end
end K86

namespace K86
open PySem PySem.Spec PyProof.Rows L2 G
section
variable {P : Program} {w : World} {K : PySem.W.Frag} {mg : Str → Option Value} {base : Heap}
/-! ### _law_start -/
abbrev sStart : Stmt := top 14
theorem scStart : FnScope ["_law_script", "_law_row", "_law_seed", "_law_k", "_law_cell", "_law_j", "_law_mixed"] ["_law_script"] (defScope sStart) := ⟨rfl, rfl, rfl, by decide +kernel, rfl, by decide +kernel, by decide +kernel⟩
def spStart (K : PySem.W.Frag) : Sp := fun vs H Q _ => ∃ (p : Addr) (xs : List V) (cs : List Int), vs = [.ref p] ∧ SqL K H p xs ∧ ImAll K H xs (cs.map .int) ∧ cs.length ≤ 63 ∧ ∀ a r H', Same H H' → H a = none → H r = none → StAt H' a r 0 → Q (.ref a) H'
theorem ok_start {f : Addr} {fd : FuncData} (F : Fun K "_law_start" "_law_start" sStart f fd) (mr : mg "range" = none) (ml : mg "len" = none) (ma : mg "abs" = none) (mi : mg "int" = none) : FnOk P w K mg base CX0 1 f fd ["_law_script"] (spStart K) := by
  refine mk_fn F scStart (fun vs H Q E ⟨p, xs, cs, e, _⟩ => by rw [e]; rfl) fun cdv A outer s H vs Q E hr ⟨p, xs, cs, e, hp, hx, hl, q⟩ => ?_
  subst e
  refine ⟨[], [.pl p (cs.map .int), .no, .no, .no, .no, .no, .no], R.start (Γ := [.pl p (cs.map .int)]) (n := 6) (.cons ⟨rfl, xs, hp, hx⟩ .nil) rfl (fun _ _ _ z => nomatch z), ?_⟩
  refine g_setL 1 MOk.nil scStart.nd rfl (l_lst a_nil) (g_set 2 scStart.nd rfl i_int ?_)
  refine g_forR1P 3 (fun i Γ => ∃ (row : List Int) (sd : Int), row.length ≤ 60 * i ∧ Γ = [.pl p (cs.map .int), .ls (row.map .int), .im (.int sd), .no, .no, .no, .no]) (fun _ => False) scStart.nd (fun i Γ ⟨row, sd, _, e⟩ => by rw [e]; rfl) PassesOwn.never rfl mr
    (i_lenQ ml (q_var 0 rfl)) (by rw [List.length_map]; omega) (by rw [List.length_map]; omega) (Sub.refl _) ⟨[], 17, Nat.zero_le _, rfl⟩ (fun i Γ hi ⟨row, sd, hrow, e⟩ => ?_) (fun Γ ⟨row, sd, hrow, e⟩ => ?_) (fun _ z => z.elim)
  · subst e
    rw [List.length_map, Int.toNat_natCast] at hi
    have hi' : i < cs.length := hi
    have hat : atI (cs.map PyData.int) ((i : Nat) : Int) = some (.int cs[i]) := atI_nat (by rw [List.getElem?_map, List.getElem?_eq_getElem hi']; rfl)
    refine g_set 4 scStart.nd rfl (i_abs ma (i_ixQ hat (q_var 0 rfl) (i_var 3 rfl))) ?_
    refine g_set 2 scStart.nd rfl (i_mod (by decide) (i_int1 mi (i_add (i_add (i_mul (.inr (by decide)) (i_var 2 rfl) i_int) (i_var 4 rfl)) (i_var 3 rfl))) i_int) ?_
    generalize (if cs[i] < 0 then -cs[i] else cs[i]) = cell
    refine g_if (t_ge (i_var 4 rfl) (i_pow (by exact ⟨by decide, by decide, by decide⟩) i_int i_int)) (fun k => ?_) (fun k => ?_)
    · refine g_set 4 scStart.nd rfl (i_sub (i_var 4 rfl) (i_pow (by exact ⟨by decide, by decide, by decide⟩) i_int i_int)) ?_
      refine g_forR1P 5 (fun j Γ => ∃ (row' : List Int) (c : Int), row'.length ≤ 60 * i + j ∧ Γ = [.pl p (cs.map .int), .ls (row'.map .int), .im (.int ((sd * 31 + cell + i) % 2147483647)), .no, .im (.int c), .no, .no]) (fun _ => False) scStart.nd (fun i Γ ⟨row, c, _, e⟩ => by rw [e]; rfl) PassesOwn.never rfl mr
        i_int (by decide) (by decide) (.k (.k (.k (.n (.k (.k (.k .nil))))))) ⟨row, _, hrow, rfl⟩ (fun j Γ hj ⟨row', c, hr', e⟩ => ?_) (fun Γ ⟨row', c, hr', e⟩ => ?_) (fun _ z => z.elim)
      · subst e
        have hj' : j < 60 := hj
        refine g_if (t_gt (i_var 4 rfl) i_int) (fun k => ?_) (fun k => g_on (g_loopP (.k (.k (.k (.k (.k (.n (.k .nil))))))) ⟨row', c, by omega, rfl⟩))
        refine g_append 1 rfl (by rw [List.length_map]; omega) (i_mod (by decide) (i_int1 mi (i_var 4 rfl)) i_int) ?_
        refine g_set 4 scStart.nd rfl (i_div (by exact ⟨by decide, by decide⟩) (i_var 4 rfl) i_int) (g_on (g_loopP (Γ' := [.pl p (cs.map .int), .ls ((row' ++ [c % 840]).map .int), .im (.int ((sd * 31 + cell + i) % 2147483647)), .no, .im (.int (c / 840)), .no, .no]) (.k (Sub.e (by rw [List.map_append]; rfl) (.k (.k (.k (.n (.k .nil))))))) ⟨row' ++ [c % 840], c / 840, by rw [List.length_append]; show row'.length + 1 ≤ _; omega, rfl⟩))
      · subst e
        exact g_on (g_loopP (.k (.k (.k (.k (.n (.k (.k .nil))))))) ⟨row', _, by have : (Int.toNat 60) = 60 := rfl; omega, rfl⟩)
    · refine g_set 6 scStart.nd rfl (i_mod (by decide) (i_int1 mi (i_add (i_mul (.inr (by decide)) (i_add (i_var 4 rfl) i_int) i_int) (i_mul (.inr (by decide)) (i_var 3 rfl) i_int))) i_int) ?_
      refine g_set 6 scStart.nd rfl (i_mod (by decide) (i_int1 mi (i_add (i_mul (.inr (by decide)) (i_var 6 rfl) i_int) i_int)) i_int) ?_
      generalize ((((cell + 1) * 48271 + (i : Nat) * 69621) % 2147483647) * 40692 + 5) % 2147483399 = mx
      refine g_append 1 rfl (by rw [List.length_map]; omega) (i_mod (by decide) (i_div (by exact ⟨by decide, by decide⟩) (i_var 6 rfl) i_int) i_int) (g_on ?_)
      exact g_loopP (Γ' := [.pl p (cs.map .int), .ls ((row ++ [mx / 13 % 840]).map .int), .im (.int ((sd * 31 + cell + i) % 2147483647)), .no, .no, .no, .no]) (.k (Sub.e (by rw [List.map_append]; rfl) (.k (.n (.n (.k (.n .nil))))))) ⟨row ++ [mx / 13 % 840], _, by rw [List.length_append]; show row.length + 1 ≤ _; omega, rfl⟩
  · subst e
    exact g_retSt 1 rfl i_int (i_var 2 rfl) MOk.nil rfl fun H' a r b h0 hr0 sa => q a r H' b.nil h0 hr0 sa
/-! ### _law_take -/
abbrev sTake : Stmt := top 15
theorem scTake : FnScope ["_law_state", "_law_many", "_law_at", "_law_mixed"] ["_law_state", "_law_many"] (defScope sTake) := ⟨rfl, rfl, rfl, by decide +kernel, rfl, by decide +kernel, by decide +kernel⟩
def ATake : List PyData → Nat → Prop := fun ds n => ∃ k : Nat, ds = [.int k] ∧ 0 < k ∧ n < 2 ^ 60
def BTake : List PyData → PyData → Prop := fun ds d => ∃ k i : Nat, ds = [.int k] ∧ i < k ∧ d = .int i
theorem ims_int {H : Hp} : ∀ row : List Int, ImAll K H (row.map V.int) (row.map PyData.int)
  | [] => .nil
  | c :: row => .cons (.int c) (ims_int row)
theorem BTake.of {k : Nat} (hk : 0 < k) (x : Int) : BTake [.int k] (.int (x % k)) := by
  have h1 : 0 ≤ x % (k : Int) := Int.emod_nonneg _ (by omega)
  have h2 : x % (k : Int) < k := Int.emod_lt_of_pos _ (by omega)
  exact ⟨k, (x % k).toNat, rfl, by omega, by rw [Int.toNat_of_nonneg h1]⟩
theorem ok_take {f : Addr} {fd : FuncData} (F : Fun K "_law_take" "_law_take" sTake f fd) (ml : mg "len" = none) (mi : mg "int" = none) : FnOk P w K mg base CX0 1 f fd ["_law_state", "_law_many"] (spS K ATake (fun _ => 1) BTake) := by
  refine mk_fn F scTake (fun vs H Q E ⟨a, q, n, ws, ds, e, _, m, ⟨k, e2, _⟩, _⟩ => by rw [e, List.length_cons, m.len, e2]; rfl) fun cdv A outer s H vs Q E hr ⟨a, q, n0, ws, ds, e, sa, m, ⟨k, e2, hk, hn⟩, k1⟩ => ?_
  subst e e2
  refine ⟨[a], [.st a q n0, .im (.int k), .no, .no], R.startS (Γ := [.im (.int k)]) (n := 2) sa List.mem_cons_self (SlotVs.ims m) (by rw [m.len]; rfl) (fun _ _ z => by simp at z), fun g σ H1 D' r im => ?_⟩
  obtain ⟨e0, h0, row, n, sd, h1, h2, h3, h4⟩ := r.st (i := 0) rfl
  refine wS.of' (ps_set (i := 2) scTake.nd rfl (Or.inl rfl) pe_w rfl (.inl rfl)) ?_
  refine wE.of (pe_ix ix_list (pe_var (i := 0) rfl (Or.inl rfl) (by decide) (by decide)) pe_int (fun _ _ => rfl)) ⟨_, e0, a, _, 1, .int n, rfl, rfl, SqL.of h1, rfl, ?_⟩
  have r1 := r.setIm (i := 2) (v := .int n) (d := .int n) (Same.refl H1) (by show 2 < 4; decide) (.int n)
  refine wS.of' (ps_asg pe_w (pg_sub (pe_var (i := 0) rfl (Or.inl rfl) (by decide) (by decide)) pe_w set_list)) ?_
  refine i_add (i := n) (j := 1) (i_var 2 rfl) i_int g _ H1 _ r1 fun v H2 s2 m2 => ?_
  have r2 := r1.same s2
  obtain ⟨e2', _⟩ := r2.st (i := 0) rfl
  refine ⟨_, e2', (i_int (X := CxN P w K mg base _ _ _ _ _ _ _ _ _ _) (Γ := [.st a q n0, .im (.int k), .im (.int n), .no]) (H0 := H) (M := [a])) g _ H2 _ r2 fun u H3 s3 m3 => ?_⟩
  have hH3 : H3 a = some (.lst [.ref q, .int n, .int sd]) := s3 _ _ (s2 _ _ h1)
  refine ⟨a, _, 1, 1, rfl, m3.int_inv, hH3, rfl, ?_⟩
  have r3 := r2.same s3
  have ev := m2.int_inv
  subst ev
  generalize hH4 : upd H3 a (.lst ([V.ref q, .int n, .int sd].set 1 (.int (n + 1)))) = H4
  have b34 : But [a] H3 H4 := fun b o hb ho => by
    rw [← hH4, upd_ne (fun z => hb (by rw [z]; exact List.mem_cons_self))]; exact ho
  have q4 : H4 q = some (.lst (row.map V.int)) := b34 _ _ (by simpa using Ne.symm h0) (s3 _ _ (s2 _ _ h2))
  have a4 : H4 a = some (.lst [.ref q, .int (n + 1), .int sd]) := by rw [← hH4]; exact upd_same
  have r4 := r3.updSt (i := 0) (c := n0 + 1) rfl b34 ⟨h0, row, n + 1, sd, a4, q4, by omega, by omega⟩
  have gw4 : Gw H1 H4 := ((Same.gw s2).trans (Same.gw s3)).trans ⟨fun b xs z => b34 b _ (fun m => by
      have : b = a := by simpa using m
      subst this; rw [hH3] at z; cases z) z, fun b o u z => b34 b _ (fun m => by
      have : b = a := by simpa using m
      subst this; rw [hH3] at z; cases z) z⟩
  refine w_fix (Γ := [.st a q (n0 + 1), .im (.int k), .im (.int n), .no]) r4 ?_
  have fin : ∀ x v H', Same H4 H' → Im K H' v (.int (x % (k : Int))) → D'.rt v H' := fun x v H' s4 m4 =>
    im.rt v H' ⟨gw4.trans (Same.gw s4), (r4.same s4).kept⟩ (k1 v _ H' (r4.same s4).but ⟨h0, row, n + 1, sd, s4 _ _ a4, s4 _ _ q4, by show 0 ≤ n + 1; omega, by show n + 1 ≤ ((n0 + 1 : Nat) : Int); omega⟩ (BTake.of hk x) m4)
  have mrow : ImAll K H4 (row.map V.int) (row.map PyData.int) := ims_int row
  refine g_if (t_lt (i_var 2 rfl) (i_lenO ml (o_ixB 0 rfl a4 (i := 0) rfl q4 mrow i_int))) (fun k' => ?_) (fun k' => g_on ?_)
  · have k2 : n < (row.map PyData.int).length := by simpa using k'
    rw [List.length_map] at k2
    have hat : atI (row.map PyData.int) n = some (.int row[n.toNat]) := by
      have : atI (row.map PyData.int) ((n.toNat : Nat) : Int) = some (.int (row[n.toNat]'(by omega))) := atI_nat (by rw [List.getElem?_map, List.getElem?_eq_getElem (by omega)]; rfl)
      rwa [Int.toNat_of_nonneg h3] at this
    exact g_retI (i_mod (by omega) (i_int1 mi (i_ixO hat (o_ixB 0 rfl a4 (i := 0) rfl q4 mrow i_int) (i_var 2 rfl))) (i_var 1 rfl)) fun v H' b m => fin _ v H' b.nil m
  · have c1 : CMul n n := .inl ⟨by omega, by omega⟩
    refine g_set 3 scTake.nd rfl (i_mod (by decide) (i_int1 mi (i_mul (.inr (by decide)) (i_add (i_ixB 0 rfl a4 (i := 2) rfl (.int sd) i_int) (i_mul (.inr (by decide)) (i_var 2 rfl) i_int)) i_int)) i_int) ?_
    refine g_set 3 scTake.nd rfl (i_mod (by decide) (i_int1 mi (i_add (i_mul (.inr (by decide)) (i_var 3 rfl) i_int) (i_mul c1 (i_var 2 rfl) (i_var 2 rfl)))) i_int) ?_
    exact g_retI (i_mod (by omega) (i_div (by exact ⟨by decide, by decide⟩) (i_var 3 rfl) i_int) (i_var 1 rfl)) fun v H' b m => fin _ v H' b.nil m
end
end K86

namespace K86
open PySem PySem.Spec PyProof.Rows L2 G
/-! ### mathematics -/
theorem Tm.pys_set (w : Tm) : ∀ (as : List Tm) (i : Nat), Tm.pys (as.set i w) = (Tm.pys as).set i w.py
  | [], _ => rfl
  | t :: ts, 0 => rfl
  | t :: ts, i + 1 => congrArg (t.py :: ·) (Tm.pys_set w ts i)
theorem eqv_int (a b : Int) : PyData.eqv (.int a) (.int b) = decide (a = b) := by
  simp [PyData.eqv]
  rfl
theorem ixN_lt {n j : Nat} (hj : j < n) : ixN n (j : Int) = some j := by
  unfold ixN
  rw [if_pos (by omega), if_pos (by omega), Int.toNat_natCast]
theorem dep_int {i : Int} : (PyData.int i).depth ≤ 64 := by rw [PyData.depth]; exact Nat.zero_le _
theorem at0 {d : PyData} {ds : List PyData} : atI (d :: ds) 0 = some d := atI_nat (j := 0) rfl
theorem eqvAll_refl {ds : List PyData} (h : PyData.plainAll ds = true) : PyData.eqvAll ds ds = true := by
  have := SeqAt.eqv_refl_plain (.tuple ds) (by simpa [PyData.plain] using h)
  rwa [PyData.eqv] at this
mutual
theorem Tm.py_plain : ∀ t : Tm, t.py.plain = true
  | .v x => rfl
  | .a f as => by
    show PyData.plainAll (.str f :: Tm.pys as) = true
    show ((PyData.str f).plain && PyData.plainAll (Tm.pys as)) = true
    rw [Tm.pys_plain as]; rfl
theorem Tm.pys_plain : ∀ ts : List Tm, PyData.plainAll (Tm.pys ts) = true
  | [] => rfl
  | t :: ts => by
    show (t.py.plain && PyData.plainAll (Tm.pys ts)) = true
    rw [Tm.py_plain t, Tm.pys_plain ts]; rfl
end
theorem Tm.py_eq (t : Tm) : PyData.eqv t.py t.py = true := SeqAt.eqv_refl_plain _ t.py_plain
theorem Tm.put_py {f : Str} {as : List Tm} {i : Nat} (w : Tm) (h : i < as.length) : ((PyData.str f :: Tm.pys as).take (i + 1) ++ [w.py]) ++ (PyData.str f :: Tm.pys as).drop (i + 2) = .str f :: Tm.pys (as.set i w) := by
  rw [Tm.pys_set, List.set_eq_take_append_cons_drop, if_pos (by rw [Tm.pys_len]; exact h)]
  simp
theorem Tm.args_lt {t : Tm} {i : Nat} (h : i < t.args.length) : ∃ f as, t = .a f as ∧ i < as.length := by
  cases t with
  | v x => exact absurd h (Nat.not_lt_zero _)
  | a f as => exact ⟨f, as, rfl, h⟩
section
variable {P : Program} {w : World} {K : PySem.W.Frag} {mg : Str → Option Value} {base : Heap} {C : Addr}
/-! ### replace_at -/
abbrev sRep : Stmt := top 6
theorem scRep : FnScope ["term", "place", "part", "index", "argument"] ["term", "place", "part"] (defScope sRep) := ⟨rfl, rfl, rfl, by decide +kernel, rfl, by decide +kernel, by decide +kernel⟩
def spRep (K : PySem.W.Frag) (C : Addr) (n : Nat) : Sp := fun vs H Q E => ∃ (t : Tm) (p : Pl) (u : Tm), ImAll K H vs [t.py, pl p, u.py] ∧ t.dep ≤ n ∧ t.size ≤ 1000 ∧ p.length ≤ 1000 ∧ (∀ t', Tm.put u t p = some t' → ∀ v H', Same H H' → Im K H' v t'.py → Q v H') ∧ (t.at p = none → ∀ H', Same H H' → E (.ref C) none H')
theorem ok_rep {f : Addr} {fd : FuncData} (F : Fun K "replace_at" "replace_at" sRep f fd) (ml : mg "len" = none) (hC : Has P w K mg base (L2.CX P w) 2 "_check_index" ["part", "index"] (spChk K C)) (n : Nat) (ih : ∀ m, m < n → Has P w K mg base (L2.CX P w) (m + 3) "replace_at" ["term", "place", "part"] (spRep K C m)) :
    FnOk P w K mg base (L2.CX P w) (n + 3) f fd ["term", "place", "part"] (spRep K C n) := by
  refine mk_fnX F scRep (fun vs H Q E ⟨t, p, u, m, _⟩ => m.len) fun cdv A outer s H vs Q E hr ⟨t, p, u, m, hd, hz, hp, q1, q2⟩ => ?_
  refine ⟨[], [.im t.py, .im (pl p), .im u.py, .no, .no], R.start (n := 2) (SlotVs.ims m) (by rw [m.len]; rfl) (fun _ _ z => by simp at z), ?_⟩
  cases p with
  | nil =>
    refine g_if (k := true) ((t_eq hr dep_int (i_lenT ml (i_var 1 rfl)) i_int).to (by rw [eqv_int]; rfl)) (fun _ => ?_) (fun z => nomatch z)
    exact g_retI (i_var 2 rfl) fun v H' b m => q1 u (by cases t <;> rfl) v H' b.nil m
  | cons i p =>
    refine g_if (k := false) ((t_eq hr dep_int (i_lenT ml (i_var 1 rfl)) i_int).to (by rw [eqv_int, List.length_map, List.length_cons]; exact decide_eq_false (by omega))) (fun z => nomatch z) (fun _ => g_on ?_)
    refine g_set 3 scRep.nd rfl (i_ixT (d := .int (i : Nat)) at0 (i_var 1 rfl) i_int) ?_
    refine g_exprP (φ := i < t.args.length) (e_callS (takes_of rfl rfl rfl rfl) hC hr (by omega) (a_cons (i_var 0 rfl) (a_cons (i_var 3 rfl) a_nil)) fun g σ H1 H2 vs Q' r s m k => ?_) (fun hj => ?_)
    · refine ⟨t, (i : Nat), m, fun hz H' s' => k _ H' s' (by omega), fun hz H' s' => q2 ?_ H' ((r.same s).but.nil.trans s')⟩
      show (match t.args[i]? with | some u => u.at p | none => none) = none
      rw [List.getElem?_eq_none (by omega)]
    · obtain ⟨fn, as, rfl, hj'⟩ := Tm.args_lt hj
      have hz1 : Tm.sizes as + 1 ≤ 1000 := by have : 1 + Tm.sizes as ≤ 1000 := hz; omega
      have hq : as[i]? = some as[i] := List.getElem?_eq_getElem hj'
      obtain ⟨a1, a2⟩ := And.intro (Tm.dep_arg hq) (Tm.size_arg hq)
      have hd1 : 1 + Tm.deps as ≤ n := hd
      have hl : as.length ≤ Tm.sizes as := by
        have key : ∀ l : List Tm, l.length ≤ Tm.sizes l := by
          intro l
          induction l with
          | nil => exact Nat.le_refl _
          | cons z l ihl =>
            show l.length + 1 ≤ z.size + Tm.sizes l
            have : 0 < z.size := by cases z with
              | v _ => exact Nat.zero_lt_one
              | a _ as => show 0 < 1 + Tm.sizes as; omega
            omega
        exact key as
      have hat : atI (PyData.str fn :: Tm.pys as) (((i : Nat) : Int) + 1) = some as[i].py := by
        have ej : ((i : Nat) : Int) + 1 = ((i + 1 : Nat) : Int) := by omega
        rw [ej]
        exact atI_nat (Tm.pys_at hq)
      cases hw : Tm.put u as[i] p with
      | some w' =>
        refine g_set 4 (d := w'.py) scRep.nd rfl (e_callS (takes_of rfl rfl rfl rfl) (ih (n - 1) (by omega)) hr (by omega)
          (a_cons (i_ixT hat (i_var 0 rfl) (i_add (i_var 3 rfl) i_int)) (a_cons ((i_slT (i_var 1 rfl) (part_some i_int) part_none).to (congrArg PyData.tuple (cutD_from _ 1))) (a_cons (i_var 2 rfl) a_nil))) fun g σ H1 H2 vs Q' r s m k => ?_) ?_
        · refine ⟨as[i], p, u, m, by omega, by omega, by rw [List.length_cons] at hp; omega, fun t' ht v H' s' m' => ?_, fun hn => ?_⟩
          · rw [hw] at ht
            cases ht
            exact k v H' s' m'
          · rw [Tm.put_none hn] at hw; cases hw
        · have c1 := cutD_to (PyData.str fn :: Tm.pys as) (i + 1)
          have c2 := cutD_from (PyData.str fn :: Tm.pys as) (i + 2)
          refine g_retI ((i_catT (ds := (PyData.str fn :: Tm.pys as).take (i + 1) ++ [w'.py]) (es := (PyData.str fn :: Tm.pys as).drop (i + 2)) ?_ (i_catT (ds := (PyData.str fn :: Tm.pys as).take (i + 1)) (es := [w'.py]) ?_ ((i_slT (i_var 0 rfl) part_none (part_some (i_add (i_var 3 rfl) i_int))).to (congrArg PyData.tuple c1)) (i_tup (a_cons (i_var 4 rfl) a_nil))) ((i_slT (i_var 0 rfl) (part_some (i_add (i_var 3 rfl) i_int)) part_none).to (congrArg PyData.tuple c2))).to
            (congrArg PyData.tuple (Tm.put_py w' hj'))) fun v H' b m => q1 (.a fn (as.set i w')) ?_ v H' b.nil m
          · simp only [List.length_append, List.length_take, List.length_drop, List.length_cons, List.length_nil, Tm.pys_len]; omega
          · simp only [List.length_take, List.length_cons, List.length_nil, Tm.pys_len]; omega
          · show (match as[i]? with | some w => (match Tm.put u w p with | some w' => some (Tm.a fn (as.set i w')) | none => none) | none => none) = _
            rw [hq]
            dsimp only
            rw [hw]
      | none =>
        have hn : as[i].at p = none := by
          cases q : as[i].at p with
          | none => rfl
          | some z =>
            obtain ⟨t', e, _⟩ := Tm.put_some (u := u) q
            rw [hw] at e; cases e
        refine g_set 4 (d := .list []) scRep.nd rfl (e_callS (takes_of rfl rfl rfl rfl) (ih (n - 1) (by omega)) hr (by omega)
          (a_cons (i_ixT hat (i_var 0 rfl) (i_add (i_var 3 rfl) i_int)) (a_cons ((i_slT (i_var 1 rfl) (part_some i_int) part_none).to (congrArg PyData.tuple (cutD_from _ 1))) (a_cons (i_var 2 rfl) a_nil))) fun g σ H1 H2 vs Q' r s m k => ?_) (g_bad 4 rfl)
        refine ⟨as[i], p, u, m, by omega, by omega, by rw [List.length_cons] at hp; omega, fun t' ht => ?_, fun hn H' s' => q2 ?_ H' ((r.same s).but.nil.trans s')⟩
        · rw [hw] at ht; cases ht
        · show (match as[i]? with | some u => u.at p | none => none) = none
          rw [hq]
          exact hn
/-! ### _law_places -/
abbrev sLPl : Stmt := top 17
theorem scLPl : FnScope ["_law_term_here", "_law_places_here", "_law_k", "_law_place"] ["_law_term_here"] (defScope sLPl) := ⟨rfl, rfl, rfl, by decide +kernel, rfl, by decide +kernel, by decide +kernel⟩
theorem ok_lpl {f : Addr} {fd : FuncData} (F : Fun K "_law_places" "_law_places" sLPl f fd) (mI : mg "isinstance" = none) (mS : mg "str" = none) (mr : mg "range" = none) (ml : mg "len" = none) (n : Nat) (ih : ∀ m, m < n → Has P w K mg base CX0 (m + 1) "_law_places" ["_law_term_here"] (spL K (APl m))) :
    FnOk P w K mg base CX0 (n + 1) f fd ["_law_term_here"] (spL K (APl n)) := by
  refine mk_fn F scLPl (lenL (n := 1) fun ds d ⟨t, e, _⟩ => by rw [e]; rfl) fun cdv A outer s H vs Q E hr ⟨ds, d, m, ⟨t, e1, hd, hz, e2⟩, q⟩ => ?_
  subst e1 e2
  refine ⟨[], [.im t.py, .no, .no, .no], R.start (n := 3) (SlotVs.ims m) (by rw [m.len]; rfl) (fun _ _ z => by simp at z), ?_⟩
  refine g_setL 1 MOk.nil scLPl.nd rfl (l_lst (a_cons (i_tup a_nil) a_nil)) ?_
  cases t with
  | v x =>
    refine g_if (k := false) (t_not (x := true) (t_val (i_isi (T := "str") mI (v_bltn mS (by decide +kernel) rfl) (i_var 0 rfl) k_ss))) (fun z => nomatch z) (fun _ => g_on ?_)
    exact g_retO 1 rfl fun H' p us b h0 hp mm => q p us H' b.nil h0 hp mm
  | a fn as =>
    have hd1 : 1 + Tm.deps as ≤ n := hd
    have hz1 : 1 + Tm.sizes as ≤ 1000 := hz
    have hl := Tm.placesL_len 0 as
    have hl2 : as.length ≤ Tm.sizes as := by
      have key : ∀ l : List Tm, l.length ≤ Tm.sizes l := by
        intro l
        induction l with
        | nil => exact Nat.le_refl _
        | cons z l ihl =>
          show l.length + 1 ≤ z.size + Tm.sizes l
          have : 0 < z.size := by cases z with
            | v _ => exact Nat.zero_lt_one
            | a _ as => show 0 < 1 + Tm.sizes as; omega
          omega
      exact key as
    refine g_if (k := true) (t_not (x := false) (t_val (i_isi (T := "str") mI (v_bltn mS (by decide +kernel) rfl) (i_var 0 rfl) k_ts))) (fun _ => ?_) (fun z => nomatch z)
    refine g_forR2 2 (lo := 1) (n := ((PyData.str fn :: Tm.pys as).length : Int)) (fun i => [.im (Tm.a fn as).py, .ls (pl [] :: (Tm.placesL 0 (as.take i)).map pl), .no, .no]) (fun _ => False) scLPl.nd (fun _ => rfl) PassesOwn.never rfl mr i_int (i_lenT ml (i_var 0 rfl))
      (by rw [List.length_cons, Tm.pys_len]; omega) (.k (.k (.k (.k .nil)))) (fun i hi => ?_) (g_on ?_) (fun _ z => z.elim)
    · rw [List.length_cons, Tm.pys_len] at hi
      have hi' : i < as.length := by omega
      have hq : as[i]? = some as[i] := List.getElem?_eq_getElem hi'
      obtain ⟨a1, a2⟩ := And.intro (Tm.dep_arg hq) (Tm.size_arg hq)
      have zk := Tm.sizes_take as i
      have hat : atI (PyData.str fn :: Tm.pys as) (1 + ((i : Nat) : Int)) = some as[i].py := by
        have ej : 1 + ((i : Nat) : Int) = ((i + 1 : Nat) : Int) := by omega
        rw [ej]
        exact atI_nat (Tm.pys_at hq)
      refine g_setL 1 MOk.nil scLPl.nd rfl (l_cat (es := (as[i].places.map fun p => i :: p).map pl) ?_ (o_var 1 rfl) (EL.o ?_)) (g_loop (Sub.k (Sub.e ?_ (.n (.k .nil)))))
      · simp only [List.length_cons, List.length_map, Tm.placesL_len, Tm.places_len]; omega
      · refine l_lc (i := 3) (ds := as[i].places.map pl) rfl scLPl.nd (pi_list pe_w) (src_new (l_call (ih (n - 1) (by omega)) hr (by omega) ⟨as[i], rfl, by omega, by omega, rfl⟩ (a_cons (i_ixT hat (i_var 0 rfl) (i_var 2 rfl)) a_nil))) (by simp) (by simp [Tm.places_len]; omega) MOk.nil
          (fun k d f hk hf s' H' C cl fp => ?_) (blkOk_by (N := ["_law_term_here", "_law_places_here", "_law_k", "_law_place"]) (sc := defScope sLPl) (by decide +kernel)) (fun _ _ _ _ _ => pg_name scLPl.nd rfl (Or.inl rfl)) (by show 3 < 4; decide) rfl
        rw [List.getElem?_map, List.getElem?_map] at hf
        rw [List.getElem?_map] at hk
        cases hp : as[i].places[k]? with
        | none => rw [hp] at hk; cases hk
        | some p =>
          rw [hp] at hk hf
          cases hk; cases hf
          have e1 : (1 : Int) + ((i : Nat) : Int) - 1 = ((i : Nat) : Int) := by omega
          refine (i_catT (ds := [.int (i : Nat)]) (es := p.map fun i => .int (i : Nat)) ?_ ((i_tup (a_cons (i_sub (i_var 2 rfl) i_int) a_nil)).to (by rw [e1])) (i_var 3 rfl)).to rfl
          have := Tm.places_short as[i] p (List.mem_of_getElem? hp)
          simp only [List.length_cons, List.length_nil, List.length_map]
          omega
      · rw [Tm.placesL_more hq, List.map_append]
        rfl
    · refine g_retO 1 rfl fun H' p us b h0 hp mm => q p us H' b.nil h0 hp ?_
      have e : as.take (((PyData.str fn :: Tm.pys as).length : Int) - 1).toNat = as := by
        rw [List.length_cons, Tm.pys_len, show ((as.length + 1 : Nat) : Int) - 1 = (as.length : Nat) by omega, Int.toNat_natCast, List.take_length]
      rw [e] at mm
      exact mm
/-! ### _law_part -/
abbrev sLPa : Stmt := top 18
theorem scLPa : FnScope ["_law_term_here", "_law_place", "_law_k"] ["_law_term_here", "_law_place"] (defScope sLPa) := ⟨rfl, rfl, rfl, by decide +kernel, rfl, by decide +kernel, by decide +kernel⟩
def APart : List PyData → PyData → Prop := fun ds d => ∃ (t : Tm) (p : Pl) (u : Tm), ds = [t.py, pl p] ∧ t.at p = some u ∧ d = u.py
theorem ok_lpa {f : Addr} {fd : FuncData} (F : Fun K "_law_part" "_law_part" sLPa f fd) : FnOk P w K mg base CX0 1 f fd ["_law_term_here", "_law_place"] (spI K APart) := by
  refine mk_fn F scLPa (len1 (n := 2) fun ds d ⟨t, p, u, e, _⟩ => by rw [e]; rfl) fun cdv A outer s H vs Q E hr ⟨ds, d, m, ⟨t, p, u, e1, hu, e2⟩, q⟩ => ?_
  subst e1 e2
  refine ⟨[], [.im t.py, .im (pl p), .no], R.start (n := 1) (SlotVs.ims m) (by rw [m.len]; rfl) (fun _ _ z => by simp at z), ?_⟩
  refine g_forT 2 (ds := p.map fun i => .int (i : Nat)) (fun i => [cur t (p.take i), .im (pl p), .no]) (fun _ => False) scLPa.nd (fun _ => rfl) PassesOwn.never rfl (i_var 1 rfl) (.k (.k (.k .nil))) (fun i d hi => ?_) ?_ (fun _ z => z.elim)
  · rw [List.getElem?_map] at hi
    cases hp : p[i]? with
    | none => rw [hp] at hi; cases hi
    | some j =>
      rw [hp] at hi
      cases hi
      have nx := Tm.at_snoc (p.take i) t j
      rw [← take_more hp] at nx
      obtain ⟨z, hz⟩ := Tm.at_take hu i
      obtain ⟨z', hz'⟩ := Tm.at_take hu (i + 1)
      rw [hz'] at nx
      rw [hz] at nx
      have nx' : z.args[j]? = some z' := nx.symm
      have ec : cur t (p.take i) = .im z.py := by unfold cur; rw [hz]
      have e2 : cur t (p.take (i + 1)) = .im z'.py := by unfold cur; rw [hz']
      obtain ⟨fn, as, rfl, hj⟩ := Tm.args_lt (List.getElem?_eq_some_iff.mp nx').1
      rw [ec]
      refine g_set 0 scLPa.nd rfl (i_ixT (ds := .str fn :: Tm.pys as) (d := z'.py) ?_ (i_var 0 rfl) (i_add (i_var 2 rfl) i_int)) (g_loop (Sub.e e2.symm (.k (.n .nil))))
      have ej : ((j : Nat) : Int) + 1 = ((j + 1 : Nat) : Int) := by omega
      rw [ej]
      exact atI_nat (Tm.pys_at nx')
  · have e : p.take (p.map fun i => PyData.int (i : Nat)).length = p := by rw [List.length_map, List.take_length]
    rw [e]
    have ec : cur t p = .im u.py := by unfold cur; rw [hu]
    rw [ec]
    exact g_retI (i_var 0 rfl) fun v H' b m => q v H' b.nil m
/-! ### _law_put -/
abbrev sLPu : Stmt := top 19
theorem scLPu : FnScope ["_law_term_here", "_law_place", "_law_part_here", "_law_row"] ["_law_term_here", "_law_place", "_law_part_here"] (defScope sLPu) := ⟨rfl, rfl, rfl, by decide +kernel, rfl, by decide +kernel, by decide +kernel⟩
def APut (n : Nat) : List PyData → PyData → Prop := fun ds d => ∃ (t : Tm) (p : Pl) (u z : Tm), ds = [t.py, pl p, u.py] ∧ t.dep ≤ n ∧ Tm.put u t p = some z ∧ d = z.py
theorem ok_lpu {f : Addr} {fd : FuncData} (F : Fun K "_law_put" "_law_put" sLPu f fd) (ml : mg "len" = none) (mL : mg "list" = none) (mT : mg "tuple" = none) (n : Nat) (ih : ∀ m, m < n → Has P w K mg base CX0 (m + 1) "_law_put" ["_law_term_here", "_law_place", "_law_part_here"] (spI K (APut m))) :
    FnOk P w K mg base CX0 (n + 1) f fd ["_law_term_here", "_law_place", "_law_part_here"] (spI K (APut n)) := by
  refine mk_fn F scLPu (len1 (n := 3) fun ds d ⟨t, p, u, z, e, _⟩ => by rw [e]; rfl) fun cdv A outer s H vs Q E hr ⟨ds, d, m, ⟨t, p, u, z, e1, hd, hz, e2⟩, q⟩ => ?_
  subst e1 e2
  refine ⟨[], [.im t.py, .im (pl p), .im u.py, .no], R.start (n := 1) (SlotVs.ims m) (by rw [m.len]; rfl) (fun _ _ z => by simp at z), ?_⟩
  cases p with
  | nil =>
    refine g_if (k := true) ((t_eq hr dep_int (i_lenT ml (i_var 1 rfl)) i_int).to (by rw [eqv_int]; rfl)) (fun _ => ?_) (fun z => nomatch z)
    have e : u = z := Option.some.inj (by cases t <;> exact hz)
    subst e
    exact g_retI (i_var 2 rfl) fun v H' b m => q v H' b.nil m
  | cons i p =>
    refine g_if (k := false) ((t_eq hr dep_int (i_lenT ml (i_var 1 rfl)) i_int).to (by rw [eqv_int, List.length_map, List.length_cons]; exact decide_eq_false (by omega))) (fun z => nomatch z) (fun _ => g_on ?_)
    cases t with
    | v x => cases hz
    | a fn as =>
      have hz' : (match as[i]? with | some w => (match Tm.put u w p with | some w' => some (Tm.a fn (as.set i w')) | none => none) | none => none) = some z := hz
      cases hq : as[i]? with
      | none => rw [hq] at hz'; cases hz'
      | some y =>
        rw [hq] at hz'
        dsimp only at hz'
        cases hw : Tm.put u y p with
        | none => rw [hw] at hz'; cases hz'
        | some y' =>
          rw [hw] at hz'
          have e := Option.some.inj hz'
          subst e
          have hi := (List.getElem?_eq_some_iff.mp hq).1
          have hd1 : 1 + Tm.deps as ≤ n := hd
          have a1 := Tm.dep_arg hq
          have ej : ((i : Nat) : Int) + 1 = ((i + 1 : Nat) : Int) := by omega
          have hat : atI (PyData.str fn :: Tm.pys as) (((i : Nat) : Int) + 1) = some y.py := by
            rw [ej]
            exact atI_nat (Tm.pys_at hq)
          have hix : ixN (PyData.str fn :: Tm.pys as).length (((i : Nat) : Int) + 1) = some (i + 1) := by
            rw [ej]
            exact ixN_lt (by rw [List.length_cons, Tm.pys_len]; omega)
          refine g_setL 3 MOk.nil scLPu.nd rfl (l_ofT mL (i_var 0 rfl)) ?_
          refine g_item 3 rfl hix (i_call (ih (n - 1) (by omega)) hr (by omega) ⟨y, p, u, y', rfl, by omega, hw, rfl⟩ (a_cons (i_ixO hat (o_var 3 rfl) (i_add (i_ixT (d := .int (i : Nat)) at0 (i_var 1 rfl) i_int) i_int)) (a_cons ((i_slT (i_var 1 rfl) (part_some i_int) part_none).to (congrArg PyData.tuple (cutD_from _ 1))) (a_cons (i_var 2 rfl) a_nil))))
            (i_add (i_ixT (d := .int (i : Nat)) at0 (i_var 1 rfl) i_int) i_int) ?_
          refine g_retI ((i_tupO mT (o_var 3 rfl)).to ?_) fun v H' b m => q v H' b.nil m
          show PyData.tuple (.str fn :: (Tm.pys as).set i y'.py) = .tuple (.str fn :: Tm.pys (as.set i y'))
          rw [Tm.pys_set]
end
end K86

namespace K86
open PySem PySem.Spec PyProof.Rows L2 G
section
variable {P : Program} {w : World} {K : PySem.W.Frag} {mg : Str → Option Value} {base : Heap} {C : Addr}
/-! ### _law_term -/
abbrev sTerm : Stmt := top 16
theorem scTerm : FnScope ["_law_state", "_law_depth", "_law_kind", "_law_leaves"] ["_law_state", "_law_depth"] (defScope sTerm) := ⟨rfl, rfl, rfl, by decide +kernel, rfl, by decide +kernel, by decide +kernel⟩
def tk : Nat → Nat
  | 0 => 2
  | d + 1 => 2 + 3 * tk d
def sz : Nat → Nat
  | 0 => 1
  | d + 1 => 1 + 3 * sz d
theorem tk_pos : ∀ d, 2 ≤ tk d
  | 0 => Nat.le_refl _
  | d + 1 => Nat.le_add_right _ _
theorem sz_pos : ∀ d, 1 ≤ sz d
  | 0 => Nat.le_refl _
  | d + 1 => Nat.le_add_right _ _
def shortN : Tm → Bool
  | .v x => decide (x.length ≤ 100)
  | _ => true
structure Drawn (d : Nat) (t : Tm) : Prop where
  dep : t.dep ≤ d + 1
  size : t.size ≤ sz d
  short : t.parts.all shortN = true
def ATm (n : Nat) : List PyData → Nat → Prop := fun ds m => ∃ d : Nat, ds = [.int d] ∧ d ≤ n ∧ m + tk d < 2 ^ 60
def cTm : List PyData → Nat
  | [.int d] => tk d.toNat
  | _ => 0
def BTm : List PyData → PyData → Prop := fun ds r => ∃ (d : Nat) (t : Tm), ds = [.int d] ∧ r = t.py ∧ Drawn d t
theorem cTm_nat (d : Nat) : cTm [.int (d : Nat)] = tk d := by show tk ((d : Nat) : Int).toNat = tk d; rw [Int.toNat_natCast]
theorem leaf_at (i d : Nat) (h : i < 6) : ∃ t : Tm, atI [PyData.str "x", .str "y", .str "z9", .tuple [.str "a"], .tuple [.str "b"], .tuple [.str "longname12"]] ((i : Nat) : Int) = some t.py ∧ Drawn d t := by
  have hp := sz_pos d
  have c : i = 0 ∨ i = 1 ∨ i = 2 ∨ i = 3 ∨ i = 4 ∨ i = 5 := by omega
  rcases c with h | h | h | h | h | h <;> subst h
  · exact ⟨.v "x", rfl, Nat.zero_le _, hp, by decide⟩
  · exact ⟨.v "y", rfl, Nat.zero_le _, hp, by decide⟩
  · exact ⟨.v "z9", rfl, Nat.zero_le _, hp, by decide⟩
  · exact ⟨.a "a" [], rfl, Nat.le_add_left _ _, hp, by decide⟩
  · exact ⟨.a "b" [], rfl, Nat.le_add_left _ _, hp, by decide⟩
  · exact ⟨.a "longname12" [], rfl, Nat.le_add_left _ _, hp, by decide⟩
theorem Drawn.app (g : Str) {d : Nat} {ts : List Tm} (h : ∀ t, t ∈ ts → Drawn d t) (hl : ts.length ≤ 3) : Drawn (d + 1) (.a g ts) := by
  have key : Tm.deps ts ≤ d + 1 ∧ Tm.sizes ts ≤ ts.length * sz d ∧ (Tm.partsL ts).all shortN = true := by
    clear hl
    induction ts with
    | nil => exact ⟨Nat.zero_le _, Nat.zero_le _, rfl⟩
    | cons t ts ih =>
      obtain ⟨a, b, c⟩ := ih fun u hu => h u (List.mem_cons_of_mem _ hu)
      have z := h t List.mem_cons_self
      refine ⟨Nat.max_le.mpr ⟨z.dep, a⟩, ?_, ?_⟩
      · show t.size + Tm.sizes ts ≤ (ts.length + 1) * sz d
        have := z.size
        rw [Nat.add_mul]; omega
      · show (t.parts ++ Tm.partsL ts).all shortN = true
        rw [List.all_append, z.short, c]; rfl
  obtain ⟨a, b, c⟩ := key
  refine ⟨?_, ?_, ?_⟩
  · show 1 + Tm.deps ts ≤ d + 1 + 1; omega
  · show 1 + Tm.sizes ts ≤ 1 + 3 * sz d
    have : ts.length * sz d ≤ 3 * sz d := Nat.mul_le_mul_right _ hl
    omega
  · show (Tm.a g ts :: Tm.partsL ts).all shortN = true
    rw [List.all_cons, c]; rfl
theorem ok_term {f : Addr} {fd : FuncData} (F : Fun K "_law_term" "_law_term" sTerm f fd) (hT : Has P w K mg base CX0 1 "_law_take" ["_law_state", "_law_many"] (spS K ATake (fun _ => 1) BTake)) (n : Nat) (ih : ∀ m, m < n → Has P w K mg base CX0 (m + 2) "_law_term" ["_law_state", "_law_depth"] (spS K (ATm m) cTm BTm)) :
    FnOk P w K mg base CX0 (n + 2) f fd ["_law_state", "_law_depth"] (spS K (ATm n) cTm BTm) := by
  refine mk_fn F scTerm (fun vs H Q E ⟨a, q, n, ws, ds, e, _, m, ⟨k, e2, _⟩, _⟩ => by rw [e, List.length_cons, m.len, e2]; rfl) fun cdv A outer s H vs Q E hr ⟨a, q, m0, ws, ds, e, sa, m, ⟨d, e2, hd, hb⟩, k1⟩ => ?_
  subst e e2
  rw [cTm_nat] at k1
  have tp := tk_pos d
  refine ⟨[a], [.st a q m0, .im (.int d), .no, .no], R.startS (Γ := [.im (.int d)]) (n := 2) sa List.mem_cons_self (SlotVs.ims m) (by rw [m.len]; rfl) (fun _ _ z => by simp at z), ?_⟩
  refine g_setX 2 scTerm.nd rfl (x_call (i := 0) hT hr (by omega) rfl (a_cons i_int a_nil) ⟨8, rfl, by decide, by omega⟩) (fun dk ⟨k8, i, e8, hi, ek⟩ => ?_)
  subst ek
  have hi8 : i < 8 := by
    have : ((8 : Nat) : Int) = (k8 : Int) := by injection (List.cons.inj e8).1
    omega
  have fin : ∀ (t : Tm) {Γ : SC} {c : Nat} {g σ v H'}, Γ.getD 0 .no = .st a q c → c ≤ m0 + tk d → R K H [a] g Γ σ H' → Drawn d t → Im K H' v t.py → Q v H' := fun t Γ c g σ v H' hg hc r z mm =>
    k1 v t.py H' r.but ((r.st hg).2.mono hc) ⟨d, t, rfl, rfl, z⟩ mm
  refine g_if (k := (decide ((d : Int) = 0) || decide ((i : Int) < 3))) (t_bool (tw_or ((t_eq hr dep_int (i_var 1 rfl) i_int).to (eqv_int _ _)) fun _ => tw_or1 (t_lt (i_var 2 rfl) i_int))) (fun _ => ?_) (fun kf => g_on ?_)
  · refine g_setL 3 (MOk.ofSt (i := 0) (a := a) (q := q) rfl) scTerm.nd rfl (l_lst (a_cons i_str (a_cons i_str (a_cons i_str (a_cons (i_tup (a_cons i_str a_nil)) (a_cons (i_tup (a_cons i_str a_nil)) (a_cons (i_tup (a_cons i_str a_nil)) a_nil))))))) ?_
    refine g_retXI (A := fun r => ∃ t : Tm, r = t.py ∧ Drawn d t) (x_ixO (i := 3) rfl (by rfl) (x_call (i := 0) hT hr (by omega) rfl (a_cons i_int a_nil) ⟨6, rfl, by decide, by omega⟩) (fun dy ⟨k6, j, e6, hj, ej⟩ => ?_)) (fun g σ v H' dd r ⟨t, e, z⟩ mm => ?_)
    · have hj6 : j < 6 := by
        have : ((6 : Nat) : Int) = (k6 : Int) := by injection (List.cons.inj e6).1
        omega
      obtain ⟨t, h1, h2⟩ := leaf_at j d hj6
      exact ⟨_, _, ej, h1, t, rfl, h2⟩
    · subst e
      exact fin t (c := m0 + 1 + 1) rfl (by omega) r z mm
  · have hd0 : d ≠ 0 := by
      intro z
      rw [z] at kf
      simp at kf
    obtain ⟨d', rfl⟩ : ∃ d', d = d' + 1 := ⟨d - 1, by omega⟩
    have htk : tk (d' + 1) = 2 + 3 * tk d' := rfl
    have es : ((d' + 1 : Nat) : Int) - 1 = ((d' : Nat) : Int) := by omega
    have call : ∀ (m : Nat) (p0 p1 p2 p3 p4 pos : Pos), m + tk d' < 2 ^ 60 → EX (CxN P w K mg base ["_law_state", "_law_depth", "_law_kind", "_law_leaves"] "_law_term" sTerm f cdv A outer s H E) H [a] [.st a q m, .im (.int (d' + 1 : Nat)), .im (.int i), .no]
        (.Call (.Name "_law_term" p0) [.Name "_law_state" p1, .BinOp (.Name "_law_depth" p2) .Sub (.Constant (.int 1) 0 p3) p4] [] pos) [.st a q (m + tk d'), .im (.int (d' + 1 : Nat)), .im (.int i), .no] (xI K (BTm [.int (d' : Nat)])) := fun m p0 p1 p2 p3 p4 pos hm => by
      have := x_call (Γ := [.st a q m, .im (.int (d' + 1 : Nat)), .im (.int i), .no]) (X := CxN P w K mg base ["_law_state", "_law_depth", "_law_kind", "_law_leaves"] "_law_term" sTerm f cdv A outer s H E) (H0 := H) (M := [a]) (p0 := p0) (pos := pos) (py := p1) (y := "_law_state") (x := "_law_term") (i := 0) (es := [.BinOp (.Name "_law_depth" p2) .Sub (.Constant (.int 1) 0 p3) p4])
        (ih d' (by omega)) hr (by omega) rfl (a_cons ((i_sub (i_var 1 rfl) i_int).to (by rw [es])) a_nil) ⟨d', rfl, Nat.le_refl _, hm⟩
      rw [cTm_nat] at this
      exact this
    refine g_if (t_lt (i_var 2 rfl) i_int) (fun _ => ?_) (fun _ => g_on ?_)
    · refine g_retXI (x_tup (ax_cons (x_i i_str) (ax_cons (call (m0 + 1) _ _ _ _ _ _ (by omega)) (ax_of a_nil))) (fun ds ⟨_, _, e, _, ⟨_, _, e2, _, e3⟩⟩ => by rw [e, e2, e3]; simp)) (fun g σ v H' dd r ⟨ds, e, ⟨x1, r1, e1, f1, ⟨x2, r2, e2, ⟨d2, t2, z2, y2, u2⟩, e3⟩⟩⟩ mm => ?_)
      subst e e1 f1 e2 e3 y2
      have ed : d' = d2 := by
        have : ((d' : Nat) : Int) = (d2 : Int) := by injection (List.cons.inj z2).1
        omega
      subst ed
      exact fin (.a "f" [t2]) (c := m0 + 1 + tk d') rfl (by omega) r (Drawn.app _ (fun t h => by rw [List.mem_singleton.mp h]; exact u2) (by simp)) mm
    · refine g_if (t_lt (i_var 2 rfl) i_int) (fun _ => ?_) (fun _ => g_on ?_)
      · refine g_retXI (x_tup (ax_cons (x_i i_str) (ax_cons (call (m0 + 1) _ _ _ _ _ _ (by omega)) (ax_cons (call (m0 + 1 + tk d') _ _ _ _ _ _ (by omega)) (ax_of a_nil)))) (fun ds ⟨_, _, e, _, ⟨_, _, e2, _, ⟨_, _, e3, _, e4⟩⟩⟩ => by rw [e, e2, e3, e4]; simp))
          (fun g σ v H' dd r ⟨ds, e, ⟨x1, r1, e1, f1, ⟨x2, r2, e2, ⟨d2, t2, z2, y2, u2⟩, ⟨x3, r3, e3, ⟨d3, t3, z3, y3, u3⟩, e4⟩⟩⟩⟩ mm => ?_)
        subst e e1 f1 e2 e3 e4 y2 y3
        have ed : d' = d2 := by
          have : ((d' : Nat) : Int) = (d2 : Int) := by injection (List.cons.inj z2).1
          omega
        have ed3 : d' = d3 := by
          have : ((d' : Nat) : Int) = (d3 : Int) := by injection (List.cons.inj z3).1
          omega
        subst ed ed3
        refine fin (.a "g" [t2, t3]) (c := m0 + 1 + tk d' + tk d') rfl (by omega) r (Drawn.app _ (fun t h => ?_) (by simp)) mm
        rcases List.mem_cons.mp h with h | h
        · rw [h]; exact u2
        · rw [List.mem_singleton.mp h]; exact u3
      · refine g_retXI (x_tup (ax_cons (x_i i_str) (ax_cons (call (m0 + 1) _ _ _ _ _ _ (by omega)) (ax_cons (call (m0 + 1 + tk d') _ _ _ _ _ _ (by omega)) (ax_cons (call (m0 + 1 + tk d' + tk d') _ _ _ _ _ _ (by omega)) (ax_of a_nil))))) (fun ds ⟨_, _, e, _, ⟨_, _, e2, _, ⟨_, _, e3, _, ⟨_, _, e4, _, e5⟩⟩⟩⟩ => by rw [e, e2, e3, e4, e5]; simp))
          (fun g σ v H' dd r ⟨ds, e, ⟨x1, r1, e1, f1, ⟨x2, r2, e2, ⟨d2, t2, z2, y2, u2⟩, ⟨x3, r3, e3, ⟨d3, t3, z3, y3, u3⟩, ⟨x4, r4, e4, ⟨d4, t4, z4, y4, u4⟩, e5⟩⟩⟩⟩⟩ mm => ?_)
        subst e e1 f1 e2 e3 e4 e5 y2 y3 y4
        have ed : d' = d2 := by
          have : ((d' : Nat) : Int) = (d2 : Int) := by injection (List.cons.inj z2).1
          omega
        have ed3 : d' = d3 := by
          have : ((d' : Nat) : Int) = (d3 : Int) := by injection (List.cons.inj z3).1
          omega
        have ed4 : d' = d4 := by
          have : ((d' : Nat) : Int) = (d4 : Int) := by injection (List.cons.inj z4).1
          omega
        subst ed ed3 ed4
        refine fin (.a "h2" [t2, t3, t4]) (c := m0 + 1 + tk d' + tk d' + tk d') rfl (by omega) r (Drawn.app _ (fun t h => ?_) (by simp)) mm
        rcases List.mem_cons.mp h with h | h
        · rw [h]; exact u2
        · rcases List.mem_cons.mp h with h | h
          · rw [h]; exact u3
          · rw [List.mem_singleton.mp h]; exact u4
end
end K86

namespace K86
open PySem PySem.Spec PyProof.Rows L2 G
/-! ### mathematics -/
mutual
theorem Tm.partsAt : ∀ t : Tm, t.places.map t.at = t.parts.map some
  | .v x => rfl
  | .a f as => by
    show some (Tm.a f as) :: (Tm.placesL 0 as).map (Tm.a f as).at = some (Tm.a f as) :: (Tm.partsL as).map some
    have h := Tm.partsLAt as 0 (fun p => (Tm.a f as).at p) fun i u p hu => by
      show (match as[0 + i]? with | some u => u.at p | none => none) = _
      rw [Nat.zero_add, hu]
    rw [← h]
theorem Tm.partsLAt : ∀ (ts : List Tm) (k : Nat) (g : Pl → Option Tm), (∀ i u p, ts[i]? = some u → g ((k + i) :: p) = u.at p) → (Tm.placesL k ts).map g = (Tm.partsL ts).map some
  | [], _, _, _ => rfl
  | t :: ts, k, g, h => by
    show ((t.places.map fun p => k :: p) ++ Tm.placesL (k + 1) ts).map g = (t.parts ++ Tm.partsL ts).map some
    rw [List.map_append, List.map_append, List.map_map, Tm.partsLAt ts (k + 1) g fun i u p hu => by
      have := h (i + 1) u p hu
      rwa [show k + (i + 1) = k + 1 + i by omega] at this]
    congr 1
    rw [← Tm.partsAt t]
    refine List.map_congr_left fun p _ => ?_
    exact h 0 t p rfl
end
theorem eqv_str (a b : Str) : PyData.eqv (.str a) (.str b) = decide (a = b) := by
  simp [PyData.eqv]
  rfl
theorem any_str (acc : List Str) (x : Str) : ((acc.map PyData.str).any fun z => PyData.eqv z (.str x)) = decide (x ∈ acc) := by
  rw [List.any_map]
  by_cases h : x ∈ acc
  · rw [decide_eq_true h]
    exact List.any_eq_true.mpr ⟨x, h, by show PyData.eqv (.str x) (.str x) = true; rw [eqv_str]; simp⟩
  · rw [decide_eq_false h]
    refine List.any_eq_false.mpr fun y hy => ?_
    have : y ≠ x := fun z => h (z ▸ hy)
    show ¬ PyData.eqv (.str y) (.str x) = true
    rw [eqv_str]
    simp [this]
theorem nms_snoc (ds : List PyData) (d : PyData) : nms (ds ++ [d]) = nmStep (nms ds) d := by unfold nms; rw [List.foldl_append]; rfl
theorem nms_len (ds : List PyData) : (nms ds).length ≤ ds.length := by
  have := foldl_nm_len ds []
  simpa [nms] using this
theorem plain_all {ds : List PyData} : (∀ d, d ∈ ds → d.plain = true) → PyData.plainAll ds = true := by
  induction ds with
  | nil => intro _; rfl
  | cons d ds ih =>
    intro h
    show (d.plain && PyData.plainAll ds) = true
    rw [h d List.mem_cons_self, ih fun e he => h e (List.mem_cons_of_mem _ he)]; rfl
theorem pys_mem {ts : List Tm} {d : PyData} (h : d ∈ Tm.pys ts) : ∃ t, t ∈ ts ∧ d = t.py := by
  obtain ⟨i, hi⟩ := List.getElem?_of_mem h
  obtain ⟨t, h1, h2⟩ := Tm.pys_get hi
  exact ⟨t, List.mem_of_getElem? h1, h2⟩
theorem nub_mem : ∀ {ds acc : List PyData} {d : PyData}, d ∈ ds.foldl nubStep acc → d ∈ acc ∨ d ∈ ds
  | [], _, _, h => .inl h
  | e :: ds, acc, d, h => by
    rcases nub_mem (ds := ds) h with h | h
    · have h' : d ∈ (if (acc.any fun z => PyData.eqv z e) = true then acc else acc ++ [e]) := h
      split at h'
      · exact .inl h'
      · rcases List.mem_append.mp h' with h | h
        · exact .inl h
        · exact .inr (by rw [List.mem_singleton.mp h]; exact List.mem_cons_self)
    · exact .inr (List.mem_cons_of_mem _ h)
theorem depth_all {n : Nat} {ds : List PyData} : (∀ d, d ∈ ds → d.depth ≤ n) → PyData.depthAll ds ≤ n := by
  induction ds with
  | nil => intro _; simp [PyData.depthAll]
  | cons d ds ih =>
    intro h
    simp only [PyData.depthAll]
    exact Nat.max_le.mpr ⟨h d List.mem_cons_self, ih fun e he => h e (List.mem_cons_of_mem _ he)⟩
theorem pl_plain (p : Pl) : (pl p).plain = true := by
  show PyData.plainAll (p.map fun i => .int (i : Nat)) = true
  refine plain_all fun d hd => ?_
  obtain ⟨i, _, e⟩ := List.mem_map.mp hd
  subst e; rfl
theorem pl_depth (p : Pl) : (pl p).depth ≤ 1 := by
  show PyData.depth (.tuple (p.map fun i => .int (i : Nat))) ≤ 1
  have : PyData.depthAll (p.map fun i => PyData.int (i : Nat)) ≤ 0 := depth_all fun d hd => by
    obtain ⟨i, _, e⟩ := List.mem_map.mp hd
    subst e; simp [PyData.depth]
  simp only [PyData.depth]
  omega
section
variable {P : Program} {w : World} {K : PySem.W.Frag} {mg : Str → Option Value} {base : Heap} {C W : Addr}
/-! ### _law_refused -/
abbrev sRef : Stmt := top 20
theorem scRef : FnScope ["_law_term_here", "_law_place", "error"] ["_law_term_here", "_law_place"] (defScope sRef) := ⟨rfl, rfl, rfl, by decide +kernel, rfl, by decide +kernel, by decide +kernel⟩
def ARef (n : Nat) : List PyData → PyData → Prop := fun ds d => ∃ (t : Tm) (p : Pl), ds = [t.py, pl p] ∧ t.at p = none ∧ t.dep ≤ n ∧ t.size ≤ 1000 ∧ p.length ≤ 1000 ∧ d = .bool true
theorem ok_ref {f : Addr} {fd : FuncData} {n : Nat} (F : Fun K "_law_refused" "_law_refused" sRef f fd) (mI : mg "isinstance" = none) (FW : ExcF K mg "WorldOrPaperError" W) (sub : PySem.W.subIn K (.ref C) (.ref W) = some true) (EC : ExcC K C) (mB : mg "BadPlace" = some (.ref C)) (kit : PySem.W.kitOne K (.ref C) (.ref C) = some true)
    (hP : Has P w K mg base (L2.CX P w) 3 "part_at" ["term", "place"] (spPart K C)) (hR : Has P w K mg base (L2.CX P w) (n + 3) "replace_at" ["term", "place", "part"] (spRep K C n)) : FnOk P w K mg base CX0 (n + 4) f fd ["_law_term_here", "_law_place"] (spI K (ARef n)) := by
  refine mk_fn F scRef (len1 (n := 2) fun ds d ⟨t, p, e, _⟩ => by rw [e]; rfl) fun cdv A outer s H vs Q E hr ⟨ds, d, m, ⟨t, p, e1, hn, hd, hz, hp, e2⟩, q⟩ => ?_
  subst e1 e2
  refine ⟨[], [.im t.py, .im (pl p), .no], R.start (n := 1) (SlotVs.ims m) (by rw [m.len]; rfl) (fun _ _ z => by simp at z), ?_⟩
  refine g_tryE (P := fun _ _ _ => False) 2 (fun cls d => cls = .ref C ∧ d = none) rfl rfl scRef.nd rfl FW (fun cls d ⟨e, _⟩ => by rw [e]; exact sub) hP hr (by omega) (fun pn xe => a_cons (i_var 0 rfl) (a_cons (i_var 1 rfl) a_nil))
    (fun g σ H H1 vs Q E r s m k1 k2 => ⟨t, p, m, fun u hu => (by rw [hn] at hu; cases hu), fun _ H' s' => k2 _ _ H' ⟨rfl, rfl⟩ s'⟩) (fun ⟨_, _, _, z⟩ => z.elim) (fun u oe cls d pn ⟨ec, ed⟩ hzc hf => ?_)
  subst ec ed
  refine g_if (k := false) (t_not (x := true) (t_val (i_isE (i := 2) rfl EC hzc hf mI mB kit rfl))) (fun z => nomatch z) (fun _ => g_on (g_gone rfl ?_))
  refine g_tryE (P := fun _ _ _ => False) 2 (fun cls d => cls = .ref C ∧ d = none) rfl rfl scRef.nd rfl FW (fun cls d ⟨e, _⟩ => by rw [e]; exact sub) hR hr (by omega) (fun pn xe => a_cons (i_var 0 rfl) (a_cons (i_var 1 rfl) (a_cons (i_tup (a_cons i_str a_nil)) a_nil)))
    (fun g σ H H1 vs Q E r s m k1 k2 => ⟨t, p, .a "a" [], m, hd, hz, hp, fun t' ht => (by rw [Tm.put_none hn] at ht; cases ht), fun _ H' s' => k2 _ _ H' ⟨rfl, rfl⟩ s'⟩) (fun ⟨_, _, _, z⟩ => z.elim) (fun u oe cls d pn ⟨ec, ed⟩ hzc hf => ?_)
  subst ec ed
  exact g_retI (i_isE (i := 2) rfl EC hzc hf mI mB kit rfl) fun v H' b m => q v H' b.nil m
end
end K86

namespace K86
open PySem PySem.Spec PyProof.Rows L2 G
theorem k_ii : kitB "int" "int" = some true := by decide +kernel
theorem k_ib : kitB "int" "bool" = some false := by decide +kernel
theorem pys_plainD (t : Tm) : ∀ d, d ∈ Tm.pys t.parts → d.plain = true ∧ d.depth ≤ t.dep := fun d hd => by
  obtain ⟨u, hu, e⟩ := pys_mem hd
  rw [e, Tm.py_depth]
  exact ⟨u.py_plain, Tm.parts_dep t u hu⟩
section
variable {P : Program} {w : World} {K : PySem.W.Frag} {mg : Str → Option Value} {base : Heap} {C W : Addr}
abbrev sLi : Stmt := top 21
theorem scLi : FnScope ["_law_term_here", "_law_parts", "_law_found", "_law_names", "_law_part_here", "_law_size", "_law_place"] ["_law_term_here"] (defScope sLi) := ⟨rfl, rfl, rfl, by decide +kernel, rfl, by decide +kernel, by decide +kernel⟩
def ALi (n : Nat) : List PyData → PyData → Prop := fun ds d => ∃ t : Tm, ds = [t.py] ∧ t.dep ≤ n ∧ n ≤ 50 ∧ t.size ≤ 500 ∧ d = .bool true
theorem ok_listed {f : Addr} {fd : FuncData} {n : Nat} (F : Fun K "_law_listed" "_law_listed" sLi f fd) (mI : mg "isinstance" = none) (mS : mg "str" = none) (mi : mg "int" = none) (mb : mg "bool" = none) (ml : mg "len" = none)
    (hLPl : Has P w K mg base CX0 (n + 1) "_law_places" ["_law_term_here"] (spL K (APl n))) (hLPa : Has P w K mg base CX0 1 "_law_part" ["_law_term_here", "_law_place"] (spI K APart)) (hPl : Has P w K mg base CX0 (n + 2) "places_of" ["term"] (spL K (APl n)))
    (hSz : Has P w K mg base CX0 (n + 3) "term_size" ["term"] (spI K (ASize n))) (hPs : Has P w K mg base CX0 (n + 3) "parts_of" ["term"] (spL K (AParts n))) (hUn : Has P w K mg base CX0 (n + 3) "unknowns_of" ["term"] (spL K (AUnk n))) :
    FnOk P w K mg base CX0 (n + 4) f fd ["_law_term_here"] (spI K (ALi n)) := by
  refine mk_fn F scLi (len1 (n := 1) fun ds d ⟨t, e, _⟩ => by rw [e]; rfl) fun cdv A outer s H vs Q E hr ⟨ds, d, m, ⟨t, e1, hd, hn, hz, e2⟩, q⟩ => ?_
  subst e1 e2
  refine ⟨[], [.im t.py, .no, .no, .no, .no, .no, .no], R.start (n := 6) (SlotVs.ims m) (by rw [m.len]; rfl) (fun _ _ z => by simp at z), ?_⟩
  have lp : (Tm.pys t.parts).length = t.size := by rw [Tm.pys_len, Tm.parts_len]
  refine g_setLC 1 (i := 6) (fs := Tm.pys t.parts) (ds := t.places.map pl) rfl scLi.nd (pi_list pe_w) (src_new (l_call hLPl hr (by omega) ⟨t, rfl, hd, by omega, rfl⟩ (a_cons (i_var 0 rfl) a_nil))) (by rw [lp, List.length_map, Tm.places_len]) (by rw [List.length_map, Tm.places_len]; omega) MOk.nil
    (fun k d f hk hf s' H' C cl fp => ?_) (blkOk_by (N := ["_law_term_here", "_law_parts", "_law_found", "_law_names", "_law_part_here", "_law_size", "_law_place"]) (sc := defScope sLi) (by decide +kernel)) (fun _ _ _ _ _ => pg_name scLi.nd rfl (Or.inl rfl)) (by show 6 < 7; decide) rfl ?_
  · rw [List.getElem?_map] at hk
    obtain ⟨u, hu, ef⟩ := Tm.pys_get hf
    cases hp : t.places[k]? with
    | none => rw [hp] at hk; cases hk
    | some p =>
      rw [hp] at hk
      cases hk
      have ha : t.at p = some u := by
        have : (t.places.map t.at)[k]? = (t.parts.map some)[k]? := by rw [Tm.partsAt t]
        rw [List.getElem?_map, List.getElem?_map, hp, hu] at this
        exact Option.some.inj this
      subst ef
      exact i_call hLPa hr (by omega) ⟨t, p, u, rfl, ha, rfl⟩ (a_cons (i_var 0 rfl) (a_cons (i_var 6 rfl) a_nil))
  refine g_setL 2 MOk.nil scLi.nd rfl (l_lst a_nil) (g_setL 3 MOk.nil scLi.nd rfl (l_lst a_nil) ?_)
  refine g_forO 4 1 (ds := Tm.pys t.parts) (fun p i => [.im t.py, .rl p (Tm.pys t.parts), .ls (nub ((Tm.pys t.parts).take i)), .ls ((nms ((Tm.pys t.parts).take i)).map .str), .no, .no, .no]) (fun _ _ => False) scLi.nd (fun _ _ => rfl) PassesOwn.never rfl rfl
    (fun p => .k (.k (.k (.k (.k (.k (.k .nil))))))) (fun p i d hi => ?_) (fun _ => rfl) (fun _ => rfl) (fun p => ?_) (fun _ _ z => z.elim)
  · obtain ⟨u, hu, e⟩ := Tm.pys_get hi
    have hu' := Tm.parts_dep t u (List.mem_of_getElem? hu)
    have hi' : i < 500 := by
      have := (List.getElem?_eq_some_iff.mp hi).1
      omega
    have hl := nub_len ((Tm.pys t.parts).take i)
    have hl2 := nms_len ((Tm.pys t.parts).take i)
    rw [List.length_take] at hl hl2
    subst e
    have es := take_more hi
    have en : nub ((Tm.pys t.parts).take (i + 1)) = _ := (congrArg nub es).trans (nub_snoc _ _)
    have em : nms ((Tm.pys t.parts).take (i + 1)) = _ := (congrArg nms es).trans (nms_snoc _ _)
    have fin : ∀ {X : Cx} {D : DD} {g : List PyData} {x : SD}, g = nub ((Tm.pys t.parts).take (i + 1)) → Sub [.im t.py, .rl p (Tm.pys t.parts), .ls g, x, .im u.py, .no, .no] [.im t.py, .rl p (Tm.pys t.parts), .ls (nub ((Tm.pys t.parts).take (i + 1))), x, .im u.py, .no, .no] := fun e => .k (.k (Sub.e (by rw [e]) (.k (.k (.k (.k .nil))))))
    refine g_if (t_notIn hr (by rw [Tm.py_depth]; omega) (i_var 4 rfl) (o_var 2 rfl)) (fun k => ?_) (fun k => g_on ?_)
    · refine g_append 2 rfl (by omega) (i_var 4 rfl) (g_on ?_)
      rw [if_neg (by simpa using k)] at en
      refine g_sub (Γ' := [.im t.py, .rl p (Tm.pys t.parts), .ls (nub ((Tm.pys t.parts).take (i + 1))), .ls ((nms ((Tm.pys t.parts).take i)).map .str), .im u.py, .no, .no]) (.k (.k (Sub.e (by rw [en]) (.k (.k (.k (.k .nil))))))) ?_
      cases u with
      | v x =>
        have em' : nms ((Tm.pys t.parts).take (i + 1)) = if x ∈ nms ((Tm.pys t.parts).take i) then nms ((Tm.pys t.parts).take i) else nms ((Tm.pys t.parts).take i) ++ [x] := em
        refine g_if (t_bool (tw_and (x := true) (t_val (i_isi (T := "str") mI (v_bltn mS (by decide +kernel) rfl) (i_var 4 rfl) k_ss)) fun _ => tw_and1 (t_notIn hr (by rw [Tm.py_depth]; omega) (i_var 4 rfl) (o_var 3 rfl)))) (fun k2 => ?_) (fun k2 => g_on ?_)
        · rw [show (Tm.v x).py = PyData.str x from rfl, any_str] at k2
          have k3 : ¬ x ∈ nms ((Tm.pys t.parts).take i) := by simpa using k2
          rw [if_neg k3] at em'
          refine g_append 3 rfl (by rw [List.length_map]; omega) (i_var 4 rfl) (g_on (g_loop (.k (.k (.k (Sub.e ?_ (.n (.k (.k .nil)))))))))
          rw [em', List.map_append]; rfl
        · rw [show (Tm.v x).py = PyData.str x from rfl, any_str] at k2
          have k3 : x ∈ nms ((Tm.pys t.parts).take i) := by simpa using k2
          rw [if_pos k3] at em'
          exact g_loop (.k (.k (.k (Sub.e (by rw [em']) (.n (.k (.k .nil)))))))
      | a f as =>
        have em' : nms ((Tm.pys t.parts).take (i + 1)) = nms ((Tm.pys t.parts).take i) := em
        refine g_if (k := false) (t_bool (tw_and (x := false) (y := false) (t_val (i_isi (T := "str") mI (v_bltn mS (by decide +kernel) rfl) (i_var 4 rfl) k_ts)) fun z => nomatch z)) (fun z => nomatch z) (fun k2 => g_on ?_)
        exact g_loop (.k (.k (.k (Sub.e (by rw [em']) (.n (.k (.k .nil)))))))
    · rw [if_pos (by simpa using k)] at en
      refine g_sub (Γ' := [.im t.py, .rl p (Tm.pys t.parts), .ls (nub ((Tm.pys t.parts).take (i + 1))), .ls ((nms ((Tm.pys t.parts).take i)).map .str), .im u.py, .no, .no]) (.k (.k (Sub.e (by rw [en]) (.k (.k (.k (.k .nil))))))) ?_
      cases u with
      | v x =>
        have em' : nms ((Tm.pys t.parts).take (i + 1)) = if x ∈ nms ((Tm.pys t.parts).take i) then nms ((Tm.pys t.parts).take i) else nms ((Tm.pys t.parts).take i) ++ [x] := em
        refine g_if (t_bool (tw_and (x := true) (t_val (i_isi (T := "str") mI (v_bltn mS (by decide +kernel) rfl) (i_var 4 rfl) k_ss)) fun _ => tw_and1 (t_notIn hr (by rw [Tm.py_depth]; omega) (i_var 4 rfl) (o_var 3 rfl)))) (fun k2 => ?_) (fun k2 => g_on ?_)
        · rw [show (Tm.v x).py = PyData.str x from rfl, any_str] at k2
          have k3 : ¬ x ∈ nms ((Tm.pys t.parts).take i) := by simpa using k2
          rw [if_neg k3] at em'
          refine g_append 3 rfl (by rw [List.length_map]; omega) (i_var 4 rfl) (g_on (g_loop (.k (.k (.k (Sub.e ?_ (.n (.k (.k .nil)))))))))
          rw [em', List.map_append]; rfl
        · rw [show (Tm.v x).py = PyData.str x from rfl, any_str] at k2
          have k3 : x ∈ nms ((Tm.pys t.parts).take i) := by simpa using k2
          rw [if_pos k3] at em'
          exact g_loop (.k (.k (.k (Sub.e (by rw [em']) (.n (.k (.k .nil)))))))
      | a f as =>
        have em' : nms ((Tm.pys t.parts).take (i + 1)) = nms ((Tm.pys t.parts).take i) := em
        refine g_if (k := false) (t_bool (tw_and (x := false) (y := false) (t_val (i_isi (T := "str") mI (v_bltn mS (by decide +kernel) rfl) (i_var 4 rfl) k_ts)) fun z => nomatch z)) (fun z => nomatch z) (fun k2 => g_on ?_)
        exact g_loop (.k (.k (.k (Sub.e (by rw [em']) (.n (.k (.k .nil)))))))
  · rw [List.take_length]
    refine g_set 5 scLi.nd rfl (i_call hSz hr (by omega) ⟨t, rfl, hd, by omega, rfl⟩ (a_cons (i_var 0 rfl) a_nil)) ?_
    have es : PyData.eqv (.int (t.size : Nat)) (.int ((Tm.pys t.parts).length : Nat)) = true := by rw [eqv_int, lp]; simp
    refine g_if (k := false) ((t_bool (tw_or (x := false) (t_not (x := true) (t_val (i_isi (d := .int (t.size : Nat)) (T := "int") mI (v_bltn mi (by decide +kernel) rfl) (i_var 5 rfl) k_ii))) fun _ => tw_or (t_val (i_isi (d := .int (t.size : Nat)) (T := "bool") mI (v_bltn mb (by decide +kernel) rfl) (i_var 5 rfl) k_ib)) fun _ => tw_or1 (t_ne hr dep_int (i_var 5 rfl) (i_lenO ml (o_var 1 rfl))))).to (by rw [es]; rfl)) (fun z => nomatch z) (fun _ => g_on ?_)
    have d1 : PyData.depthAll (t.places.map pl) < 64 := Nat.lt_of_le_of_lt (depth_all (n := 1) fun d hd => by
      obtain ⟨p, _, e⟩ := List.mem_map.mp hd
      subst e; exact pl_depth p) (by decide)
    have d2 : PyData.depthAll (nub (Tm.pys t.parts)) < 64 := Nat.lt_of_le_of_lt (depth_all (n := t.dep) fun d hd => by
      rcases nub_mem hd with h | h
      · cases h
      · exact (pys_plainD t d h).2) (by omega)
    have d3 : PyData.depthAll (names (Tm.pys t.parts)) < 64 := Nat.lt_of_le_of_lt (depth_all (n := 0) fun d hd => by
      obtain ⟨p, _, e⟩ := List.mem_map.mp hd
      subst e; simp [PyData.depth]) (by decide)
    have p1 : PyData.eqvAll (t.places.map pl) (t.places.map pl) = true := eqvAll_refl (plain_all fun d hd => by
      obtain ⟨p, _, e⟩ := List.mem_map.mp hd
      subst e; exact pl_plain p)
    have p2 : PyData.eqvAll (nub (Tm.pys t.parts)) (nub (Tm.pys t.parts)) = true := eqvAll_refl (plain_all fun d hd => by
      rcases nub_mem hd with h | h
      · cases h
      · exact (pys_plainD t d h).1)
    have p3 : PyData.eqvAll (names (Tm.pys t.parts)) (names (Tm.pys t.parts)) = true := eqvAll_refl (plain_all fun d hd => by
      obtain ⟨p, _, e⟩ := List.mem_map.mp hd
      subst e; rfl)
    refine g_retI ((i_and (i_eqL hr d1 (EL.o (l_call hPl hr (by omega) ⟨t, rfl, hd, by omega, rfl⟩ (a_cons (i_var 0 rfl) a_nil))) (EL.o (l_call hLPl hr (by omega) ⟨t, rfl, hd, by omega, rfl⟩ (a_cons (i_var 0 rfl) a_nil)))) fun _ =>
      i_and (i_eqL hr d2 (EL.o (l_call hPs hr (by omega) ⟨t, rfl, hd, by omega, by omega, rfl⟩ (a_cons (i_var 0 rfl) a_nil))) (o_var 2 rfl)) fun _ =>
      i_one (i_eqL hr d3 (EL.o (l_call hUn hr (by omega) ⟨t, rfl, hd, by omega, rfl⟩ (a_cons (i_var 0 rfl) a_nil))) (o_var 3 rfl))).to (by rw [p1, p2, show (nms (Tm.pys t.parts)).map PyData.str = names (Tm.pys t.parts) from rfl, p3]; rfl)) fun v H' b m => q v H' b.nil m
end
end K86

namespace K86
open PySem PySem.Spec PyProof.Rows L2 G
mutual
theorem Tm.at_mem : ∀ (p : Pl) (t u : Tm), t.at p = some u → u ∈ t.parts
  | [], t, u, h => by
    have e : t = u := Option.some.inj h
    subst e
    cases t <;> exact List.mem_cons_self
  | i :: p, .v x, u, h => by cases h
  | i :: p, .a f as, u, h => by
    have h' : (match as[i]? with | some w => w.at p | none => none) = some u := h
    cases q : as[i]? with
    | none => rw [q] at h'; cases h'
    | some w =>
      rw [q] at h'
      exact List.mem_cons_of_mem _ (Tm.partsL_mem as i w u q (Tm.at_mem p w u h'))
theorem Tm.partsL_mem : ∀ (as : List Tm) (i : Nat) (w u : Tm), as[i]? = some w → u ∈ w.parts → u ∈ Tm.partsL as
  | t :: ts, 0, w, u, h, hu => by
    have e : t = w := Option.some.inj h
    subst e
    exact List.mem_append.mpr (.inl hu)
  | t :: ts, i + 1, w, u, h, hu => List.mem_append.mpr (.inr (Tm.partsL_mem ts i w u (by simpa using h) hu))
end
section
variable {P : Program} {w : World} {K : PySem.W.Frag} {mg : Str → Option Value} {base : Heap} {C W : Addr}
abbrev sLaw : Stmt := top 22
theorem scLaw : FnScope ["_law_script", "_law_state", "_law_term_here", "_law_part_here", "_law_places_here", "_law_place", "_law_here", "_law_due", "_law_actual", "_law_old", "_law_beyond"] ["_law_script"] (defScope sLaw) := ⟨rfl, rfl, rfl, by decide +kernel, rfl, by decide +kernel, by decide +kernel⟩
def spLaw (K : PySem.W.Frag) : Sp := fun vs H Q _ => ∃ (p : Addr) (xs : List V) (cs : List Int), vs = [.ref p] ∧ SqL K H p xs ∧ ImAll K H xs (cs.map .int) ∧ cs.length ≤ 63 ∧ ∀ H', Same H H' → Q (.bl true) H'
theorem ok_law {f : Addr} {fd : FuncData} (F : Fun K "law" "law" sLaw f fd) (mI : mg "isinstance" = none) (mS : mg "str" = none) (ml : mg "len" = none)
    (hStart : Has P w K mg base CX0 1 "_law_start" ["_law_script"] (spStart K)) (hTake : Has P w K mg base CX0 1 "_law_take" ["_law_state", "_law_many"] (G.spS K ATake (fun _ => 1) BTake))
    (hTerm : ∀ n, Has P w K mg base CX0 (n + 2) "_law_term" ["_law_state", "_law_depth"] (G.spS K (ATm n) cTm BTm)) (hLPl : Has P w K mg base CX0 13 "_law_places" ["_law_term_here"] (spL K (APl 12))) (hLPa : Has P w K mg base CX0 1 "_law_part" ["_law_term_here", "_law_place"] (spI K APart))
    (hPart : Has P w K mg base (L2.CX P w) 3 "part_at" ["term", "place"] (spPart K C)) (hRep : Has P w K mg base (L2.CX P w) 15 "replace_at" ["term", "place", "part"] (spRep K C 12)) (hPut : Has P w K mg base CX0 13 "_law_put" ["_law_term_here", "_law_place", "_law_part_here"] (spI K (APut 12)))
    (hRef : Has P w K mg base CX0 16 "_law_refused" ["_law_term_here", "_law_place"] (spI K (ARef 12))) (hLi : Has P w K mg base CX0 16 "_law_listed" ["_law_term_here"] (spI K (ALi 12))) :
    FnOk P w K mg base CX0 18 f fd ["_law_script"] (spLaw K) := by
  refine mk_fn F scLaw (fun vs H Q E ⟨p, xs, cs, e, _⟩ => by rw [e]; rfl) fun cdv A outer s H vs Q E hr ⟨p, xs, cs, e, hp, hx, hl, q⟩ => ?_
  subst e
  refine ⟨[], [.pl p (cs.map .int), .no, .no, .no, .no, .no, .no, .no, .no, .no, .no], R.start (Γ := [.pl p (cs.map .int)]) (n := 10) (.cons ⟨rfl, xs, hp, hx⟩ .nil) rfl (fun _ _ _ z => nomatch z), ?_⟩
  refine g_setSt 1 MOk.nil scLaw.nd rfl (e_call hStart hr (by omega) (a_consA (q_var 0 rfl) a_nilA) fun H H1 vs Q s1 pp k => ?_) fun a st => ?_
  · obtain ⟨v, r, H2, rfl, s2, s3, ⟨p', xs', rfl, sq, im⟩, rfl⟩ := pp
    exact ⟨p', xs', cs, rfl, (But.of (M := []) s3).seq sq (fun z => nomatch z), im.same s3, hl, fun a r H' s h1 h2 z => k _ H' s ⟨a, r, rfl, s1.free h1, s1.free h2, z⟩⟩
  refine g_setX 2 scLaw.nd rfl (x_call (i := 1) (hTerm 4) hr (by omega) rfl (a_cons i_int a_nil) ⟨4, rfl, by decide, by decide⟩) (fun d ⟨d4, t, e4, ed, Dr⟩ => ?_)
  subst ed
  have e4' : d4 = 4 := by
    have : ((4 : Nat) : Int) = (d4 : Int) := by injection (List.cons.inj e4).1
    omega
  subst e4'
  have t1 : t.dep ≤ 5 := Dr.dep
  have t2 : t.size ≤ 121 := Dr.size
  refine g_setX 3 scLaw.nd rfl (x_call (i := 1) (hTerm 2) hr (by omega) rfl (a_cons i_int a_nil) ⟨2, rfl, by decide, by decide⟩) (fun d ⟨d2, u, e2, ed, Du⟩ => ?_)
  subst ed
  have e2' : d2 = 2 := by
    have : ((2 : Nat) : Int) = (d2 : Int) := by injection (List.cons.inj e2).1
    omega
  subst e2'
  have u1 : u.dep ≤ 3 := Du.dep
  have u2 : u.size ≤ 13 := Du.size
  refine g_setL 4 MOk.nil scLaw.nd rfl (l_call hLPl hr (by omega) ⟨t, rfl, by omega, by omega, rfl⟩ (a_cons (i_var 2 rfl) a_nil)) ?_
  have hpos : 0 < (t.places.map pl).length := by rw [List.length_map, Tm.places_len]; cases t with
    | v _ => exact Nat.zero_lt_one
    | a _ as => show 0 < 1 + Tm.sizes as; omega
  refine g_setX (A := fun d => ∃ p, d = pl p ∧ p ∈ t.places) 5 scLaw.nd rfl (x_ixO (i := 4) rfl (by rfl) (x_call (i := 1) hTake hr (by omega) rfl (a_cons (i_lenO ml (o_var 4 rfl)) a_nil) ⟨_, rfl, hpos, by decide⟩) (fun dy ⟨k, i, ek, hi, ei⟩ => ?_)) (fun d ⟨pp, ed, hmem⟩ => ?_)
  · have ek' : (t.places.map pl).length = k := by
      have : (((t.places.map pl).length : Nat) : Int) = (k : Int) := by injection (List.cons.inj ek).1
      omega
    have hi' : i < t.places.length := by rw [List.length_map] at ek'; omega
    exact ⟨_, _, ei, atI_nat (by rw [List.getElem?_map, List.getElem?_eq_getElem hi']; rfl), _, rfl, List.getElem_mem hi'⟩
  subst ed
  obtain ⟨o, ho⟩ := Tm.mem_places t pp hmem
  obtain ⟨o1, o2⟩ := Tm.at_dep pp t o ho
  obtain ⟨z, z1, z2, z3⟩ := Tm.put_some (u := u) ho
  have z3 := z3 o rfl
  obtain ⟨zd, zs⟩ := Tm.put_dep z1
  have hpl : pp.length ≤ 121 := by have := Tm.places_short t pp hmem; omega
  have dt : t.py.depth ≤ 64 := by rw [Tm.py_depth]; omega
  have du : u.py.depth ≤ 64 := by rw [Tm.py_depth]; omega
  have dz : z.py.depth ≤ 64 := by rw [Tm.py_depth]; omega
  have do' : o.py.depth ≤ 64 := by rw [Tm.py_depth]; omega
  refine g_forO 6 4 (ds := t.places.map pl) (fun pa i => [.pl p (cs.map .int), .st a st (0 + cTm [.int 4] + cTm [.int 2] + 1), .im t.py, .im u.py, .rl pa (t.places.map pl), .im (pl pp), .no, .no, .no, .no, .no]) (fun _ _ => False) scLaw.nd (fun _ _ => rfl) PassesOwn.never rfl rfl
    (fun pa => .k (.k (.k (.k (.k (.k (.k (.k (.k (.k (.k .nil))))))))))) (fun pa i d hi => ?_) (fun _ => rfl) (fun _ => rfl) (fun pa => ?_) (fun _ _ z => z.elim)
  · rw [List.getElem?_map] at hi
    cases hq : t.places[i]? with
    | none => rw [hq] at hi; cases hi
    | some p' =>
      rw [hq] at hi
      cases hi
      obtain ⟨o', ho'⟩ := Tm.mem_places t p' (List.mem_of_getElem? hq)
      have d2 : o'.py.depth ≤ 64 := by rw [Tm.py_depth]; have := Tm.at_dep p' t o' ho'; omega
      refine g_if (k := false) ((t_ne (d := o'.py) (d' := o'.py) hr d2 (e_call hPart hr (by omega) (a_cons (i_var 2 rfl) (a_cons (i_var 6 rfl) a_nil)) fun H H1 vs Q s1 m k => ⟨t, p', m, fun u hu v H' s mm => ?_, fun hn => ?_⟩) (i_call hLPa hr (by omega) ⟨t, p', o', rfl, ho', rfl⟩ (a_cons (i_var 2 rfl) (a_cons (i_var 6 rfl) a_nil)))).to (by rw [Tm.py_eq]; rfl)) (fun z => nomatch z) (fun _ => g_on (g_loop (.k (.k (.k (.k (.k (.k (.n (.k (.k (.k (.k .nil)))))))))))))
      · rw [ho'] at hu
        cases hu
        exact k v H' s mm
      · rw [ho'] at hn; cases hn
  refine g_set 7 scLaw.nd rfl (i_call hPut hr (by omega) ⟨t, pp, u, z, rfl, by omega, z1, rfl⟩ (a_cons (i_var 2 rfl) (a_cons (i_var 5 rfl) (a_cons (i_var 3 rfl) a_nil)))) ?_
  refine g_set 8 (d := z.py) scLaw.nd rfl (e_call hRep hr (by omega) (a_cons (i_var 2 rfl) (a_cons (i_var 5 rfl) (a_cons (i_var 3 rfl) a_nil))) fun H H1 vs Q s1 m k => ⟨t, pp, u, m, by omega, by omega, by omega, fun t' ht v H' s mm => (by rw [z1] at ht; cases ht; exact k v H' s mm), fun hn => (by rw [ho] at hn; cases hn)⟩) ?_
  refine g_if (k := false) ((t_bool (tw_or (t_ne hr dz (i_var 8 rfl) (i_var 7 rfl)) fun _ => tw_or1 (t_ne (d := u.py) (d' := u.py) hr du (e_call hPart hr (by omega) (a_cons (i_var 8 rfl) (a_cons (i_var 5 rfl) a_nil)) fun H H1 vs Q s1 m k => ⟨z, pp, m, fun u' hu v H' s mm => (by rw [z2] at hu; cases hu; exact k v H' s mm), fun hn => (by rw [z2] at hn; cases hn)⟩) (i_var 3 rfl)))).to (by rw [Tm.py_eq, Tm.py_eq]; rfl)) (fun z => nomatch z) (fun _ => g_on ?_)
  refine g_set 9 scLaw.nd rfl (i_call hLPa hr (by omega) ⟨t, pp, o, rfl, ho, rfl⟩ (a_cons (i_var 2 rfl) (a_cons (i_var 5 rfl) a_nil))) ?_
  refine g_if (k := false) ((t_ne (d := t.py) (d' := t.py) hr dt (e_call hRep hr (by omega) (a_cons (i_var 8 rfl) (a_cons (i_var 5 rfl) (a_cons (i_var 9 rfl) a_nil))) fun H H1 vs Q s1 m k => ⟨z, pp, o, m, by omega, by omega, by omega, fun t' ht v H' s mm => (by rw [z3] at ht; cases ht; exact k v H' s mm), fun hn => (by rw [z2] at hn; cases hn)⟩) (i_var 2 rfl)).to (by rw [Tm.py_eq]; rfl)) (fun z => nomatch z) (fun _ => g_on ?_)
  cases o with
  | v x =>
    have hxl : x.length ≤ 100 := by
      have := List.all_eq_true.mp Dr.short _ (Tm.at_mem pp t _ ho)
      simpa [shortN] using this
    refine g_set 10 scLaw.nd rfl (i_catT (ds := pp.map fun i => .int (i : Nat)) (es := [.int ((x.length : Nat) - 1)]) (by rw [List.length_map]; show pp.length + 1 ≤ _; omega) (i_var 5 rfl) (i_tup (a_cons (i_sub (i_lenS (by omega) ml (i_var 9 rfl)) i_int) a_nil))) ?_
    refine g_if (k := true) (t_val (i_isi (T := "str") mI (v_bltn mS (by decide +kernel) rfl) (i_var 9 rfl) k_ss)) (fun _ => ?_) (fun z => nomatch z)
    refine g_setX (A := fun d => ∃ j : Nat, d = pl (pp ++ [j])) 10 scLaw.nd rfl (x_catT (x_i (i_var 5 rfl)) (x_tup (ax_cons (x_call (i := 1) hTake hr (by omega) rfl (a_cons i_int a_nil) ⟨3, rfl, by decide, by decide⟩) (ax_of a_nil)) (fun ds ⟨_, _, e, _, e2⟩ => by rw [e, e2]; simp)) (fun dx dy ex ⟨ds, ey, ⟨d0, r0, e0, ⟨k0, j, _, _, ej⟩, er⟩⟩ => ?_)) (fun d ⟨j, ed⟩ => g_on ?_)
    · subst ex ey e0 er ej
      exact ⟨_, _, rfl, rfl, by rw [List.length_map]; show pp.length + 1 ≤ _; omega, j, by show PyData.tuple _ = PyData.tuple _; rw [List.map_append (l₁ := pp)]; rfl⟩
    subst ed
    have hn : t.at (pp ++ [j]) = none := by rw [Tm.at_snoc, ho]; rfl
    refine g_sub (Γ' := [.no, .no, .im t.py, .im u.py, .no, .no, .no, .im z.py, .no, .no, .im (pl (pp ++ [j]))]) (.n (.n (.k (.k (.n (.n (.k (.k (.n (.n (.k .nil))))))))))) ?_
    have hn2 : t.at (pp ++ [j] ++ [0]) = none := by rw [Tm.at_snoc, hn]; rfl
    refine g_if (k := false) (t_bool (tw_or (x := false) (y := false) (t_not (x := true) (t_val (i_call hRef hr (by omega) ⟨t, pp ++ [j], rfl, hn, by omega, by omega, by rw [List.length_append]; show pp.length + 1 ≤ _; omega, rfl⟩ (a_cons (i_var 2 rfl) (a_cons (i_var 10 rfl) a_nil))))) fun _ =>
      tw_or1 (t_not (x := true) (t_val (i_call hRef hr (by omega) ⟨t, pp ++ [j] ++ [0], rfl, hn2, by omega, by omega, by rw [List.length_append, List.length_append]; show pp.length + 1 + 1 ≤ _; omega, rfl⟩ (a_cons (i_var 2 rfl) (a_cons ((i_catT (ds := (pp ++ [j]).map fun i => .int (i : Nat)) (es := [.int 0]) (by rw [List.length_map, List.length_append]; show pp.length + 1 + 1 ≤ _; omega) (i_var 10 rfl) (i_tup (a_cons i_int a_nil))).to (by show PyData.tuple _ = PyData.tuple _; rw [List.map_append (l₁ := pp ++ [j])]; rfl)) a_nil))))))) (fun z => nomatch z) (fun _ => g_on ?_)
    refine g_retI (i_and (i_call hLi hr (by omega) ⟨t, rfl, by omega, by omega, by omega, rfl⟩ (a_cons (i_var 2 rfl) a_nil)) fun _ => i_and (i_call hLi hr (by omega) ⟨u, rfl, by omega, by omega, by omega, rfl⟩ (a_cons (i_var 3 rfl) a_nil)) fun _ => i_one (i_call hLi hr (by omega) ⟨z, rfl, by omega, by omega, by omega, rfl⟩ (a_cons (i_var 7 rfl) a_nil))) fun v H' b m => ?_
    have ev := m.bl_inv
    subst ev
    exact q H' b.nil
  | a fn as =>
    have e1 : (((PyData.str fn :: Tm.pys as).length : Nat) : Int) - 1 = ((as.length : Nat) : Int) := by rw [List.length_cons, Tm.pys_len]; omega
    refine g_set 10 scLaw.nd rfl ((i_catT (ds := pp.map fun i => .int (i : Nat)) (es := [.int (as.length : Nat)]) (by rw [List.length_map]; show pp.length + 1 ≤ _; omega) (i_var 5 rfl) (i_tup (a_cons ((i_sub (i_lenT ml (i_var 9 rfl)) i_int).to (congrArg PyData.int e1)) a_nil))).to (d' := pl (pp ++ [as.length])) (by show PyData.tuple _ = PyData.tuple _; rw [List.map_append (l₁ := pp)]; rfl)) ?_
    refine g_if (k := false) (t_val (i_isi (T := "str") mI (v_bltn mS (by decide +kernel) rfl) (i_var 9 rfl) k_ts)) (fun z => nomatch z) (fun _ => g_on ?_)
    have hn : t.at (pp ++ [as.length]) = none := by
      rw [Tm.at_snoc, ho]
      show as[as.length]? = none
      exact List.getElem?_eq_none (Nat.le_refl _)
    refine g_sub (Γ' := [.no, .no, .im t.py, .im u.py, .no, .no, .no, .im z.py, .no, .no, .im (pl (pp ++ [as.length]))]) (.n (.n (.k (.k (.n (.n (.k (.k (.n (.n (.k .nil))))))))))) ?_
    have hn2 : t.at (pp ++ [as.length] ++ [0]) = none := by rw [Tm.at_snoc, hn]; rfl
    refine g_if (k := false) (t_bool (tw_or (x := false) (y := false) (t_not (x := true) (t_val (i_call hRef hr (by omega) ⟨t, pp ++ [as.length], rfl, hn, by omega, by omega, by rw [List.length_append]; show pp.length + 1 ≤ _; omega, rfl⟩ (a_cons (i_var 2 rfl) (a_cons (i_var 10 rfl) a_nil))))) fun _ =>
      tw_or1 (t_not (x := true) (t_val (i_call hRef hr (by omega) ⟨t, pp ++ [as.length] ++ [0], rfl, hn2, by omega, by omega, by rw [List.length_append, List.length_append]; show pp.length + 1 + 1 ≤ _; omega, rfl⟩ (a_cons (i_var 2 rfl) (a_cons ((i_catT (ds := (pp ++ [as.length]).map fun i => .int (i : Nat)) (es := [.int 0]) (by rw [List.length_map, List.length_append]; show pp.length + 1 + 1 ≤ _; omega) (i_var 10 rfl) (i_tup (a_cons i_int a_nil))).to (by show PyData.tuple _ = PyData.tuple _; rw [List.map_append (l₁ := pp ++ [as.length])]; rfl)) a_nil))))))) (fun z => nomatch z) (fun _ => g_on ?_)
    refine g_retI (i_and (i_call hLi hr (by omega) ⟨t, rfl, by omega, by omega, by omega, rfl⟩ (a_cons (i_var 2 rfl) a_nil)) fun _ => i_and (i_call hLi hr (by omega) ⟨u, rfl, by omega, by omega, by omega, rfl⟩ (a_cons (i_var 3 rfl) a_nil)) fun _ => i_one (i_call hLi hr (by omega) ⟨z, rfl, by omega, by omega, by omega, rfl⟩ (a_cons (i_var 7 rfl) a_nil))) fun v H' b m => ?_
    have ev := m.bl_inv
    subst ev
    exact q H' b.nil
end
end K86

namespace K86
open PySem PySem.Spec PyProof.Rows L2 G
theorem all_mk {l : PySem.W.OpenLaw} {w : World} {K : PySem.W.Frag} {h : Heap} {mg : Str → Option Value} {fa C W : Addr} (X : K.In h) (GN : h.Ns mainGlobals mg) (hfa : mg "law" = some (.ref fa))
    {f1 f2 f3 f4 f5 f6 f7 f8 f9 f10 f11 f12 f13 f14 f15 f16 f17 f18 : Addr} {od1 an1 od2 an2 od3 an3 od4 an4 od5 an5 od6 an6 od7 an7 od8 an8 od9 an9 od10 an10 od11 an11 od12 an12 od13 an13 od14 an14 od15 an15 od16 an16 od17 an17 od18 an18 : Option Addr} {sl1 sl2 sl3 sl4 sl5 sl6 sl7 sl8 sl9 sl10 sl11 sl12 sl13 sl14 sl15 sl16 sl17 sl18 : Array (Option Value)} {oc1 kV1 dc1 pm1 cd1 ct1 oc2 kV2 dc2 pm2 cd2 ct2 oc3 kV3 dc3 pm3 cd3 ct3 oc4 kV4 dc4 pm4 cd4 ct4 oc5 kV5 dc5 pm5 cd5 ct5 oc6 kV6 dc6 pm6 cd6 ct6 oc7 kV7 dc7 pm7 cd7 ct7 oc8 kV8 dc8 pm8 cd8 ct8 oc9 kV9 dc9 pm9 cd9 ct9 oc10 kV10 dc10 pm10 cd10 ct10 oc11 kV11 dc11 pm11 cd11 ct11 oc12 kV12 dc12 pm12 cd12 ct12 oc13 kV13 dc13 pm13 cd13 ct13 oc14 kV14 dc14 pm14 cd14 ct14 oc15 kV15 dc15 pm15 cd15 ct15 oc16 kV16 dc16 pm16 cd16 ct16 oc17 kV17 dc17 pm17 cd17 ct17 oc18 kV18 dc18 pm18 cd18 ct18 : Value}
    (a1 : PySem.W.nsIn K mainGlobals "places_of" = some (some (.ref f1))) (l1 : K.lookup f1 = some ⟨oc1, od1, .func (PySem.W.fnOf "places_of" "places_of" (defArgs sPlaces) (defBody sPlaces) (defScope sPlaces) .none kV1 dc1 pm1 an1 cd1 ct1), sl1⟩) (c1 : PySem.W.codeIn K cd1 "places_of" = true) (k1 : PySem.W.keepIn K (.ref f1) = true)
    (a2 : PySem.W.nsIn K mainGlobals "part_at" = some (some (.ref f2))) (l2 : K.lookup f2 = some ⟨oc2, od2, .func (PySem.W.fnOf "part_at" "part_at" (defArgs sPart) (defBody sPart) (defScope sPart) .none kV2 dc2 pm2 an2 cd2 ct2), sl2⟩) (c2 : PySem.W.codeIn K cd2 "part_at" = true) (k2 : PySem.W.keepIn K (.ref f2) = true)
    (a3 : PySem.W.nsIn K mainGlobals "replace_at" = some (some (.ref f3))) (l3 : K.lookup f3 = some ⟨oc3, od3, .func (PySem.W.fnOf "replace_at" "replace_at" (defArgs sRep) (defBody sRep) (defScope sRep) .none kV3 dc3 pm3 an3 cd3 ct3), sl3⟩) (c3 : PySem.W.codeIn K cd3 "replace_at" = true) (k3 : PySem.W.keepIn K (.ref f3) = true)
    (a4 : PySem.W.nsIn K mainGlobals "parts_of" = some (some (.ref f4))) (l4 : K.lookup f4 = some ⟨oc4, od4, .func (PySem.W.fnOf "parts_of" "parts_of" (defArgs sParts) (defBody sParts) (defScope sParts) .none kV4 dc4 pm4 an4 cd4 ct4), sl4⟩) (c4 : PySem.W.codeIn K cd4 "parts_of" = true) (k4 : PySem.W.keepIn K (.ref f4) = true)
    (a5 : PySem.W.nsIn K mainGlobals "unknowns_of" = some (some (.ref f5))) (l5 : K.lookup f5 = some ⟨oc5, od5, .func (PySem.W.fnOf "unknowns_of" "unknowns_of" (defArgs sUnk) (defBody sUnk) (defScope sUnk) .none kV5 dc5 pm5 an5 cd5 ct5), sl5⟩) (c5 : PySem.W.codeIn K cd5 "unknowns_of" = true) (k5 : PySem.W.keepIn K (.ref f5) = true)
    (a6 : PySem.W.nsIn K mainGlobals "term_size" = some (some (.ref f6))) (l6 : K.lookup f6 = some ⟨oc6, od6, .func (PySem.W.fnOf "term_size" "term_size" (defArgs sSize) (defBody sSize) (defScope sSize) .none kV6 dc6 pm6 an6 cd6 ct6), sl6⟩) (c6 : PySem.W.codeIn K cd6 "term_size" = true) (k6 : PySem.W.keepIn K (.ref f6) = true)
    (a7 : PySem.W.nsIn K mainGlobals "_arguments" = some (some (.ref f7))) (l7 : K.lookup f7 = some ⟨oc7, od7, .func (PySem.W.fnOf "_arguments" "_arguments" (defArgs sArgs) (defBody sArgs) (defScope sArgs) .none kV7 dc7 pm7 an7 cd7 ct7), sl7⟩) (c7 : PySem.W.codeIn K cd7 "_arguments" = true) (k7 : PySem.W.keepIn K (.ref f7) = true)
    (a8 : PySem.W.nsIn K mainGlobals "_check_index" = some (some (.ref f8))) (l8 : K.lookup f8 = some ⟨oc8, od8, .func (PySem.W.fnOf "_check_index" "_check_index" (defArgs sChk) (defBody sChk) (defScope sChk) .none kV8 dc8 pm8 an8 cd8 ct8), sl8⟩) (c8 : PySem.W.codeIn K cd8 "_check_index" = true) (k8 : PySem.W.keepIn K (.ref f8) = true)
    (a9 : PySem.W.nsIn K mainGlobals "_all_parts" = some (some (.ref f9))) (l9 : K.lookup f9 = some ⟨oc9, od9, .func (PySem.W.fnOf "_all_parts" "_all_parts" (defArgs sAll) (defBody sAll) (defScope sAll) .none kV9 dc9 pm9 an9 cd9 ct9), sl9⟩) (c9 : PySem.W.codeIn K cd9 "_all_parts" = true) (k9 : PySem.W.keepIn K (.ref f9) = true)
    (a10 : PySem.W.nsIn K mainGlobals "_law_start" = some (some (.ref f10))) (l10 : K.lookup f10 = some ⟨oc10, od10, .func (PySem.W.fnOf "_law_start" "_law_start" (defArgs sStart) (defBody sStart) (defScope sStart) .none kV10 dc10 pm10 an10 cd10 ct10), sl10⟩) (c10 : PySem.W.codeIn K cd10 "_law_start" = true) (k10 : PySem.W.keepIn K (.ref f10) = true)
    (a11 : PySem.W.nsIn K mainGlobals "_law_take" = some (some (.ref f11))) (l11 : K.lookup f11 = some ⟨oc11, od11, .func (PySem.W.fnOf "_law_take" "_law_take" (defArgs sTake) (defBody sTake) (defScope sTake) .none kV11 dc11 pm11 an11 cd11 ct11), sl11⟩) (c11 : PySem.W.codeIn K cd11 "_law_take" = true) (k11 : PySem.W.keepIn K (.ref f11) = true)
    (a12 : PySem.W.nsIn K mainGlobals "_law_term" = some (some (.ref f12))) (l12 : K.lookup f12 = some ⟨oc12, od12, .func (PySem.W.fnOf "_law_term" "_law_term" (defArgs sTerm) (defBody sTerm) (defScope sTerm) .none kV12 dc12 pm12 an12 cd12 ct12), sl12⟩) (c12 : PySem.W.codeIn K cd12 "_law_term" = true) (k12 : PySem.W.keepIn K (.ref f12) = true)
    (a13 : PySem.W.nsIn K mainGlobals "_law_places" = some (some (.ref f13))) (l13 : K.lookup f13 = some ⟨oc13, od13, .func (PySem.W.fnOf "_law_places" "_law_places" (defArgs sLPl) (defBody sLPl) (defScope sLPl) .none kV13 dc13 pm13 an13 cd13 ct13), sl13⟩) (c13 : PySem.W.codeIn K cd13 "_law_places" = true) (k13 : PySem.W.keepIn K (.ref f13) = true)
    (a14 : PySem.W.nsIn K mainGlobals "_law_part" = some (some (.ref f14))) (l14 : K.lookup f14 = some ⟨oc14, od14, .func (PySem.W.fnOf "_law_part" "_law_part" (defArgs sLPa) (defBody sLPa) (defScope sLPa) .none kV14 dc14 pm14 an14 cd14 ct14), sl14⟩) (c14 : PySem.W.codeIn K cd14 "_law_part" = true) (k14 : PySem.W.keepIn K (.ref f14) = true)
    (a15 : PySem.W.nsIn K mainGlobals "_law_put" = some (some (.ref f15))) (l15 : K.lookup f15 = some ⟨oc15, od15, .func (PySem.W.fnOf "_law_put" "_law_put" (defArgs sLPu) (defBody sLPu) (defScope sLPu) .none kV15 dc15 pm15 an15 cd15 ct15), sl15⟩) (c15 : PySem.W.codeIn K cd15 "_law_put" = true) (k15 : PySem.W.keepIn K (.ref f15) = true)
    (a16 : PySem.W.nsIn K mainGlobals "_law_refused" = some (some (.ref f16))) (l16 : K.lookup f16 = some ⟨oc16, od16, .func (PySem.W.fnOf "_law_refused" "_law_refused" (defArgs sRef) (defBody sRef) (defScope sRef) .none kV16 dc16 pm16 an16 cd16 ct16), sl16⟩) (c16 : PySem.W.codeIn K cd16 "_law_refused" = true) (k16 : PySem.W.keepIn K (.ref f16) = true)
    (a17 : PySem.W.nsIn K mainGlobals "_law_listed" = some (some (.ref f17))) (l17 : K.lookup f17 = some ⟨oc17, od17, .func (PySem.W.fnOf "_law_listed" "_law_listed" (defArgs sLi) (defBody sLi) (defScope sLi) .none kV17 dc17 pm17 an17 cd17 ct17), sl17⟩) (c17 : PySem.W.codeIn K cd17 "_law_listed" = true) (k17 : PySem.W.keepIn K (.ref f17) = true)
    (a18 : PySem.W.nsIn K mainGlobals "law" = some (some (.ref f18))) (l18 : K.lookup f18 = some ⟨oc18, od18, .func (PySem.W.fnOf "law" "law" (defArgs sLaw) (defBody sLaw) (defScope sLaw) .none kV18 dc18 pm18 an18 cd18 ct18), sl18⟩) (c18 : PySem.W.codeIn K cd18 "law" = true) (k18 : PySem.W.keepIn K (.ref f18) = true)
    (z1 : PySem.W.nsIn K mainGlobals "isinstance" = some none)
    (z2 : PySem.W.nsIn K mainGlobals "str" = some none)
    (z3 : PySem.W.nsIn K mainGlobals "len" = some none)
    (z4 : PySem.W.nsIn K mainGlobals "enumerate" = some none)
    (z5 : PySem.W.nsIn K mainGlobals "list" = some none)
    (z6 : PySem.W.nsIn K mainGlobals "range" = some none)
    (z7 : PySem.W.nsIn K mainGlobals "abs" = some none)
    (z8 : PySem.W.nsIn K mainGlobals "int" = some none)
    (z9 : PySem.W.nsIn K mainGlobals "tuple" = some none)
    (z10 : PySem.W.nsIn K mainGlobals "bool" = some none)
    (aC : PySem.W.nsIn K mainGlobals "BadPlace" = some (some (.ref C))) (qC : PySem.W.excIn K C veMro "ValueError.__new__" = true) (kC : PySem.W.keepIn K (.ref C) = true) (bC : PySem.W.subIn K (.ref C) (.type "BaseException") = some true) (tC : PySem.W.typeIn K (.ref C) = some (.type "type")) (iC : PySem.W.hasDictIn K C = true)
    (aW : PySem.W.nsIn K mainGlobals "WorldOrPaperError" = some (some (.ref W))) (qW : PySem.W.excIn K W veMro "ValueError.__new__" = true) (kW : PySem.W.keepIn K (.ref W) = true) (bW : PySem.W.subIn K (.ref W) (.type "BaseException") = some true) (tW : PySem.W.typeIn K (.ref W) = some (.type "type")) (iW : PySem.W.hasDictIn K W = true)
    (sb : PySem.W.subIn K (.ref C) (.ref W) = some true) (kt : PySem.W.kitOne K (.ref C) (.ref C) = some true)
    (e1 : PySem.W.findIn K (.ref C) "__getattribute__" = some (some (.builtin "BaseException.__getattribute__"))) (e2 : PySem.W.findIn K (.ref C) "__getattr__" = some none) (e5 : PySem.W.findIn K (.ref C) "__class__" = some (some (.builtin "object.__class__"))) (e6 : PySem.W.specialIn K (.builtin "object.__class__") "__get__" = some (some (.builtin "getset_descriptor.__get__")))
    (e7 : PySem.W.takesIn K (.builtin "object.__class__") = some true) (e8 : PySem.W.mroIn K C (.type "object") = some true) :
    ∃ fd : FuncData, (∀ (s : Shared) (v : Value), BindsTo s fd ⟨[v], []⟩ [("_law_script", v)]) ∧ ∀ base : Heap, K.In base → base.Ns mainGlobals mg → FnOk l.prog w K mg base CX0 18 fa fd ["_law_script"] (spLaw K) := by
  have e := hfa.symm.trans (PySem.W.mg_of X GN a18)
  cases e
  have F1 := fun_mk (st := sPlaces) l1 c1 k1
  have b1 := F1.binds (ps := ["term"]) fun _ _ _ _ _ _ us hl => match us, hl with | [_], _ => rfl
  have m1 := PySem.W.mg_of X GN a1
  have F2 := fun_mk (st := sPart) l2 c2 k2
  have b2 := F2.binds (ps := ["term", "place"]) fun _ _ _ _ _ _ us hl => match us, hl with | [_, _], _ => rfl
  have m2 := PySem.W.mg_of X GN a2
  have F3 := fun_mk (st := sRep) l3 c3 k3
  have b3 := F3.binds (ps := ["term", "place", "part"]) fun _ _ _ _ _ _ us hl => match us, hl with | [_, _, _], _ => rfl
  have m3 := PySem.W.mg_of X GN a3
  have F4 := fun_mk (st := sParts) l4 c4 k4
  have b4 := F4.binds (ps := ["term"]) fun _ _ _ _ _ _ us hl => match us, hl with | [_], _ => rfl
  have m4 := PySem.W.mg_of X GN a4
  have F5 := fun_mk (st := sUnk) l5 c5 k5
  have b5 := F5.binds (ps := ["term"]) fun _ _ _ _ _ _ us hl => match us, hl with | [_], _ => rfl
  have m5 := PySem.W.mg_of X GN a5
  have F6 := fun_mk (st := sSize) l6 c6 k6
  have b6 := F6.binds (ps := ["term"]) fun _ _ _ _ _ _ us hl => match us, hl with | [_], _ => rfl
  have m6 := PySem.W.mg_of X GN a6
  have F7 := fun_mk (st := sArgs) l7 c7 k7
  have b7 := F7.binds (ps := ["term"]) fun _ _ _ _ _ _ us hl => match us, hl with | [_], _ => rfl
  have m7 := PySem.W.mg_of X GN a7
  have F8 := fun_mk (st := sChk) l8 c8 k8
  have b8 := F8.binds (ps := ["part", "index"]) fun _ _ _ _ _ _ us hl => match us, hl with | [_, _], _ => rfl
  have m8 := PySem.W.mg_of X GN a8
  have F9 := fun_mk (st := sAll) l9 c9 k9
  have b9 := F9.binds (ps := ["term"]) fun _ _ _ _ _ _ us hl => match us, hl with | [_], _ => rfl
  have m9 := PySem.W.mg_of X GN a9
  have F10 := fun_mk (st := sStart) l10 c10 k10
  have b10 := F10.binds (ps := ["_law_script"]) fun _ _ _ _ _ _ us hl => match us, hl with | [_], _ => rfl
  have m10 := PySem.W.mg_of X GN a10
  have F11 := fun_mk (st := sTake) l11 c11 k11
  have b11 := F11.binds (ps := ["_law_state", "_law_many"]) fun _ _ _ _ _ _ us hl => match us, hl with | [_, _], _ => rfl
  have m11 := PySem.W.mg_of X GN a11
  have F12 := fun_mk (st := sTerm) l12 c12 k12
  have b12 := F12.binds (ps := ["_law_state", "_law_depth"]) fun _ _ _ _ _ _ us hl => match us, hl with | [_, _], _ => rfl
  have m12 := PySem.W.mg_of X GN a12
  have F13 := fun_mk (st := sLPl) l13 c13 k13
  have b13 := F13.binds (ps := ["_law_term_here"]) fun _ _ _ _ _ _ us hl => match us, hl with | [_], _ => rfl
  have m13 := PySem.W.mg_of X GN a13
  have F14 := fun_mk (st := sLPa) l14 c14 k14
  have b14 := F14.binds (ps := ["_law_term_here", "_law_place"]) fun _ _ _ _ _ _ us hl => match us, hl with | [_, _], _ => rfl
  have m14 := PySem.W.mg_of X GN a14
  have F15 := fun_mk (st := sLPu) l15 c15 k15
  have b15 := F15.binds (ps := ["_law_term_here", "_law_place", "_law_part_here"]) fun _ _ _ _ _ _ us hl => match us, hl with | [_, _, _], _ => rfl
  have m15 := PySem.W.mg_of X GN a15
  have F16 := fun_mk (st := sRef) l16 c16 k16
  have b16 := F16.binds (ps := ["_law_term_here", "_law_place"]) fun _ _ _ _ _ _ us hl => match us, hl with | [_, _], _ => rfl
  have m16 := PySem.W.mg_of X GN a16
  have F17 := fun_mk (st := sLi) l17 c17 k17
  have b17 := F17.binds (ps := ["_law_term_here"]) fun _ _ _ _ _ _ us hl => match us, hl with | [_], _ => rfl
  have m17 := PySem.W.mg_of X GN a17
  have F18 := fun_mk (st := sLaw) l18 c18 k18
  have n1 := PySem.W.mg_none_of X GN z1
  have n2 := PySem.W.mg_none_of X GN z2
  have n3 := PySem.W.mg_none_of X GN z3
  have n4 := PySem.W.mg_none_of X GN z4
  have n5 := PySem.W.mg_none_of X GN z5
  have n6 := PySem.W.mg_none_of X GN z6
  have n7 := PySem.W.mg_none_of X GN z7
  have n8 := PySem.W.mg_none_of X GN z8
  have n9 := PySem.W.mg_none_of X GN z9
  have n10 := PySem.W.mg_none_of X GN z10
  have XC : ExcF K mg "BadPlace" C := ⟨qC, PySem.W.mg_of X GN aC, kC, bC, tC, iC⟩
  have XW : ExcF K mg "WorldOrPaperError" W := ⟨qW, PySem.W.mg_of X GN aW, kW, bW, tW, iW⟩
  have EC : ExcC K C := ⟨e1, e2, bC, iC, e5, e6, e7, e8⟩
  refine ⟨PySem.W.fnOf "law" "law" (defArgs sLaw) (defBody sLaw) (defScope sLaw) .none kV18 dc18 pm18 an18 cd18 ct18, fun s v => .of_eq rfl, fun base _ _ => ?_⟩
  have hArgs : Has l.prog w K mg base CX0 1 "_arguments" ["term"] (spI K AArgs) := ⟨⟨_, _, ok_args F7 n1 n2, m7, F7.kp, b7⟩⟩
  have hPl : ∀ n, Has l.prog w K mg base CX0 (n + 2) "places_of" ["term"] (spL K (APl n)) := fun n => by
    induction n using Nat.strongRecOn with
    | _ n ih => exact ⟨⟨_, _, ok_places F1 n4 hArgs n ih, m1, F1.kp, b1⟩⟩
  have hAll : ∀ n, Has l.prog w K mg base CX0 (n + 2) "_all_parts" ["term"] (spL K (AAll n)) := fun n => by
    induction n using Nat.strongRecOn with
    | _ n ih => exact ⟨⟨_, _, ok_all F9 hArgs n ih, m9, F9.kp, b9⟩⟩
  have hSz : Has l.prog w K mg base CX0 15 "term_size" ["term"] (spI K (ASize 12)) := ⟨⟨_, _, ok_size F6 n3 (hAll 12), m6, F6.kp, b6⟩⟩
  have hPs : Has l.prog w K mg base CX0 15 "parts_of" ["term"] (spL K (AParts 12)) := ⟨⟨_, _, ok_parts F4 (hAll 12), m4, F4.kp, b4⟩⟩
  have hUn : Has l.prog w K mg base CX0 15 "unknowns_of" ["term"] (spL K (AUnk 12)) := ⟨⟨_, _, ok_unk F5 n1 n2 n5 (hAll 12), m5, F5.kp, b5⟩⟩
  have hChk : Has l.prog w K mg base (L2.CX l.prog w) 2 "_check_index" ["part", "index"] (spChk K C) := ⟨⟨_, _, ok_chk F8 n3 XC hArgs, m8, F8.kp, b8⟩⟩
  have hPart : Has l.prog w K mg base (L2.CX l.prog w) 3 "part_at" ["term", "place"] (spPart K C) := ⟨⟨_, _, ok_part F2 hChk, m2, F2.kp, b2⟩⟩
  have hRep : ∀ n, Has l.prog w K mg base (L2.CX l.prog w) (n + 3) "replace_at" ["term", "place", "part"] (spRep K C n) := fun n => by
    induction n using Nat.strongRecOn with
    | _ n ih => exact ⟨⟨_, _, ok_rep F3 n3 hChk n ih, m3, F3.kp, b3⟩⟩
  have hStart : Has l.prog w K mg base CX0 1 "_law_start" ["_law_script"] (spStart K) := ⟨⟨_, _, ok_start F10 n6 n3 n7 n8, m10, F10.kp, b10⟩⟩
  have hTake : Has l.prog w K mg base CX0 1 "_law_take" ["_law_state", "_law_many"] (G.spS K ATake (fun _ => 1) BTake) := ⟨⟨_, _, ok_take F11 n3 n8, m11, F11.kp, b11⟩⟩
  have hTerm : ∀ n, Has l.prog w K mg base CX0 (n + 2) "_law_term" ["_law_state", "_law_depth"] (G.spS K (ATm n) cTm BTm) := fun n => by
    induction n using Nat.strongRecOn with
    | _ n ih => exact ⟨⟨_, _, ok_term F12 hTake n ih, m12, F12.kp, b12⟩⟩
  have hLPl : ∀ n, Has l.prog w K mg base CX0 (n + 1) "_law_places" ["_law_term_here"] (spL K (APl n)) := fun n => by
    induction n using Nat.strongRecOn with
    | _ n ih => exact ⟨⟨_, _, ok_lpl F13 n1 n2 n6 n3 n ih, m13, F13.kp, b13⟩⟩
  have hLPa : Has l.prog w K mg base CX0 1 "_law_part" ["_law_term_here", "_law_place"] (spI K APart) := ⟨⟨_, _, ok_lpa F14, m14, F14.kp, b14⟩⟩
  have hPut : ∀ n, Has l.prog w K mg base CX0 (n + 1) "_law_put" ["_law_term_here", "_law_place", "_law_part_here"] (spI K (APut n)) := fun n => by
    induction n using Nat.strongRecOn with
    | _ n ih => exact ⟨⟨_, _, ok_lpu F15 n3 n5 n9 n ih, m15, F15.kp, b15⟩⟩
  have hRef : Has l.prog w K mg base CX0 16 "_law_refused" ["_law_term_here", "_law_place"] (spI K (ARef 12)) := ⟨⟨_, _, ok_ref F16 n1 XW sb EC XC.g kt hPart (hRep 12), m16, F16.kp, b16⟩⟩
  have hLi : Has l.prog w K mg base CX0 16 "_law_listed" ["_law_term_here"] (spI K (ALi 12)) := ⟨⟨_, _, ok_listed F17 n1 n2 n8 n10 n3 (hLPl 12) hLPa (hPl 12) hSz hPs hUn, m17, F17.kp, b17⟩⟩
  exact ok_law F18 n1 n2 n3 hStart hTake hTerm (hLPl 12) hLPa hPart (hRep 12) (hPut 12) hRef hLi
theorem walk {l : PySem.W.OpenLaw} {q : Program} {loose : List Str} {XP : (Str → Option Value) → Heap → Prop} {YP : World → Heap → Prop} {d : DefRec} {K : Params → PySem.W.Frag} (hn : l.most = some 63) (hdf : d.params.defaults = [])
    (hY : ∀ (w : World) (h : Heap), YP w h → (K w.params).In h)
    (F : ∀ (w : World) (mg : Str → Option Value) (fa : Addr) (h : Heap), (K w.params).In h → h.Ns mainGlobals mg → mg d.name = some (.ref fa) →
      ∃ fd : FuncData, (∀ (s : Shared) (u : Value), BindsTo s fd ⟨[u], []⟩ [("_law_script", u)]) ∧ ∀ base : Heap, (K w.params).In base → base.Ns mainGlobals mg → FnOk l.prog w (K w.params) mg base CX0 18 fa fd ["_law_script"] (spLaw (K w.params))) :
    PySem.W.WalkO q loose XP YP l.row.toRowW d [] (fun f vs => PySem.call f vs) :=
  L2.walk_of (n := 63) (k := 18) (x := "_law_script") (CX := fun _ => CX0) (sp := fun w => spLaw (K w.params)) hn (by decide) hdf ⟨rfl, by decide, by decide⟩ hY F (fun _ _ a ns hl _ hS => ⟨a, ns.map V.int, ns, rfl, hS, ims_int ns, hl, fun _ _ => rfl⟩) fun _ _ _ _ _ z => z
end K86
open PySem PySem.W PyProof.Rows
set_option maxRecDepth 100000 in
set_option maxHeartbeats 0 in
theorem PySem.Challenge.cw_worldorpaper_k86_parts_and_places_holds : PySem.Challenge.rw_worldorpaper_k86_parts_and_places.Holds := by
  w_on; o_law; k_head; (case hw => w_witness2)
  k_fill
  refine K86.walk (l := PySem.Challenge.rw_worldorpaper_k86_parts_and_places) rfl rfl (fun w h Y => PySem.W.kIn_of Y) ?F
  case F =>
    intro w mg fa h KX G hmg
    refine' K86.all_mk KX G hmg ?a1 ?l1 ?c1 ?k1 ?a2 ?l2 ?c2 ?k2 ?a3 ?l3 ?c3 ?k3 ?a4 ?l4 ?c4 ?k4 ?a5 ?l5 ?c5 ?k5 ?a6 ?l6 ?c6 ?k6 ?a7 ?l7 ?c7 ?k7 ?a8 ?l8 ?c8 ?k8 ?a9 ?l9 ?c9 ?k9 ?a10 ?l10 ?c10 ?k10 ?a11 ?l11 ?c11 ?k11 ?a12 ?l12 ?c12 ?k12 ?a13 ?l13 ?c13 ?k13 ?a14 ?l14 ?c14 ?k14 ?a15 ?l15 ?c15 ?k15 ?a16 ?l16 ?c16 ?k16 ?a17 ?l17 ?c17 ?k17 ?a18 ?l18 ?c18 ?k18 ?z1 ?z2 ?z3 ?z4 ?z5 ?z6 ?z7 ?z8 ?z9 ?z10 ?aC ?qC ?kC ?bC ?tC ?iC ?aW ?qW ?kW ?bW ?tW ?iW ?sb ?kt ?e1 ?e2 ?e5 ?e6 ?e7 ?e8
    (case a1 => first | k_is | rfl)
    (case l1 => first | k_is | rfl)
    (case c1 => first | k_is | rfl)
    (case k1 => first | k_is | rfl)
    (case a2 => first | k_is | rfl)
    (case l2 => first | k_is | rfl)
    (case c2 => first | k_is | rfl)
    (case k2 => first | k_is | rfl)
    (case a3 => first | k_is | rfl)
    (case l3 => first | k_is | rfl)
    (case c3 => first | k_is | rfl)
    (case k3 => first | k_is | rfl)
    (case a4 => first | k_is | rfl)
    (case l4 => first | k_is | rfl)
    (case c4 => first | k_is | rfl)
    (case k4 => first | k_is | rfl)
    (case a5 => first | k_is | rfl)
    (case l5 => first | k_is | rfl)
    (case c5 => first | k_is | rfl)
    (case k5 => first | k_is | rfl)
    (case a6 => first | k_is | rfl)
    (case l6 => first | k_is | rfl)
    (case c6 => first | k_is | rfl)
    (case k6 => first | k_is | rfl)
    (case a7 => first | k_is | rfl)
    (case l7 => first | k_is | rfl)
    (case c7 => first | k_is | rfl)
    (case k7 => first | k_is | rfl)
    (case a8 => first | k_is | rfl)
    (case l8 => first | k_is | rfl)
    (case c8 => first | k_is | rfl)
    (case k8 => first | k_is | rfl)
    (case a9 => first | k_is | rfl)
    (case l9 => first | k_is | rfl)
    (case c9 => first | k_is | rfl)
    (case k9 => first | k_is | rfl)
    (case a10 => first | k_is | rfl)
    (case l10 => first | k_is | rfl)
    (case c10 => first | k_is | rfl)
    (case k10 => first | k_is | rfl)
    (case a11 => first | k_is | rfl)
    (case l11 => first | k_is | rfl)
    (case c11 => first | k_is | rfl)
    (case k11 => first | k_is | rfl)
    (case a12 => first | k_is | rfl)
    (case l12 => first | k_is | rfl)
    (case c12 => first | k_is | rfl)
    (case k12 => first | k_is | rfl)
    (case a13 => first | k_is | rfl)
    (case l13 => first | k_is | rfl)
    (case c13 => first | k_is | rfl)
    (case k13 => first | k_is | rfl)
    (case a14 => first | k_is | rfl)
    (case l14 => first | k_is | rfl)
    (case c14 => first | k_is | rfl)
    (case k14 => first | k_is | rfl)
    (case a15 => first | k_is | rfl)
    (case l15 => first | k_is | rfl)
    (case c15 => first | k_is | rfl)
    (case k15 => first | k_is | rfl)
    (case a16 => first | k_is | rfl)
    (case l16 => first | k_is | rfl)
    (case c16 => first | k_is | rfl)
    (case k16 => first | k_is | rfl)
    (case a17 => first | k_is | rfl)
    (case l17 => first | k_is | rfl)
    (case c17 => first | k_is | rfl)
    (case k17 => first | k_is | rfl)
    (case a18 => first | k_is | rfl)
    (case l18 => first | k_is | rfl)
    (case c18 => first | k_is | rfl)
    (case k18 => first | k_is | rfl)
    (case z1 => first | k_is | rfl)
    (case z2 => first | k_is | rfl)
    (case z3 => first | k_is | rfl)
    (case z4 => first | k_is | rfl)
    (case z5 => first | k_is | rfl)
    (case z6 => first | k_is | rfl)
    (case z7 => first | k_is | rfl)
    (case z8 => first | k_is | rfl)
    (case z9 => first | k_is | rfl)
    (case z10 => first | k_is | rfl)
    (case aC => first | k_is | rfl)
    (case qC => k_exc)
    (case kC => first | k_is | rfl)
    (case bC => first | k_is | rfl)
    (case tC => first | k_is | rfl)
    (case iC => first | k_is | rfl)
    (case aW => first | k_is | rfl)
    (case qW => k_exc)
    (case kW => first | k_is | rfl)
    (case bW => first | k_is | rfl)
    (case tW => first | k_is | rfl)
    (case iW => first | k_is | rfl)
    (case sb => first | k_is | rfl)
    (case kt => first | k_is | rfl)
    (case e1 => first | k_is | rfl)
    (case e2 => first | k_is | rfl)
    (case e5 => first | k_is | rfl)
    (case e6 => first | k_is | rfl)
    (case e7 => first | k_is | rfl)
    (case e8 => first | k_is | rfl)

