import PyProof.Rows.All
import Wide.All
import OpenK.AllK
import Wide.FinOn
import PyProof.EqAt
import PyProof.EqKinds
import PyProof.TupleCall
import KE.DataEq
import HandS.Base
import HandS.Call
import HandS.List
import HandS.Comp
import HandS.Ends
import HandS.Dict
import HandS.Iter
import HandS.Walk
import HandS.Text
import HandS.Exc
import HandS.TryOnly
import HandS.TryElse
import HandS.ExcOwn
import HandS.IsInst
import HandS.TupLe
import HandS.TupAny
import HandS.Wide
import HandS.Words
import HandS.WordsList
import HandS.WordsDict
import HandS.WordsExc
import KE.GoesNew
import HandS.Deep
import HandS.Conv
import HandS.ExcIs
import PyProof.StrBlock2
import HandS.More
import HandS.NoneIn
import HandS.Zip
import HandS.Rev
import HandS.Defaults
import HandS.DictComp
import HandS.DictEq
import HandS.DeepEq
import KE.KEqDict
import PyProof.NeKinds
import KE.SortKeyHeap
import HandS.SortKw
import HandS.SuiteRaise
import HandS.RaiseFrom
import HandS.StrMore
import HandS.Style
import HandS.FStr
import KE.DataMinMax
import HandS.RevRange
import KE.GoesEnumKw
import KE.KExcSuper
import KE.KSuper
import HandS.ExcInit
import HandS.Nested
import HandS.ExcField
import KE.KExcIs
import HandS.HotCalls
import HandS.CallSlots
import PyProof.AutoSeq1
import PySem.Challenge.RW_worldorpaper_k87_one_form_of_a_clause
set_option Elab.async false
set_option linter.all false
set_option maxRecDepth 100000
set_option maxHeartbeats 4000000
/-! G: weakest readings, data that cannot change, slots by what they hold. -/
namespace G
open PySem PySem.Spec PyProof.Rows L2
/-! ### the weakest reading of a piece of syntax -/
structure wE (X : Cx) (e : Expr) (σ : L2.St) (H : Hp) (Q : VK) : Prop where
  go : ∀ pins s, Inv X pins σ H s → wpAny (model X.prog X.w) X.A (eval e X.env) (EP X pins σ Q) X.xe s
structure wT (X : Cx) (e : Expr) (σ : L2.St) (H : Hp) (Q : Bool → Hp → Prop) : Prop where
  go : ∀ pins s, Inv X pins σ H s → wpAny (model X.prog X.w) X.A (isTrue e X.env (eval e X.env)) (TP X pins σ Q) X.xe s
structure wA (X : Cx) (es : List Expr) (σ : L2.St) (H : Hp) (Q : List V → Hp → Prop) : Prop where
  go : ∀ pos pins s, Inv X pins σ H s → wpAny (model X.prog X.w) X.A (spliced (backTo pos (starEach es X.env))) (AP X pins σ Q) X.xe s
structure wS (X : Cx) (st : Stmt) (D : Ends) (σ : L2.St) (H : Hp) : Prop where
  go : ∀ pins s, Inv X pins σ H s → wpAny (model X.prog X.w) X.A (exec st X.env) (SP X pins D) X.xe s
structure wSs (X : Cx) (st : List Stmt) (D : Ends) (σ : L2.St) (H : Hp) : Prop where
  go : ∀ pins s, Inv X pins σ H s → wpAny (model X.prog X.w) X.A (execs st X.env) (SP X pins D) X.xe s
section
variable {X : Cx} {e : Expr} {es : List Expr} {st : Stmt} {sts : List Stmt} {te : TE} {tt : TT} {ta : TA} {ts : TS} {σ : L2.St} {H : Hp}
theorem pe_w : PE X e (wE X e) := ⟨fun pins s _ _ _ I h => h.go pins s I⟩
theorem pt_w : PT X e (wT X e) := ⟨fun pins s _ _ _ I h => h.go pins s I⟩
theorem pa_w : PA X es (wA X es) := ⟨fun pos pins s _ _ _ I h => h.go pos pins s I⟩
theorem ps_w : PS X st (wS X st) := ⟨fun pins s _ _ _ I h => h.go pins s I⟩
theorem pss_w : PSs X sts (wSs X sts) := ⟨fun pins s _ _ _ I h => h.go pins s I⟩
theorem wE.of {Q : VK} (h : PE X e te) (q : te σ H Q) : wE X e σ H Q := ⟨fun pins s I => h.run pins s σ H Q I q⟩
theorem wT.of {Q : Bool → Hp → Prop} (h : PT X e tt) (q : tt σ H Q) : wT X e σ H Q := ⟨fun pins s I => h.run pins s σ H Q I q⟩
theorem wA.of {Q : List V → Hp → Prop} (h : PA X es ta) (q : ta σ H Q) : wA X es σ H Q := ⟨fun pos pins s I => h.run pos pins s σ H Q I q⟩
theorem wS.of {D : Ends} (h : PS X st ts) (q : ts D σ H) : wS X st D σ H := ⟨fun pins s I => h.run pins s σ H D I q⟩
theorem wSs.of {D : Ends} (h : PSs X sts ts) (q : ts D σ H) : wSs X sts D σ H := ⟨fun pins s I => h.run pins s σ H D I q⟩
theorem wE.mono {Q Q' : VK} (h : wE X e σ H Q) (q : ∀ v H', Q v H' → Q' v H') : wE X e σ H Q' := ⟨fun pins s I =>
  thn (h.go pins s I) fun _ _ ⟨v, H', I', r, z⟩ => ⟨v, H', I', r, q v H' z⟩⟩
theorem wT.mono {Q Q' : Bool → Hp → Prop} (h : wT X e σ H Q) (q : ∀ v H', Q v H' → Q' v H') : wT X e σ H Q' := ⟨fun pins s I =>
  thn (h.go pins s I) fun _ _ ⟨H', I', z⟩ => ⟨H', I', q _ H' z⟩⟩
theorem wA.mono {Q Q' : List V → Hp → Prop} (h : wA X es σ H Q) (q : ∀ v H', Q v H' → Q' v H') : wA X es σ H Q' := ⟨fun pos pins s I =>
  thn (h.go pos pins s I) fun _ _ ⟨v, H', I', r, z⟩ => ⟨v, H', I', r, q v H' z⟩⟩
end
/-- an argument without a star -/
def plainE : Expr → Bool
  | .Starred .. => false
  | _ => true
theorem star1 {e : Expr} {es : List Expr} {env : Env} (h : plainE e = true) : starEach (e :: es) env = (false, eval e env) :: starEach es env := by
  cases e <;> first | (rw [starEach]; exact fun _ _ z => nomatch z) | rfl | cases h
/-! ### tuples stay -/
def Gw (H H' : Hp) : Prop := (∀ b xs, H b = some (.tup xs) → H' b = some (.tup xs)) ∧ ∀ b o u, H b = some (.frz o u) → H' b = some (.frz o u)
theorem Gw.refl (H : Hp) : Gw H H := ⟨fun _ _ h => h, fun _ _ _ h => h⟩
theorem Gw.trans {H H1 H2 : Hp} (a : Gw H H1) (b : Gw H1 H2) : Gw H H2 := ⟨fun c xs h => b.1 c xs (a.1 c xs h), fun c o u h => b.2 c o u (a.2 c o u h)⟩
theorem Same.gw {H H' : Hp} (e : Same H H') : Gw H H' := ⟨fun c _ h => e c _ h, fun c _ _ h => e c _ h⟩
theorem same_new {H : Hp} {p : Addr} {o : HO} (h : H p = none) : Same H (upd H p o) := fun b u q => by rw [upd_ne (ne_of_none q h)]; exact q
theorem gw_mut {H : Hp} {p : Addr} {o : HO} (h : Mut (H p)) : Gw H (upd H p o) :=
  ⟨fun b xs q => by rw [upd_ne (fun z => by subst z; rw [q] at h; exact h)]; exact q, fun b o u q => by rw [upd_ne (fun z => by subst z; rw [q] at h; exact h)]; exact q⟩
theorem Gw.sqt {K : PySem.W.Frag} {H H' : Hp} {a : Addr} {xs : List V} (e : Gw H H') (h : SqT K H a xs) : SqT K H' a xs := by
  rcases h with (h | ⟨o, h⟩) | h
  · exact .inl (.inl (e.1 _ _ h))
  · exact .inl (.inr ⟨o, e.2 _ _ _ h⟩)
  · exact .inr h
/-! ### data without lists: it can't change -/
mutual
inductive Im (K : PySem.W.Frag) (H : Hp) : V → PyData → Prop
  | non : Im K H .non .none
  | bl (b : Bool) : Im K H (.bl b) (.bool b)
  | int (i : Int) : Im K H (.int i) (.int i)
  | str (x : Str) : Im K H (.str x) (.str x)
  | tup {a : Addr} {xs : List V} {ds : List PyData} : SqT K H a xs → ImAll K H xs ds → Im K H (.ref a) (.tuple ds)
inductive ImAll (K : PySem.W.Frag) (H : Hp) : List V → List PyData → Prop
  | nil : ImAll K H [] []
  | cons {v : V} {vs : List V} {d : PyData} {ds : List PyData} : Im K H v d → ImAll K H vs ds → ImAll K H (v :: vs) (d :: ds)
end
section
variable {K : PySem.W.Frag} {H H' : Hp}
mutual
theorem Im.gw (e : Gw H H') : ∀ (d : PyData) (v : V), Im K H v d → Im K H' v d
  | .none, _, h => by cases h; exact .non
  | .bool b, _, h => by cases h; exact .bl b
  | .int i, _, h => by cases h; exact .int i
  | .str x, _, h => by cases h; exact .str x
  | .tuple ds, _, h => by
    cases h with
    | tup a b => exact .tup (e.sqt a) (ImAll.gw e ds _ b)
  | .list _, _, h => by cases h
  | .dict _, _, h => by cases h
theorem ImAll.gw (e : Gw H H') : ∀ (ds : List PyData) (vs : List V), ImAll K H vs ds → ImAll K H' vs ds
  | [], _, h => by cases h; exact .nil
  | d :: ds, _, h => by
    cases h with
    | cons a b => exact .cons (Im.gw e d _ a) (ImAll.gw e ds _ b)
end
mutual
theorem Im.dp : ∀ (d : PyData) (v : V), Im K H v d → Dp K H v d
  | .none, _, h => by cases h; exact .non
  | .bool b, _, h => by cases h; exact .bl b
  | .int i, _, h => by cases h; exact .int i
  | .str x, _, h => by cases h; exact .str x
  | .tuple ds, _, h => by
    cases h with
    | tup a b => exact .tup a (ImAll.dp ds _ b)
  | .list _, _, h => by cases h
  | .dict _, _, h => by cases h
theorem ImAll.dp : ∀ (ds : List PyData) (vs : List V), ImAll K H vs ds → DpAll K H vs ds
  | [], _, h => by cases h; exact .nil
  | d :: ds, _, h => by
    cases h with
    | cons a b => exact .cons (Im.dp d _ a) (ImAll.dp ds _ b)
end
mutual
theorem Im.plain : ∀ (d : PyData) (v : V), Im K H v d → d.plain = true
  | .none, _, _ => rfl
  | .bool b, _, _ => rfl
  | .int i, _, _ => rfl
  | .str x, _, _ => rfl
  | .tuple ds, _, h => by
    cases h with
    | tup a b => exact ImAll.plain ds _ b
  | .list _, _, h => by cases h
  | .dict _, _, h => by cases h
theorem ImAll.plain : ∀ (ds : List PyData) (vs : List V), ImAll K H vs ds → PyData.plainAll ds = true
  | [], _, h => rfl
  | d :: ds, _, h => by
    cases h with
    | cons a b =>
      show (d.plain && PyData.plainAll ds) = true
      rw [Im.plain d _ a, ImAll.plain ds _ b]; rfl
end
theorem Im.same {v : V} {d : PyData} (e : Same H H') (h : Im K H v d) : Im K H' v d := h.gw (Same.gw e) d v
theorem ImAll.same {v : List V} {d : List PyData} (e : Same H H') (h : ImAll K H v d) : ImAll K H' v d := h.gw (Same.gw e) d v
theorem ImAll.len : ∀ {ds : List PyData} {vs : List V}, ImAll K H vs ds → vs.length = ds.length
  | [], _, h => by cases h; rfl
  | d :: ds, _, h => by
    cases h with
    | cons a b => show _ + 1 = _ + 1; rw [ImAll.len b]
theorem ImAll.get : ∀ {ds : List PyData} {vs : List V} {i : Nat} {d : PyData}, ImAll K H vs ds → ds[i]? = some d → ∃ v, vs[i]? = some v ∧ Im K H v d
  | [], _, i, d, h, e => by simp at e
  | d :: ds, _, 0, d', h, e => by
    cases h with
    | cons a b =>
      have e' : d = d' := Option.some.inj e
      subst e'
      exact ⟨_, rfl, a⟩
  | d :: ds, _, i + 1, d', h, e => by
    cases h with
    | cons a b => exact ImAll.get (i := i) b (by simpa using e)
theorem ImAll.get' : ∀ {ds : List PyData} {vs : List V} {i : Nat} {v : V}, ImAll K H vs ds → vs[i]? = some v → ∃ d, ds[i]? = some d ∧ Im K H v d
  | [], _, i, d, h, e => by cases h; simp at e
  | d :: ds, _, 0, d', h, e => by
    cases h with
    | cons a b =>
      have e' := Option.some.inj e
      subst e'
      exact ⟨_, rfl, a⟩
  | d :: ds, _, i + 1, d', h, e => by
    cases h with
    | cons a b => exact ImAll.get' (i := i) b (by simpa using e)
theorem ImAll.append : ∀ {ds es : List PyData} {vs us : List V}, ImAll K H vs ds → ImAll K H us es → ImAll K H (vs ++ us) (ds ++ es)
  | [], _, _, _, h, g => by cases h; exact g
  | d :: ds, _, _, _, h, g => by
    cases h with
    | cons a b => exact .cons a (ImAll.append b g)
theorem ImAll.drop : ∀ {ds : List PyData} {vs : List V} (n : Nat), ImAll K H vs ds → ImAll K H (vs.drop n) (ds.drop n)
  | _, _, 0, h => h
  | [], _, n + 1, h => by cases h; exact .nil
  | d :: ds, _, n + 1, h => by
    cases h with
    | cons a b => exact ImAll.drop n b
theorem ImAll.take : ∀ {ds : List PyData} {vs : List V} (n : Nat), ImAll K H vs ds → ImAll K H (vs.take n) (ds.take n)
  | _, _, 0, h => .nil
  | [], _, n + 1, h => by cases h; exact .nil
  | d :: ds, _, n + 1, h => by
    cases h with
    | cons a b => exact .cons a (ImAll.take n b)
theorem ImAll.set : ∀ {ds : List PyData} {vs : List V} {v : V} {d : PyData} (n : Nat), Im K H v d → ImAll K H vs ds → ImAll K H (vs.set n v) (ds.set n d)
  | [], _, _, _, n, a, h => by cases h; exact .nil
  | e :: ds, _, _, _, 0, a, h => by
    cases h with
    | cons _ b => exact .cons a b
  | e :: ds, _, _, _, n + 1, a, h => by
    cases h with
    | cons c b => exact .cons c (ImAll.set n a b)
end
end G
namespace G
open PySem PySem.Spec PyProof.Rows L2
abbrev St := L2.St
/-! ### slots by what they hold -/
inductive SD where
  /-- nothing is known -/
  | no
  /-- data that cannot change -/
  | im (d : PyData)
  /-- this very value -/
  | va (v : V)
  /-- a list of one's own, of data that cannot change -/
  | ls (ds : List PyData)
  /-- a list of one's own that is only read for a while; a list that the caller handed over, only read -/
  | rl (p : Addr) (ds : List PyData)
  | pl (p : Addr) (ds : List PyData)
  /-- a dict of one's own -/
  | dk (kvs : List (Key × PyData))
  /-- the drawing state: a list of a list of ints, an int between 0 and b, an int -/
  | st (a r : Addr) (b : Nat)
abbrev SC := List SD
/-- the drawing state at a -/
def StAt (H : Hp) (a r : Addr) (b : Nat) : Prop := a ≠ r ∧ ∃ (row : List Int) (n sd : Int), H a = some (.lst [.ref r, .int n, .int sd]) ∧ H r = some (.lst (row.map V.int)) ∧ 0 ≤ n ∧ n ≤ (b : Int)
theorem StAt.mono {H : Hp} {a r : Addr} {b c : Nat} (h : StAt H a r b) (l : b ≤ c) : StAt H a r c := by
  obtain ⟨h0, row, n, sd, h1, h2, h3, h4⟩ := h
  exact ⟨h0, row, n, sd, h1, h2, h3, by omega⟩
/-- all but a is as it was -/
def But (M : List Addr) (H H' : Hp) : Prop := ∀ b o, b ∉ M → H b = some o → H' b = some o
theorem But.refl (M : List Addr) (H : Hp) : But M H H := fun _ _ _ h => h
theorem But.trans {M : List Addr} {H H1 H2 : Hp} (a : But M H H1) (b : But M H1 H2) : But M H H2 := fun c o n h => b c o n (a c o n h)
theorem But.same {M : List Addr} {H H1 H2 : Hp} (a : But M H H1) (b : Same H1 H2) : But M H H2 := fun c o n h => b c o (a c o n h)
theorem But.of {M : List Addr} {H H1 : Hp} (b : Same H H1) : But M H H1 := fun c o n h => b c o h
theorem But.nil {H H1 : Hp} (b : But [] H H1) : Same H H1 := fun c o h => b c o (by simp) h
/-- lists that no name holds, kept as they are -/
abbrev Gs := List (Addr × List V)
def Kept (g : Gs) (H : Hp) : Prop := ∀ q, q ∈ g → H q.1 = some (.lst q.2)
def ImKv (K : PySem.W.Frag) (H : Hp) : List (Key × V) → List (Key × PyData) → Prop := Paired fun p q => p.1 = q.1 ∧ Im K H p.2 q.2
theorem ImKv.gw {K : PySem.W.Frag} {H H' : Hp} (e : Gw H H') : ∀ {vs : List (Key × V)} {ds : List (Key × PyData)}, ImKv K H vs ds → ImKv K H' vs ds
  | _, _, .nil => .nil
  | _, _, .cons h t => .cons ⟨h.1, h.2.gw e _ _⟩ (ImKv.gw e t)
def SlotOk (K : PySem.W.Frag) (H0 : Hp) (M : List Addr) (g : Gs) (H : Hp) (own : List Addr) (o : Option V) : SD → Prop
  | .no => own = []
  | .im d => own = [] ∧ ∃ v, o = some v ∧ Im K H v d
  | .va v => own = [] ∧ o = some v
  | .ls ds => ∃ p vs, own = [p] ∧ o = some (.ref p) ∧ H p = some (.lst vs) ∧ ImAll K H vs ds ∧ H0 p = none
  | .rl p ds => own = [] ∧ o = some (.ref p) ∧ H0 p = none ∧ ∃ vs, (p, vs) ∈ g ∧ ImAll K H vs ds
  | .pl p ds => own = [] ∧ o = some (.ref p) ∧ p ∉ M ∧ ∃ vs, SqL K H0 p vs ∧ ImAll K H vs ds
  | .dk kvs => ∃ p ws, own = [p] ∧ o = some (.ref p) ∧ H p = some (.dK ws) ∧ ImKv K H ws kvs ∧ H0 p = none
  | .st a r b => own = [a, r] ∧ o = some (.ref a) ∧ StAt H a r b ∧ (H0 a = none ∨ a ∈ M)
/-- the slots are as told, over the heap H that began as H0 and may have changed at M -/
structure R (K : PySem.W.Frag) (H0 : Hp) (M : List Addr) (g : Gs) (Γ : SC) (σ : St) (H : Hp) : Prop where
  but : But M H0 H
  len : σ.length = Γ.length
  slots : ∃ own : Nat → List Addr, (∀ i, SlotOk K H0 M g H (own i) (σ.getD i none) (Γ.getD i .no)) ∧ (∀ i j, i ≠ j → ∀ p, p ∈ own i → p ∉ own j) ∧ ∀ q, q ∈ g → H q.1 = some (.lst q.2) ∧ ∀ i, q.1 ∉ own i
section
variable {K : PySem.W.Frag} {H0 H H' : Hp} {M : List Addr} {g : Gs} {Γ : SC} {σ : St} {own : List Addr} {o : Option V} {x : SD} {n : Nat}
theorem SlotOk.track (h : SlotOk K H0 M g H own o x) : ∀ p, p ∈ own → ∃ u, H p = some u := by
  intro p hp
  cases x with
  | no => rw [show own = [] from h] at hp; cases hp
  | im d => rw [h.1] at hp; cases hp
  | va v => rw [h.1] at hp; cases hp
  | ls ds =>
    obtain ⟨q, vs, e, _, h1, _⟩ := h
    rw [e] at hp
    have : p = q := by simpa using hp
    subst this
    exact ⟨_, h1⟩
  | rl p ds => rw [h.1] at hp; cases hp
  | pl p ds => rw [h.1] at hp; cases hp
  | dk kvs =>
    obtain ⟨q, vs, e, _, h1, _⟩ := h
    rw [e] at hp
    have : p = q := by simpa using hp
    subst this
    exact ⟨_, h1⟩
  | st a r b =>
    obtain ⟨e, _, ⟨_, row, n, sd, h1, h2, _⟩, _⟩ := h
    rw [e] at hp
    rcases List.mem_cons.mp hp with z | z
    · subst z; exact ⟨_, h1⟩
    · have : p = r := by simpa using z
      subst this; exact ⟨_, h2⟩
/-- a change of the heap that leaves tuples and this slot's own objects -/
theorem SlotOk.keep (h : SlotOk K H0 M g H own o x) (gw : Gw H H') (k : ∀ p, p ∈ own → H' p = H p) : SlotOk K H0 M g H' own o x := by
  cases x with
  | no => exact h
  | im d => obtain ⟨e, v, e1, h1⟩ := h; exact ⟨e, v, e1, h1.gw gw d v⟩
  | va v => exact h
  | ls ds =>
    obtain ⟨q, vs, e, e1, h1, h2, h3⟩ := h
    exact ⟨q, vs, e, e1, by rw [k q (by rw [e]; simp)]; exact h1, h2.gw gw ds vs, h3⟩
  | rl p ds =>
    obtain ⟨e, e1, h0, vs, h1, h2⟩ := h
    exact ⟨e, e1, h0, vs, h1, h2.gw gw ds vs⟩
  | pl p ds =>
    obtain ⟨e, e1, h0, vs, h1, h2⟩ := h
    exact ⟨e, e1, h0, vs, h1, h2.gw gw ds vs⟩
  | dk kvs =>
    obtain ⟨q, vs, e, e1, h1, h2, h3⟩ := h
    exact ⟨q, vs, e, e1, by rw [k q (by rw [e]; simp)]; exact h1, h2.gw gw, h3⟩
  | st a r b =>
    obtain ⟨e, e1, ⟨e0, row, n, sd, h1, h2, h3⟩, h4⟩ := h
    exact ⟨e, e1, ⟨e0, row, n, sd, by rw [k a (by rw [e]; simp)]; exact h1, by rw [k r (by rw [e]; simp)]; exact h2, h3⟩, h4⟩
theorem R.same (r : R K H0 M g Γ σ H) (e : Same H H') : R K H0 M g Γ σ H' := by
  obtain ⟨own, h1, h2, h3⟩ := r.slots
  refine ⟨r.but.same e, r.len, own, fun i => (h1 i).keep (Same.gw e) fun p hp => ?_, h2, fun q hq => ⟨e _ _ (h3 q hq).1, (h3 q hq).2⟩⟩
  obtain ⟨u, hu⟩ := (h1 i).track p hp
  rw [hu, e p u hu]
theorem R.im {i : Nat} {d : PyData} (r : R K H0 M g Γ σ H) (h : Γ.getD i .no = .im d) : ∃ v, σ[i]? = some (some v) ∧ Im K H v d := by
  obtain ⟨own, h1, _⟩ := r.slots
  have q := h1 i
  rw [h] at q
  obtain ⟨_, v, e, m⟩ := q
  refine ⟨v, ?_, m⟩
  rw [List.getD_eq_getElem?_getD] at e
  cases z : σ[i]? with
  | none => rw [z] at e; cases e
  | some y => rw [z] at e; exact congrArg some e
theorem getD_some {i : Nat} {v : V} (e : σ.getD i none = some v) : σ[i]? = some (some v) := by
  rw [List.getD_eq_getElem?_getD] at e
  cases z : σ[i]? with
  | none => rw [z] at e; cases e
  | some y => rw [z] at e; exact congrArg some e
theorem R.va {i : Nat} {v : V} (r : R K H0 M g Γ σ H) (h : Γ.getD i .no = .va v) : σ[i]? = some (some v) := by
  obtain ⟨own, h1, _⟩ := r.slots
  have q := h1 i
  rw [h] at q
  exact getD_some q.2
theorem R.ls {i : Nat} {ds : List PyData} (r : R K H0 M g Γ σ H) (h : Γ.getD i .no = .ls ds) : ∃ p vs, σ[i]? = some (some (.ref p)) ∧ H p = some (.lst vs) ∧ ImAll K H vs ds ∧ H0 p = none := by
  obtain ⟨own, h1, _⟩ := r.slots
  have q := h1 i
  rw [h] at q
  obtain ⟨p, vs, _, e, q1, q2, q3⟩ := q
  exact ⟨p, vs, getD_some e, q1, q2, q3⟩
theorem R.st {i : Nat} {a b : Addr} {c : Nat} (r : R K H0 M g Γ σ H) (h : Γ.getD i .no = .st a b c) : σ[i]? = some (some (.ref a)) ∧ StAt H a b c := by
  obtain ⟨own, h1, _⟩ := r.slots
  have q := h1 i
  rw [h] at q
  exact ⟨getD_some q.2.1, q.2.2.1⟩
theorem getD_set {α : Type} {l : List α} {i j : Nat} {x d : α} : (l.set i x).getD j d = if i = j then (if i < l.length then x else d) else l.getD j d := by
  rw [List.getD_eq_getElem?_getD, List.getD_eq_getElem?_getD, List.getElem?_set]
  split
  · split
    · rfl
    · rename_i h1 h2
      rfl
  · rfl
/-- a slot is set; the heap is another -/
theorem R.put {i : Nat} {v : V} {x : SD} {p : List Addr} (r : R K H0 M g Γ σ H) (e : Same H H') (hi : i < Γ.length) (hx : SlotOk K H0 M g H' p (some v) x) (hp : ∀ q, q ∈ p → H q = none) : R K H0 M g (Γ.set i x) (σ.set i (some v)) H' := by
  obtain ⟨own0, h10, h20, h30⟩ := r.slots
  refine ⟨r.but.same e, by simp [r.len], fun j => if j = i then p else own0 j, fun j => ?_, fun j k hjk q hq => ?_, fun q hq => ⟨e _ _ (h30 q hq).1, fun j z => ?_⟩⟩
  · show SlotOk K H0 M g H' (if j = i then p else own0 j) _ _
    rw [getD_set, getD_set]
    by_cases hj : i = j
    · subst hj
      simp only [if_true]
      rw [if_pos (by rw [r.len]; exact hi), if_pos hi]
      exact hx
    · rw [if_neg hj, if_neg hj, if_neg (Ne.symm hj)]
      refine (h10 j).keep (Same.gw e) fun q hq => ?_
      obtain ⟨u, hu⟩ := (h10 j).track q hq
      rw [hu, e q u hu]
  · have none_own : ∀ j q, H q = none → q ∉ own0 j := fun j q hn hq => by
      obtain ⟨u, hu⟩ := (h10 j).track q hq
      rw [hn] at hu; cases hu
    have hq' : q ∈ (if j = i then p else own0 j) := hq
    show q ∉ (if k = i then p else own0 k)
    by_cases hj : j = i
    · rw [if_pos hj] at hq'
      rw [if_neg (fun z => hjk (hj.trans z.symm))]
      exact none_own k q (hp q hq')
    · rw [if_neg hj] at hq'
      by_cases hk : k = i
      · rw [if_pos hk]
        intro z
        exact none_own j q (hp q z) hq'
      · rw [if_neg hk]
        exact h20 j k hjk q hq'
  · have z' : q.1 ∈ (if j = i then p else own0 j) := z
    by_cases hj : j = i
    · rw [if_pos hj] at z'
      have q1 := hp _ z'
      rw [(h30 q hq).1] at q1; cases q1
    · rw [if_neg hj] at z'
      exact (h30 q hq).2 j z'
theorem R.fresh (r : R K H0 M g Γ σ H) (hM : ∀ a ∈ M, H0 a ≠ none → H a ≠ none) {p : Addr} (h : H p = none) : H0 p = none := by
  cases q : H0 p with
  | none => rfl
  | some o =>
    by_cases hp : p ∈ M
    · exact absurd h (hM p hp (by rw [q]; exact fun z => nomatch z))
    · rw [r.but p o hp q] at h; cases h
theorem R.dk {i : Nat} {ds : List (Key × PyData)} (r : R K H0 M g Γ σ H) (h : Γ.getD i .no = .dk ds) : ∃ p vs, σ[i]? = some (some (.ref p)) ∧ H p = some (.dK vs) ∧ ImKv K H vs ds ∧ H0 p = none := by
  obtain ⟨own, h1, _⟩ := r.slots
  have q := h1 i
  rw [h] at q
  obtain ⟨p, vs, _, e, q1, q2, q3⟩ := q
  exact ⟨p, vs, getD_some e, q1, q2, q3⟩
theorem R.weak {Γ' : SC} (r : R K H0 M g Γ σ H) (hl : Γ'.length = Γ.length) (w : ∀ i, Γ'.getD i .no = Γ.getD i .no ∨ Γ'.getD i .no = .no) : R K H0 M g Γ' σ H := by
  obtain ⟨own, h1, h2, h3⟩ := r.slots
  classical
  refine ⟨r.but, r.len.trans hl.symm, fun i => if Γ'.getD i .no = Γ.getD i .no then own i else [], fun i => ?_, fun i j hij p hp => ?_, fun q hq => ⟨(h3 q hq).1, fun i z => ?_⟩⟩
  rotate_right
  · have z' : q.1 ∈ (if Γ'.getD i .no = Γ.getD i .no then own i else []) := z
    by_cases h : Γ'.getD i .no = Γ.getD i .no
    · rw [if_pos h] at z'
      exact (h3 q hq).2 i z'
    · rw [if_neg h] at z'; cases z'
  · by_cases h : Γ'.getD i .no = Γ.getD i .no
    · show SlotOk K H0 M g H (if Γ'.getD i .no = Γ.getD i .no then own i else []) _ _
      rw [if_pos h, h]
      exact h1 i
    · show SlotOk K H0 M g H (if Γ'.getD i .no = Γ.getD i .no then own i else []) _ _
      rw [if_neg h]
      rcases w i with z | z
      · exact absurd z h
      · rw [z]; rfl
  · have hp' : p ∈ (if Γ'.getD i .no = Γ.getD i .no then own i else []) := hp
    show p ∉ (if Γ'.getD j .no = Γ.getD j .no then own j else [])
    by_cases h : Γ'.getD i .no = Γ.getD i .no
    · rw [if_pos h] at hp'
      by_cases h' : Γ'.getD j .no = Γ.getD j .no
      · rw [if_pos h']; exact h2 i j hij p hp'
      · rw [if_neg h']; exact fun z => nomatch z
    · rw [if_neg h] at hp'; cases hp'
theorem R.kept (r : R K H0 M g Γ σ H) : Kept g H := fun q hq => by
  obtain ⟨own, h1, h2, h3⟩ := r.slots
  exact (h3 q hq).1
theorem R.rl {i : Nat} {p : Addr} {ds : List PyData} (r : R K H0 M g Γ σ H) (h : Γ.getD i .no = .rl p ds) : σ[i]? = some (some (.ref p)) ∧ ∃ vs, H p = some (.lst vs) ∧ ImAll K H vs ds := by
  obtain ⟨own, h1, _, h3⟩ := r.slots
  have q := h1 i
  rw [h] at q
  obtain ⟨e, e1, h0, vs, e2, e3⟩ := q
  exact ⟨getD_some e1, vs, (h3 _ e2).1, e3⟩
theorem But.seq {a : Addr} {xs : List V} (b : But M H H') (h : SqL K H a xs) (n : a ∉ M) : SqL K H' a xs := by
  rcases h with (h | ⟨o, h⟩) | h
  · exact .inl (.inl (b _ _ n h))
  · exact .inl (.inr ⟨o, b _ _ n h⟩)
  · exact .inr h
theorem R.pl {i : Nat} {p : Addr} {ds : List PyData} (r : R K H0 M g Γ σ H) (h : Γ.getD i .no = .pl p ds) : σ[i]? = some (some (.ref p)) ∧ ∃ vs, SqL K H p vs ∧ ImAll K H vs ds := by
  obtain ⟨own, h1, _, h3⟩ := r.slots
  have q := h1 i
  rw [h] at q
  obtain ⟨e, e1, h0, vs, e2, e3⟩ := q
  exact ⟨getD_some e1, vs, r.but.seq e2 h0, e3⟩
/-- at the entry of a def: data -/
def SlotV (K : PySem.W.Frag) (H : Hp) : SD → V → Prop
  | .no, _ => True
  | .im d, v => Im K H v d
  | .va u, v => v = u
  | .pl p ds, v => v = .ref p ∧ ∃ vs, SqL K H p vs ∧ ImAll K H vs ds
  | _, _ => False
abbrev SlotVs (K : PySem.W.Frag) (H : Hp) : SC → List V → Prop := Paired (SlotV K H)
theorem SlotV.ok {v : V} (h : SlotV K H x v) (hM : ∀ p ds, x = .pl p ds → p ∉ M) : SlotOk K H M g H [] (some v) x := by
  cases x with
  | no => rfl
  | im d => exact ⟨rfl, v, rfl, h⟩
  | va u => exact ⟨rfl, congrArg some h⟩
  | ls d => exact h.elim
  | rl p d => exact h.elim
  | dk d => exact h.elim
  | pl p d => exact ⟨rfl, congrArg some h.1, hM p d rfl, h.2⟩
  | st a r b => exact h.elim
theorem SlotVs.ok {n : Nat} : ∀ {Γ : SC} {vs : List V} (i : Nat), SlotVs K H Γ vs → (∀ p ds, SD.pl p ds ∈ Γ → p ∉ M) → SlotOk K H M g H [] ((vs.map some ++ List.replicate n none).getD i none) ((Γ ++ List.replicate n SD.no).getD i .no)
  | _, _, i, .nil, _ => by
    rw [List.map_nil, List.nil_append, List.nil_append]
    have e : (List.replicate n SD.no).getD i .no = .no := by
      rw [List.getD_eq_getElem?_getD, List.getElem?_replicate]
      split <;> rfl
    rw [e]; rfl
  | x :: _, _, 0, .cons h _, m => SlotV.ok (x := x) h fun p ds e => m p ds (by rw [e]; exact List.mem_cons_self)
  | _, _, i + 1, .cons _ h, m => SlotVs.ok (n := n) i h fun p ds z => m p ds (List.mem_cons_of_mem _ z)
theorem SlotVs.len : ∀ {Γ : SC} {vs : List V}, SlotVs K H Γ vs → Γ.length = vs.length
  | _, _, .nil => rfl
  | _, _, .cons _ h => congrArg (· + 1) (SlotVs.len h)
theorem R.start {vs : List V} {N : List Str} (h : SlotVs K H Γ vs) (hN : N.length - vs.length = n) (hM : ∀ p ds, SD.pl p ds ∈ Γ → p ∉ M) : R K H M [] (Γ ++ List.replicate n .no) (L2.start N vs) H := by
  refine ⟨But.refl M H, ?_, fun _ => [], fun i => ?_, fun _ _ _ p hp => (nomatch hp), fun _ z => (nomatch z)⟩
  · unfold L2.start
    rw [List.length_append, List.length_append, List.length_map, List.length_replicate, List.length_replicate, h.len, hN]
  · unfold L2.start
    rw [hN]
    exact h.ok i hM
end
end G
namespace G
open PySem PySem.Spec PyProof.Rows L2
/-! ### expressions over slots -/
abbrev EK := Hp → V → Hp → Prop
/-- e gives a value that P tells (the heap before, the value, the heap after); nothing tracked changes -/
def EE (X : Cx) (H0 : Hp) (M : List Addr) (Γ : SC) (e : Expr) (P : EK) : Prop :=
  ∀ g σ H Q, R X.K H0 M g Γ σ H → (∀ v H', Same H H' → P H v H' → Q v H') → wE X e σ H Q
abbrev kI (K : PySem.W.Frag) (d : PyData) : EK := fun _ v H' => Im K H' v d
/-- a new list -/
abbrev kL (K : PySem.W.Frag) (ds : List PyData) : EK := fun H v H' => ∃ p vs, v = .ref p ∧ H p = none ∧ H' p = some (.lst vs) ∧ ImAll K H' vs ds
abbrev EI (X : Cx) (H0 : Hp) (M : List Addr) (Γ : SC) (e : Expr) (d : PyData) : Prop := EE X H0 M Γ e (kI X.K d)
abbrev EL (X : Cx) (H0 : Hp) (M : List Addr) (Γ : SC) (e : Expr) (ds : List PyData) : Prop := EE X H0 M Γ e (kL X.K ds)
def ET (X : Cx) (H0 : Hp) (M : List Addr) (Γ : SC) (e : Expr) (b : Bool) : Prop :=
  ∀ g σ H Q, R X.K H0 M g Γ σ H → (∀ H', Same H H' → Q b H') → wT X e σ H Q
theorem Im.int_inv {K : PySem.W.Frag} {H : Hp} {v : V} {i : Int} (h : Im K H v (.int i)) : v = .int i := by cases h; rfl
section
variable {X : Cx} {H0 : Hp} {M : List Addr} {Γ : SC} {e a b c : Expr} {es : List Expr} {pos p0 : Pos} {P Pa Pb : EK}
theorem EE.mono {P' : EK} (h : EE X H0 M Γ e P) (q : ∀ H v H', Same H H' → P H v H' → P' H v H') : EE X H0 M Γ e P' := fun g σ H Q r k => h g σ H Q r fun v H' s z => k v H' s (q H v H' s z)
theorem EI.to {d d' : PyData} (h : EI X H0 M Γ e d) (q : d = d') : EI X H0 M Γ e d' := q ▸ h
theorem EL.to {d d' : List PyData} (h : EL X H0 M Γ e d) (q : d = d') : EL X H0 M Γ e d' := q ▸ h
theorem ET.to {d d' : Bool} (h : ET X H0 M Γ e d) (q : d = d') : ET X H0 M Γ e d' := q ▸ h
/-- a list of one's own, as it stands -/
abbrev kO (K : PySem.W.Frag) (ds : List PyData) : EK := fun _ v H' => ∃ p vs, v = .ref p ∧ H' p = some (.lst vs) ∧ ImAll K H' vs ds
abbrev kS (a r : Addr) (b : Nat) : EK := fun _ v H' => v = .ref a ∧ StAt H' a r b
/-! ### == of data -/
variable {k : Nat} {d d' : PyData}
/-! ### arguments -/
/-! ### displays -/
/-! ### tuples: items, slices, + -/
def PartE (X : Cx) (H0 : Hp) (M : List Addr) (Γ : SC) (e : Option Expr) (o : Option Int) : Prop :=
  (e = none ∧ o = none) ∨ ∃ e' i, e = some e' ∧ o = some i ∧ EI X H0 M Γ e' (.int i)
def wO (X : Cx) (e : Option Expr) : TO := match e with | none => tNoPart | some e => tPart (wE X e)
theorem po_w {e : Option Expr} : PO X e (wO X e) := by
  cases e with
  | none => exact po_none
  | some e => exact po_some pe_w
theorem PartE.go {lo : Option Expr} {o : Option Int} (h : PartE X H0 M Γ lo o) {σ : St} {H : Hp} {Q : Option Int → Hp → Prop} {g : Gs} (R : R X.K H0 M g Γ σ H) (k : ∀ H', Same H H' → Q o H') : wO X lo σ H Q := by
  rcases h with ⟨rfl, rfl⟩ | ⟨e, i, rfl, rfl, h⟩
  · exact k H (Same.refl H)
  · exact h g σ H _ R fun x H1 s1 p1 => ⟨i, p1.int_inv, k H1 s1⟩
/-! ### calls of one's own defs -/
/-! ### calls of built-ins -/
/-! ### tests -/
variable {rest : List Expr}
end
end G
namespace G
open PySem PySem.Spec PyProof.Rows L2
/-! ### expressions that move the drawing state on -/
/-- e gives a value that P tells and leaves the slots as Γ' says -/
def EX (X : Cx) (H0 : Hp) (M : List Addr) (Γ : SC) (e : Expr) (Γ' : SC) (P : V → Hp → Prop) : Prop :=
  ∀ g σ H Q, R X.K H0 M g Γ σ H → (∀ v H', R X.K H0 M g Γ' σ H' → Gw H H' → P v H' → Q v H') → wE X e σ H Q
/-- some data that A tells -/
abbrev xI (K : PySem.W.Frag) (A : PyData → Prop) : V → Hp → Prop := fun v H' => ∃ d, A d ∧ Im K H' v d
def TX (X : Cx) (H0 : Hp) (M : List Addr) (Γ : SC) (e : Expr) (Γ' : SC) (A : Bool → Prop) : Prop :=
  ∀ g σ H Q, R X.K H0 M g Γ σ H → (∀ b H', R X.K H0 M g Γ' σ H' → Gw H H' → A b → Q b H') → wT X e σ H Q
section
variable {X : Cx} {H0 : Hp} {M : List Addr} {Γ Γ1 Γ2 : SC} {e a b c : Expr} {es : List Expr} {pos p0 : Pos}
theorem EX.mono {A B : PyData → Prop} (h : EX X H0 M Γ e Γ1 (xI X.K A)) (q : ∀ d, A d → B d) : EX X H0 M Γ e Γ1 (xI X.K B) := fun g σ H Q r k =>
  h g σ H Q r fun v H' r' s ⟨d, p, m⟩ => k v H' r' s ⟨d, q d p, m⟩
end
/-! ### statements -/
/-- from where the ends D' are reached if D's are -/
structure Imp (g : Hp → Prop) (D D' : Ends) : Prop where
  nx : ∀ σ H, g H → D.nx σ H → D'.nx σ H
  rt : ∀ v H, g H → D.rt v H → D'.rt v H
  bk : ∀ σ H, g H → D.bk σ H → D'.bk σ H
  ct : ∀ σ H, g H → D.ct σ H → D'.ct σ H
abbrev Far (g : Gs) (H : Hp) : Hp → Prop := fun H' => Gw H H' ∧ Kept g H'
theorem Imp.go {g : Gs} {H H' : Hp} {D D' : Ends} (h : Imp (Far g H) D D') (s : Gw H H') : Imp (Far g H') D D' :=
  ⟨fun σ H1 f => h.nx σ H1 ⟨s.trans f.1, f.2⟩, fun σ H1 f => h.rt σ H1 ⟨s.trans f.1, f.2⟩, fun σ H1 f => h.bk σ H1 ⟨s.trans f.1, f.2⟩, fun σ H1 f => h.ct σ H1 ⟨s.trans f.1, f.2⟩⟩
structure DD where
  rt : VK
  nx : Gs → St → Hp → Prop := fun _ _ _ => False
  bk : Gs → St → Hp → Prop := fun _ _ _ => False
  ct : Gs → St → Hp → Prop := fun _ _ _ => False
abbrev DD.at (D : DD) (g : Gs) : Ends := { nx := D.nx g, rt := D.rt, bk := D.bk g, ct := D.ct g }
section
variable {X : Cx} {H0 : Hp} {M : List Addr} {Γ Γ1 Γ2 : SC} {e c : Expr} {es : List Expr} {pos p0 : Pos} {rest body orelse : List Stmt} {D : DD}
/-- M is still there -/
def MOk (X : Cx) (H0 : Hp) (M : List Addr) (Γ : SC) : Prop := ∀ g σ H, R X.K H0 M g Γ σ H → ∀ a ∈ M, H0 a ≠ none → H a ≠ none
theorem MOk.nil : MOk X H0 [] Γ := fun _ _ _ _ a h => nomatch h
end
end G
/-! G: for i, x in enumerate(a tuple), out of the library's GoesN. -/
namespace G
open PySem PySem.Spec PyProof.Rows L2
end G
namespace G
open PySem PySem.Spec PyProof.Rows L2
/-! ### fewer slots known -/
inductive Sub : SC → SC → Prop
  | nil : Sub [] []
  | k {x : SD} {Γ Γ' : SC} : Sub Γ Γ' → Sub (x :: Γ) (x :: Γ')
  | n {x : SD} {Γ Γ' : SC} : Sub Γ Γ' → Sub (x :: Γ) (.no :: Γ')
theorem Sub.e {x y : SD} {Γ Γ' : SC} (h : x = y) (s : Sub Γ Γ') : Sub (x :: Γ) (y :: Γ') := h ▸ .k s
theorem Sub.refl : ∀ Γ : SC, Sub Γ Γ
  | [] => .nil
  | _ :: r => .k (Sub.refl r)
theorem Sub.len : ∀ {Γ Γ' : SC}, Sub Γ Γ' → Γ'.length = Γ.length
  | _, _, .nil => rfl
  | _, _, .k h => congrArg (· + 1) h.len
  | _, _, .n h => congrArg (· + 1) h.len
theorem Sub.at : ∀ {Γ Γ' : SC}, Sub Γ Γ' → ∀ i, Γ'.getD i .no = Γ.getD i .no ∨ Γ'.getD i .no = .no
  | _, _, .nil, i => .inl rfl
  | _, _, .k h, 0 => .inl rfl
  | _, _, .k h, i + 1 => h.at i
  | _, _, .n h, 0 => .inr rfl
  | _, _, .n h, i + 1 => h.at i
theorem R.sub {K : PySem.W.Frag} {H0 H : Hp} {M : List Addr} {g : Gs} {Γ Γ' : SC} {σ : St} (r : R K H0 M g Γ σ H) (s : Sub Γ Γ') : R K H0 M g Γ' σ H := r.weak s.len s.at
/-! ### for -/
section
variable {X : Cx} {H0 : Hp} {M : List Addr} {Γ Γ1 Γ2 : SC} {e c iter : Expr} {es : List Expr} {pos p0 : Pos} {rest body : List Stmt} {D : DD} {B : SC → Prop}
theorem Imp.refl (g : Hp → Prop) (D : Ends) : Imp g D D := ⟨fun _ _ _ h => h, fun _ _ _ h => h, fun _ _ _ h => h, fun _ _ _ h => h⟩
end
end G
namespace G
open PySem PySem.Spec PyProof.Rows L2
/-! ### comprehensions -/
/-- the slots in a comprehension's block -/
def wipeC (Γ : SC) : List Nat → SC
  | [] => Γ
  | v :: vs => (wipeC Γ vs).set v .no
theorem R.wipe {K : PySem.W.Frag} {H0 H : Hp} {M : List Addr} {g : Gs} {Γ : SC} {σ : St} (r : R K H0 M g Γ σ H) : ∀ vs : List Nat, R K H0 M g (wipeC Γ vs) (wipe σ vs) H
  | [] => r
  | v :: vs => by
    have ih := R.wipe r vs
    obtain ⟨own, h1, h2, h3⟩ := ih.slots
    refine ⟨ih.but, by show ((L2.wipe σ vs).set v none).length = ((wipeC Γ vs).set v .no).length; rw [List.length_set, List.length_set, ih.len], fun j => if j = v then [] else own j, fun j => ?_, fun i j hij p hp => ?_, fun q hq => ⟨(h3 q hq).1, fun i z => ?_⟩⟩
    · show SlotOk K H0 M g H (if j = v then [] else own j) (((L2.wipe σ vs).set v none).getD j none) (((wipeC Γ vs).set v .no).getD j .no)
      rw [getD_set, getD_set]
      by_cases hj : v = j
      · subst hj
        simp only [if_true]
        have e : (if v < (wipeC Γ vs).length then SD.no else SD.no) = SD.no := by split <;> rfl
        rw [e]; rfl
      · rw [if_neg hj, if_neg hj, if_neg (Ne.symm hj)]
        exact h1 j
    · have hp' : p ∈ (if i = v then [] else own i) := hp
      show p ∉ (if j = v then [] else own j)
      by_cases hi : i = v
      · rw [if_pos hi] at hp'; cases hp'
      · rw [if_neg hi] at hp'
        by_cases hj : j = v
        · rw [if_pos hj]; exact fun z => nomatch z
        · rw [if_neg hj]; exact h2 i j hij p hp'
    · have z' : q.1 ∈ (if i = v then [] else own i) := z
      by_cases hi : i = v
      · rw [if_pos hi] at z'; cases z'
      · rw [if_neg hi] at z'; exact (h3 q hq).2 i z'
section
variable {X : Cx} {H0 : Hp} {M : List Addr} {Γ Γ1 Γ2 : SC} {e c iter elt : Expr} {es : List Expr} {pos p0 : Pos}
/-- the contexts of a comprehension's block -/
abbrev Blk (X : Cx) (scope : Scope) (φ : Cx → Prop) : Prop := ∀ (s : Shared) (H : Hp) (C : Addr) (cl : List (Str × Addr)) (fp : List Addr), φ (X.blk s H scope (compEnvC scope cl C X.env) fp)
def wEB (X : Cx) (scope : Scope) (e : Expr) : TE := fun σ H Q => Blk X scope fun Y => wE Y e σ H Q
def wTB (X : Cx) (scope : Scope) (e : Expr) : TT := fun σ H Q => Blk X scope fun Y => wT Y e σ H Q
end
end G
namespace G
open PySem PySem.Spec PyProof.Rows L2
section
variable {X : Cx} {H0 : Hp} {M : List Addr} {Γ Γ1 Γ2 : SC} {e a b c iter elt : Expr} {es : List Expr} {pos p0 : Pos} {rest body : List Stmt} {D : DD}
/-! ### isinstance -/
def tyD : PyData → String
  | .none => "NoneType"
  | .bool _ => "bool"
  | .int _ => "int"
  | .str _ => "str"
  | .list _ => "list"
  | .tuple _ => "tuple"
  | .dict _ => "dict"
theorem Im.ty {K : PySem.W.Frag} {H : Hp} : ∀ {d : PyData} {v : V}, Im K H v d → TyX K H v (.type (tyD d))
  | .none, _, h => by cases h; exact .base .non
  | .bool b, _, h => by cases h; exact .base (.bl b)
  | .int i, _, h => by cases h; exact .base (.int i)
  | .str x, _, h => by cases h; exact .base (.str x)
  | .tuple ds, _, h => by
    cases h with
    | tup a b =>
      rcases a with (a | ⟨o, a⟩) | ⟨o, its, n, hk, hc, _⟩
      · exact .base (.tup a)
      · exact .fTuple a
      · exact .kTuple hk hc
  | .list _, _, h => by cases h
  | .dict _, _, h => by cases h
/-! ### len -/
/-- a new list is a list -/
theorem EL.o {ds : List PyData} (h : EL X H0 M Γ e ds) : EE X H0 M Γ e (kO X.K ds) := h.mono fun H v H' s ⟨p, vs, e, _, q, m⟩ => ⟨p, vs, e, q, m⟩
/-! ### abs, int -/
/-! ### list(..), tuple(..) -/
/-- the keys of a dict of one's own, in a new list -/
def keyD : Key → PyData
  | .inl i => .int i
  | .inr x => .str x
theorem ImKv.keys {K : PySem.W.Frag} {H : Hp} : ∀ {vs : List (Key × V)} {ds : List (Key × PyData)}, ImKv K H vs ds → ImAll K H (vs.map fun kv => L2.kV kv.1) (ds.map fun kv => keyD kv.1)
  | _, _, .nil => .nil
  | (k, v) :: vs, (k', d) :: ds, .cons h t => by
    obtain ⟨h1, _⟩ := h
    have h1' : k = k' := h1
    subst h1'
    refine .cons ?_ (ImKv.keys t)
    cases k with
    | inl i => exact .int i
    | inr x => exact .str x
/-! ### list + list -/
/-! ### == of lists -/
/-! ### in a list -/
/-! ### 0 <= i < n -/
/-! ### stores -/
def putD (kvs : List (Key × PyData)) (k : Key) (v : PyData) : List (Key × PyData) :=
  if (kvs.any fun kv => decide (kv.1 = k)) = true then kvs.map (fun kv => if kv.1 = k then (kv.1, v) else kv) else kvs ++ [(k, v)]
theorem ImKv.any {K : PySem.W.Frag} {H : Hp} (k : Key) : ∀ {vs : List (Key × V)} {ds : List (Key × PyData)}, ImKv K H vs ds → (vs.any fun kv => decide (kv.1 = k)) = (ds.any fun kv => decide (kv.1 = k))
  | _, _, .nil => rfl
  | _, _, .cons h t => by
    rw [List.any_cons, List.any_cons, ImKv.any k t, h.1]
theorem ImKv.map {K : PySem.W.Frag} {H : Hp} {k : Key} {v : V} {d : PyData} (m : Im K H v d) : ∀ {vs : List (Key × V)} {ds : List (Key × PyData)}, ImKv K H vs ds → ImKv K H (vs.map fun kv => if kv.1 = k then (kv.1, v) else kv) (ds.map fun kv => if kv.1 = k then (kv.1, d) else kv)
  | _, _, .nil => .nil
  | p :: _, q :: _, .cons h t => by
    refine .cons ?_ (ImKv.map m t)
    by_cases e : p.1 = k
    · dsimp only; rw [if_pos e, if_pos (h.1 ▸ e)]; exact ⟨h.1, m⟩
    · dsimp only; rw [if_neg e, if_neg (h.1 ▸ e)]; exact h
theorem ImKv.app {K : PySem.W.Frag} {H : Hp} {k : Key} {v : V} {d : PyData} (m : Im K H v d) : ∀ {vs : List (Key × V)} {ds : List (Key × PyData)}, ImKv K H vs ds → ImKv K H (vs ++ [(k, v)]) (ds ++ [(k, d)])
  | _, _, .nil => .cons ⟨rfl, m⟩ .nil
  | _, _, .cons h t => .cons h (ImKv.app m t)
theorem ImKv.put {K : PySem.W.Frag} {H : Hp} {k : Key} {v : V} {d : PyData} {vs : List (Key × V)} {ds : List (Key × PyData)} (m : Im K H v d) (h : ImKv K H vs ds) : ImKv K H (putK vs k v) (putD ds k d) := by
  unfold putK putD
  rw [h.any k]
  split
  · exact h.map m
  · exact h.app m
theorem ImKv.len {K : PySem.W.Frag} {H : Hp} : ∀ {vs : List (Key × V)} {ds : List (Key × PyData)}, ImKv K H vs ds → vs.length = ds.length
  | _, _, .nil => rfl
  | _, _, .cons _ t => congrArg (· + 1) (ImKv.len t)
end
/-! ### defs -/
end G
/-! G: errors. -/
namespace G
open PySem PySem.Spec PyProof.Rows L2
end G
/-! G: errors over slots. -/
namespace G
open PySem PySem.Spec PyProof.Rows L2
end G
/-! P: a program as plain functions; what does not change is a value, what a def alone holds stands in its slot, the rest are numbered objects. -/
namespace P
open PySem PySem.Spec PyProof.Rows L2 G
abbrev St := L2.St
structure Bs where
  K : PySem.W.Frag
  mg : Str → Option Value
abbrev bs (X : Cx) : Bs := ⟨X.K, X.mg⟩
/-! ### values -/
inductive FV where
  | non | bl (b : Bool) | int (i : Int) | str (x : Str) | tup (xs : List FV) | fl (xs : List FV) | sl (xs : List FV) | fd (ks : List Key) (vs : List FV) | ft (ks : List (List Key)) (vs : List FV) | fo (c : Str) (ks : List Str) (vs : List FV) | ref (n : Nat)
/-- objects that can change, by number -/
inductive FO where
  | lst (xs : List FV) | dK (kvs : List (Key × FV)) | dT (kvs : List (List Key × FV)) | ins (c : Str) (fs : List (Str × FV)) | lk (kvs : List (Key × FV))
abbrev FH := List FO
/-- a list that never changes -/
def FzL (K : PySem.W.Frag) (H : Hp) (a : Addr) (xs : List V) : Prop :=
  (∃ o, H a = some (.frz o (.lst xs))) ∨
    ∃ (o : Obj) (its : Array Value) (n : Nat), K.lookup a = some o ∧ o.cls = .type "list" ∧ o.dict = none ∧ o.data = .seq its n ∧ its.size ≤ sizeLine ∧ Vals xs its.toList
theorem FzL.sqL {K : PySem.W.Frag} {H : Hp} {a : Addr} {xs : List V} (h : FzL K H a xs) : SqL K H a xs := by
  rcases h with ⟨o, h⟩ | h
  · exact .inl (.inr ⟨o, h⟩)
  · exact .inr h
theorem FzL.gw {K : PySem.W.Frag} {H H' : Hp} {a : Addr} {xs : List V} (e : Gw H H') (h : FzL K H a xs) : FzL K H' a xs := by
  rcases h with ⟨o, h⟩ | h
  · exact .inl ⟨o, e.2 _ _ _ h⟩
  · exact .inr h
/-- a dict, an instance that never changes -/
def Fz (H : Hp) (a : Addr) (u : HO) : Prop := ∃ o, H a = some (.frz o u)
theorem Fz.gw {H H' : Hp} {a : Addr} {u : HO} (e : Gw H H') (h : Fz H a u) : Fz H' a u := h.imp fun _ h => e.2 _ _ _ h
theorem Fz.rd {H : Hp} {a : Addr} {u : HO} (h : Fz H a u) : Rd H a u := .inr h
/-! a value of the run is as the value told; objects stand where μ says, below n -/
mutual
inductive VR (B : Bs) (H : Hp) (μ : Nat → Addr) (n : Nat) : FV → V → Prop
  | non : VR B H μ n .non .non
  | bl (b : Bool) : VR B H μ n (.bl b) (.bl b)
  | int (i : Int) : VR B H μ n (.int i) (.int i)
  | str (x : Str) : VR B H μ n (.str x) (.str x)
  | tup {a : Addr} {xs : List V} {ds : List FV} : SqT B.K H a xs → VRs B H μ n ds xs → VR B H μ n (.tup ds) (.ref a)
  | fl {a : Addr} {xs : List V} {ds : List FV} : Fz H a (.lst xs) → VRs B H μ n ds xs → VR B H μ n (.fl ds) (.ref a)
  | sl {a : Addr} {xs : List V} {ds : List FV} : FzL B.K H a xs → VRs B H μ n ds xs → VR B H μ n (.sl ds) (.ref a)
  | fd {a : Addr} {ks : List Key} {xs : List V} {ds : List FV} : Fz H a (.dK (ks.zip xs)) → VRs B H μ n ds xs → VR B H μ n (.fd ks ds) (.ref a)
  | ft {a : Addr} {ks : List (List Key)} {xs : List V} {ds : List FV} : Fz H a (.dT (ks.zip xs)) → VRs B H μ n ds xs → VR B H μ n (.ft ks ds) (.ref a)
  | fo {a C dx : Addr} {c : Str} {ks : List Str} {xs : List V} {ds : List FV} : B.mg c = some (.ref C) → Fz H a (.ins C dx (ks.zip xs)) → VRs B H μ n ds xs → VR B H μ n (.fo c ks ds) (.ref a)
  | ref {i : Nat} : i < n → VR B H μ n (.ref i) (.ref (μ i))
inductive VRs (B : Bs) (H : Hp) (μ : Nat → Addr) (n : Nat) : List FV → List V → Prop
  | nil : VRs B H μ n [] []
  | cons {d : FV} {ds : List FV} {v : V} {vs : List V} : VR B H μ n d v → VRs B H μ n ds vs → VRs B H μ n (d :: ds) (v :: vs)
end
section
variable {B : Bs} {H H' : Hp} {μ μ' : Nat → Addr} {n n' m : Nat}
mutual
theorem VR.mono (g : Gw H H') (e : ∀ i, i < n → μ' i = μ i) (l : n ≤ n') : ∀ (d : FV) (v : V), VR B H μ n d v → VR B H' μ' n' d v
  | .non, _, h => by cases h; exact .non
  | .bl b, _, h => by cases h; exact .bl b
  | .int i, _, h => by cases h; exact .int i
  | .str x, _, h => by cases h; exact .str x
  | .tup ds, _, h => by
    cases h with
    | tup a b => exact .tup (g.sqt a) (VRs.mono g e l ds _ b)
  | .fl ds, _, h => by
    cases h with
    | fl a b => exact .fl (a.gw g) (VRs.mono g e l ds _ b)
  | .sl ds, _, h => by
    cases h with
    | sl a b => exact .sl (a.gw g) (VRs.mono g e l ds _ b)
  | .fd ks ds, _, h => by
    cases h with
    | fd a b => exact .fd (a.gw g) (VRs.mono g e l ds _ b)
  | .ft ks ds, _, h => by
    cases h with
    | ft a b => exact .ft (a.gw g) (VRs.mono g e l ds _ b)
  | .fo c ks ds, _, h => by
    cases h with
    | fo z a b => exact .fo z (a.gw g) (VRs.mono g e l ds _ b)
  | .ref i, _, h => by
    cases h with
    | ref a => rw [← e i a]; exact .ref (Nat.lt_of_lt_of_le a l)
theorem VRs.mono (g : Gw H H') (e : ∀ i, i < n → μ' i = μ i) (l : n ≤ n') : ∀ (ds : List FV) (vs : List V), VRs B H μ n ds vs → VRs B H' μ' n' ds vs
  | [], _, h => by cases h; exact .nil
  | d :: ds, _, h => by
    cases h with
    | cons a b => exact .cons (VR.mono g e l d _ a) (VRs.mono g e l ds _ b)
end
theorem VRs.len : ∀ {ds : List FV} {vs : List V}, VRs B H μ n ds vs → vs.length = ds.length
  | [], _, h => by cases h; rfl
  | d :: ds, _, h => by
    cases h with
    | cons a b => show _ + 1 = _ + 1; rw [VRs.len b]
theorem VRs.get : ∀ {ds : List FV} {vs : List V} {i : Nat} {d : FV}, VRs B H μ n ds vs → ds[i]? = some d → ∃ v, vs[i]? = some v ∧ VR B H μ n d v
  | [], _, i, d, h, e => by simp at e
  | d :: ds, _, 0, d', h, e => by
    cases h with
    | cons a b =>
      have e' : d = d' := Option.some.inj e
      subst e'
      exact ⟨_, rfl, a⟩
  | d :: ds, _, i + 1, d', h, e => by
    cases h with
    | cons a b => exact VRs.get (i := i) b (by simpa using e)
theorem VRs.get' : ∀ {ds : List FV} {vs : List V} {i : Nat} {v : V}, VRs B H μ n ds vs → vs[i]? = some v → ∃ d, ds[i]? = some d ∧ VR B H μ n d v
  | [], _, i, d, h, e => by cases h; simp at e
  | d :: ds, _, 0, d', h, e => by
    cases h with
    | cons a b =>
      have e' := Option.some.inj e
      subst e'
      exact ⟨_, rfl, a⟩
  | d :: ds, _, i + 1, d', h, e => by
    cases h with
    | cons a b => exact VRs.get' (i := i) b (by simpa using e)
theorem VRs.append : ∀ {ds es : List FV} {vs us : List V}, VRs B H μ n ds vs → VRs B H μ n es us → VRs B H μ n (ds ++ es) (vs ++ us)
  | [], _, _, _, h, g => by cases h; exact g
  | d :: ds, _, _, _, h, g => by
    cases h with
    | cons a b => exact .cons a (VRs.append b g)
theorem VRs.drop : ∀ {ds : List FV} {vs : List V} (k : Nat), VRs B H μ n ds vs → VRs B H μ n (ds.drop k) (vs.drop k)
  | _, _, 0, h => h
  | [], _, k + 1, h => by cases h; exact .nil
  | d :: ds, _, k + 1, h => by
    cases h with
    | cons a b => exact VRs.drop k b
theorem VRs.take : ∀ {ds : List FV} {vs : List V} (k : Nat), VRs B H μ n ds vs → VRs B H μ n (ds.take k) (vs.take k)
  | _, _, 0, h => .nil
  | [], _, k + 1, h => by cases h; exact .nil
  | d :: ds, _, k + 1, h => by
    cases h with
    | cons a b => exact .cons a (VRs.take k b)
theorem VRs.set : ∀ {ds : List FV} {vs : List V} {v : V} {d : FV} (k : Nat), VR B H μ n d v → VRs B H μ n ds vs → VRs B H μ n (ds.set k d) (vs.set k v)
  | [], _, _, _, k, a, h => by cases h; exact .nil
  | e :: ds, _, _, _, 0, a, h => by
    cases h with
    | cons _ b => exact .cons a b
  | e :: ds, _, _, _, k + 1, a, h => by
    cases h with
    | cons c b => exact .cons c (VRs.set k a b)
theorem VRs.rev : ∀ {ds : List FV} {vs : List V}, VRs B H μ n ds vs → VRs B H μ n ds.reverse vs.reverse
  | [], _, h => by cases h; exact .nil
  | d :: ds, _, h => by
    cases h with
    | cons a b => rw [List.reverse_cons, List.reverse_cons]; exact (VRs.rev b).append (.cons a .nil)
end
/-! no object at n or above is named -/
mutual
def FV.low (n : Nat) : FV → Prop
  | .ref i => i < n
  | .tup xs => FV.lows n xs
  | .fl xs => FV.lows n xs
  | .sl xs => FV.lows n xs
  | .fd _ xs => FV.lows n xs
  | .ft _ xs => FV.lows n xs
  | .fo _ _ xs => FV.lows n xs
  | _ => True
def FV.lows (n : Nat) : List FV → Prop
  | [] => True
  | x :: xs => x.low n ∧ FV.lows n xs
end
section
variable {B : Bs} {H : Hp} {μ μ' : Nat → Addr} {n m : Nat}
mutual
theorem VR.low : ∀ {d : FV} {v : V}, d.low m → VR B H μ n d v → VR B H μ m d v
  | .non, _, l, h => by cases h; exact .non
  | .bl b, _, l, h => by cases h; exact .bl b
  | .int i, _, l, h => by cases h; exact .int i
  | .str x, _, l, h => by cases h; exact .str x
  | .tup ds, _, l, h => by
    cases h with
    | tup a b => exact .tup a (VRs.low (by simpa [FV.low] using l) b)
  | .fl ds, _, l, h => by
    cases h with
    | fl a b => exact .fl a (VRs.low (by simpa [FV.low] using l) b)
  | .sl ds, _, l, h => by
    cases h with
    | sl a b => exact .sl a (VRs.low (by simpa [FV.low] using l) b)
  | .fd ks ds, _, l, h => by
    cases h with
    | fd a b => exact .fd a (VRs.low (by simpa [FV.low] using l) b)
  | .ft ks ds, _, l, h => by
    cases h with
    | ft a b => exact .ft a (VRs.low (by simpa [FV.low] using l) b)
  | .fo c ks ds, _, l, h => by
    cases h with
    | fo z a b => exact .fo z a (VRs.low (by simpa [FV.low] using l) b)
  | .ref i, _, l, h => by
    cases h with
    | ref a => exact .ref (by simpa [FV.low] using l)
theorem VRs.low : ∀ {ds : List FV} {vs : List V}, FV.lows m ds → VRs B H μ n ds vs → VRs B H μ m ds vs
  | [], _, l, h => by cases h; exact .nil
  | d :: ds, _, l, h => by
    cases h with
    | cons a b =>
      have l' : d.low m ∧ FV.lows m ds := by simpa [FV.lows] using l
      exact .cons (VR.low l'.1 a) (VRs.low l'.2 b)
end
end
/-! ### what a run may do to the heap -/
structure Step (μ : Nat → Addr) (n : Nat) (H : Hp) (μ' : Nat → Addr) (n' : Nat) (H' : Hp) : Prop where
  le : n ≤ n'
  ext : ∀ i, i < n → μ' i = μ i
  new : ∀ i, n ≤ i → i < n' → H (μ' i) = none
  fr : ∀ a o, H a = some o → (∀ i, i < n → μ i ≠ a) → H' a = some o
  th : ∀ a, H a ≠ none → H' a ≠ none
  gw : Gw H H'
section
variable {μ μ1 μ2 : Nat → Addr} {n n1 n2 : Nat} {H H1 H2 : Hp}
theorem Step.refl (μ : Nat → Addr) (n : Nat) (H : Hp) : Step μ n H μ n H := ⟨Nat.le_refl _, fun _ _ => rfl, fun i a b => absurd (Nat.lt_of_lt_of_le b a) (Nat.lt_irrefl _), fun _ _ h _ => h, fun _ h => h, Gw.refl H⟩
theorem Step.trans (a : Step μ n H μ1 n1 H1) (b : Step μ1 n1 H1 μ2 n2 H2) : Step μ n H μ2 n2 H2 where
  le := Nat.le_trans a.le b.le
  ext i h := (b.ext i (Nat.lt_of_lt_of_le h a.le)).trans (a.ext i h)
  new i h1 h2 := by
    by_cases h : i < n1
    · rw [b.ext i h]; exact a.new i h1 h
    · cases q : H (μ2 i) with
      | none => rfl
      | some o => exact absurd (b.new i (Nat.le_of_not_lt h) h2) (a.th _ (by rw [q]; exact fun z => nomatch z))
  fr c o h k := by
    refine b.fr c o (a.fr c o h k) fun i hi z => ?_
    by_cases hn : i < n
    · exact k i hn ((a.ext i hn).symm.trans z)
    · have := a.new i (Nat.le_of_not_lt hn) hi
      rw [z, h] at this; cases this
  th c h := b.th c (a.th c h)
  gw := a.gw.trans b.gw
theorem Step.same (e : Same H H1) : Step μ n H μ n H1 where
  le := Nat.le_refl _
  ext _ _ := rfl
  new i a b := absurd (Nat.lt_of_lt_of_le b a) (Nat.lt_irrefl _)
  fr _ _ h _ := e _ _ h
  th a h := by
    cases q : H a with
    | none => exact absurd q h
    | some o => rw [e a o q]; exact fun z => nomatch z
  gw := Same.gw e
/-- one more object is told -/
def ext1 (μ : Nat → Addr) (n : Nat) (p : Addr) : Nat → Addr := fun i => if i = n then p else μ i
theorem ext1_at {p : Addr} : ext1 μ n p n = p := if_pos rfl
theorem ext1_lt {p : Addr} {i : Nat} (h : i < n) : ext1 μ n p i = μ i := if_neg (Nat.ne_of_lt h)
theorem Step.tell {p : Addr} (s : Step μ n H μ1 n1 H1) (hp : H p = none) : Step μ n H (ext1 μ1 n1 p) (n1 + 1) H1 where
  le := Nat.le_trans s.le (Nat.le_succ _)
  ext i h := by rw [ext1_lt (Nat.lt_of_lt_of_le h s.le)]; exact s.ext i h
  new i h1 h2 := by
    by_cases h : i < n1
    · rw [ext1_lt h]; exact s.new i h1 h
    · have e : i = n1 := by omega
      subst e
      rw [ext1_at]; exact hp
  fr := s.fr
  th := s.th
  gw := s.gw
theorem Step.cut (s : Step μ n H μ1 n1 H1) (h : n ≤ n2) (h2 : n2 ≤ n1) : Step μ n H μ1 n2 H1 :=
  ⟨h, s.ext, fun i a b => s.new i a (Nat.lt_of_lt_of_le b h2), s.fr, s.th, s.gw⟩
theorem Step.mut {i : Nat} {o : HO} (h : i < n) (m : Mut (H (μ i))) : Step μ n H μ n (upd H (μ i) o) where
  le := Nat.le_refl _
  ext _ _ := rfl
  new i a b := absurd (Nat.lt_of_lt_of_le b a) (Nat.lt_irrefl _)
  fr c o' hc k := by rw [upd_ne (Ne.symm (k i h))]; exact hc
  th c hc := by
    by_cases e : c = μ i
    · rw [e, upd_same]; exact fun z => nomatch z
    · rw [upd_ne e]; exact hc
  gw := gw_mut m
/-- what is new since the beginning may change -/
theorem Step.own {p : Addr} {o : HO} (s : Step μ n H μ1 n1 H2) (hp : H p = none) (mu : Mut (H2 p)) : Step μ n H μ1 n1 (upd H2 p o) where
  le := s.le
  ext := s.ext
  new := s.new
  fr a u ha hk := by rw [upd_ne (fun z => by rw [z, hp] at ha; cases ha)]; exact s.fr a u ha hk
  th a ha := by
    by_cases z : a = p
    · rw [z, upd_same]; exact fun z => nomatch z
    · rw [upd_ne z]; exact s.th a ha
  gw := s.gw.trans (gw_mut mu)
theorem Step.vr {B : Bs} {d : FV} {v : V} (s : Step μ n H μ1 n1 H1) (h : VR B H μ n d v) : VR B H1 μ1 n1 d v := VR.mono s.gw s.ext s.le d v h
theorem Step.vrs {B : Bs} {d : List FV} {v : List V} (s : Step μ n H μ1 n1 H1) (h : VRs B H μ n d v) : VRs B H1 μ1 n1 d v := VRs.mono s.gw s.ext s.le d v h
end
/-! ### the heap told -/
def KvR {κ : Type} (B : Bs) (H : Hp) (μ : Nat → Addr) (n : Nat) : List (κ × FV) → List (κ × V) → Prop := Paired fun p q => p.1 = q.1 ∧ VR B H μ n p.2 q.2
section
variable {κ : Type} {B : Bs} {H H' : Hp} {μ μ' : Nat → Addr} {n n' m : Nat}
theorem KvR.mono (g : Gw H H') (e : ∀ i, i < n → μ' i = μ i) (l : n ≤ n') : ∀ {ds : List (κ × FV)} {vs : List (κ × V)}, KvR B H μ n ds vs → KvR B H' μ' n' ds vs
  | _, _, .nil => .nil
  | _, _, .cons a b => .cons ⟨a.1, VR.mono g e l _ _ a.2⟩ (KvR.mono g e l b)
def lowKv (n : Nat) (kvs : List (κ × FV)) : Prop := FV.lows n (kvs.map (·.2))
theorem KvR.low : ∀ {ds : List (κ × FV)} {vs : List (κ × V)}, lowKv m ds → KvR B H μ n ds vs → KvR B H μ m ds vs
  | _, _, l, .nil => .nil
  | d :: ds, _, l, .cons a b => by
    have l' : d.2.low m ∧ FV.lows m (ds.map (·.2)) := by simpa [lowKv, FV.lows] using l
    exact .cons ⟨a.1, VR.low l'.1 a.2⟩ (KvR.low l'.2 b)
theorem KvR.len : ∀ {ds : List (κ × FV)} {vs : List (κ × V)}, KvR B H μ n ds vs → vs.length = ds.length
  | _, _, .nil => rfl
  | _, _, .cons a b => congrArg (· + 1) (KvR.len b)
theorem KvR.zip : ∀ {ks : List κ} {ds : List FV} {vs : List V}, VRs B H μ n ds vs → KvR B H μ n (ks.zip ds) (ks.zip vs)
  | [], _, _, _ => by rw [List.zip_nil_left, List.zip_nil_left]; exact .nil
  | k :: ks, _, _, .nil => .nil
  | k :: ks, _, _, .cons a b => .cons ⟨rfl, a⟩ (KvR.zip b)
theorem KvR.fst : ∀ {ds : List (κ × FV)} {vs : List (κ × V)}, KvR B H μ n ds vs → vs.map (·.1) = ds.map (·.1)
  | _, _, .nil => rfl
  | _, _, .cons a b => by rw [List.map_cons, List.map_cons, KvR.fst b, a.1]
theorem KvR.snd : ∀ {ds : List (κ × FV)} {vs : List (κ × V)}, KvR B H μ n ds vs → VRs B H μ n (ds.map (·.2)) (vs.map (·.2))
  | _, _, .nil => .nil
  | _, _, .cons a b => .cons a.2 (KvR.snd b)
theorem zip_parts {α β : Type} : ∀ l : List (α × β), (l.map (·.1)).zip (l.map (·.2)) = l
  | [] => rfl
  | (a, b) :: l => congrArg ((a, b) :: ·) (zip_parts l)
end
/-- the object o stands at a -/
def OR (B : Bs) (H : Hp) (μ : Nat → Addr) (n : Nat) (a : Addr) : FO → Prop
  | .lst ds => ∃ xs, H a = some (.lst xs) ∧ VRs B H μ n ds xs
  | .dK kvs => ∃ ws, H a = some (.dK ws) ∧ KvR B H μ n kvs ws
  | .dT kvs => ∃ ws, H a = some (.dT ws) ∧ KvR B H μ n kvs ws
  | .ins c fs => ∃ C dx ws, B.mg c = some (.ref C) ∧ H a = some (.ins C dx ws) ∧ KvR B H μ n fs ws
  | .lk kvs => ∃ ws od, H a = some (.frz od (.dK ws)) ∧ KvR B H μ n kvs ws
def FO.low (n : Nat) : FO → Prop
  | .lst ds => FV.lows n ds
  | .dK kvs => lowKv n kvs
  | .dT kvs => lowKv n kvs
  | .ins _ fs => lowKv n fs
  | .lk kvs => lowKv n kvs
section
variable {B : Bs} {H H' H1 : Hp} {μ μ' μ1 : Nat → Addr} {n n' n1 m : Nat} {a : Addr} {o : FO} {h h' : FH}
theorem OR.mono (g : Gw H H') (e : ∀ i, i < n → μ' i = μ i) (l : n ≤ n') (k : H' a = H a) (r : OR B H μ n a o) : OR B H' μ' n' a o := by
  cases o with
  | lst ds => obtain ⟨xs, h1, h2⟩ := r; exact ⟨xs, by rw [k]; exact h1, VRs.mono g e l _ _ h2⟩
  | dK ds => obtain ⟨xs, h1, h2⟩ := r; exact ⟨xs, by rw [k]; exact h1, h2.mono g e l⟩
  | dT ds => obtain ⟨xs, h1, h2⟩ := r; exact ⟨xs, by rw [k]; exact h1, h2.mono g e l⟩
  | ins c fs => obtain ⟨C, dx, xs, h0, h1, h2⟩ := r; exact ⟨C, dx, xs, h0, by rw [k]; exact h1, h2.mono g e l⟩
  | lk ds => obtain ⟨xs, od, h1, h2⟩ := r; exact ⟨xs, od, by rw [k]; exact h1, h2.mono g e l⟩
theorem OR.low (l : o.low m) (r : OR B H μ n a o) : OR B H μ m a o := by
  cases o with
  | lst ds => obtain ⟨xs, h1, h2⟩ := r; exact ⟨xs, h1, h2.low l⟩
  | dK ds => obtain ⟨xs, h1, h2⟩ := r; exact ⟨xs, h1, h2.low l⟩
  | dT ds => obtain ⟨xs, h1, h2⟩ := r; exact ⟨xs, h1, h2.low l⟩
  | ins c fs => obtain ⟨C, dx, xs, h0, h1, h2⟩ := r; exact ⟨C, dx, xs, h0, h1, h2.low l⟩
  | lk ds => obtain ⟨xs, od, h1, h2⟩ := r; exact ⟨xs, od, h1, h2.low l⟩
theorem OR.some' (r : OR B H μ n a o) : H a ≠ none := by
  cases o with
  | lst ds => obtain ⟨xs, h1, h2⟩ := r; rw [h1]; exact fun z => nomatch z
  | dK ds => obtain ⟨xs, h1, h2⟩ := r; rw [h1]; exact fun z => nomatch z
  | dT ds => obtain ⟨xs, h1, h2⟩ := r; rw [h1]; exact fun z => nomatch z
  | ins c fs => obtain ⟨C, dx, xs, h0, h1, h2⟩ := r; rw [h1]; exact fun z => nomatch z
  | lk ds => obtain ⟨xs, od, h1, h2⟩ := r; rw [h1]; exact fun z => nomatch z
structure HR (B : Bs) (μ : Nat → Addr) (h : FH) (H : Hp) : Prop where
  at' : ∀ i o, h[i]? = some o → OR B H μ h.length (μ i) o
  inj : ∀ i j, i < h.length → j < h.length → μ i = μ j → i = j
theorem HR.same (r : HR B μ h H) (e : Same H H') : HR B μ h H' := ⟨fun i o q => by
  have z := r.at' i o q
  refine z.mono (Same.gw e) (fun _ _ => rfl) (Nat.le_refl _) ?_
  cases q' : H (μ i) with
  | none => exact absurd q' z.some'
  | some u => exact e _ _ q', r.inj⟩
theorem HR.cls {i : Nat} (r : HR B μ h H) (l : i < h.length) : H (μ i) ≠ none := (r.at' i h[i] (List.getElem?_eq_getElem l)).some'
/-- an object that no number has gets one -/
theorem HR.tell {p : Addr} (r : HR B μ h H) (hn : ∀ i, i < h.length → μ i ≠ p) (ho : OR B H (ext1 μ h.length p) (h.length + 1) p o) : HR B (ext1 μ h.length p) (h ++ [o]) H := by
  refine ⟨fun i u q => ?_, fun i j hi hj e => ?_⟩
  · rw [List.length_append, List.length_singleton]
    by_cases l : i < h.length
    · rw [List.getElem?_append_left l] at q
      rw [ext1_lt l]
      exact (r.at' i u q).mono (Gw.refl H) (fun j hj => ext1_lt hj) (Nat.le_succ _) rfl
    · have l2 : i < (h ++ [o]).length := (List.getElem?_eq_some_iff.mp q).1
      have e : i = h.length := by rw [List.length_append, List.length_singleton] at l2; omega
      subst e
      rw [List.getElem?_append_right (Nat.le_refl _), Nat.sub_self] at q
      have : o = u := Option.some.inj q
      subst this
      rw [ext1_at]; exact ho
  · rw [List.length_append, List.length_singleton] at hi hj
    by_cases li : i < h.length
    · by_cases lj : j < h.length
      · rw [ext1_lt li, ext1_lt lj] at e; exact r.inj i j li lj e
      · have ej : j = h.length := by omega
        subst ej
        rw [ext1_lt li, ext1_at] at e
        exact absurd e (hn i li)
    · have ei : i = h.length := by omega
      subst ei
      by_cases lj : j < h.length
      · rw [ext1_lt lj, ext1_at] at e
        exact absurd e.symm (hn j lj)
      · omega
/-- an object is changed -/
theorem HR.set {i : Nat} {u : HO} (r : HR B μ h H) (l : i < h.length) (ho : OR B (upd H (μ i) u) μ h.length (μ i) o) (mu : Mut (H (μ i)) := by assumption) : HR B μ (h.set i o) (upd H (μ i) u) := by
  refine ⟨fun j v q => ?_, fun j k hj hk e => r.inj j k (by simpa using hj) (by simpa using hk) e⟩
  rw [List.length_set]
  by_cases e : i = j
  · subst e
    rw [List.getElem?_set_self l] at q
    have : o = v := Option.some.inj q
    subst this
    exact ho
  · rw [List.getElem?_set_ne e] at q
    have lj : j < h.length := (List.getElem?_eq_some_iff.mp q).1
    exact (r.at' j v q).mono (gw_mut mu) (fun _ _ => rfl) (Nat.le_refl _) (upd_ne fun z => e (r.inj j i lj l z).symm)
theorem HR.cut {n : Nat} (r : HR B μ h H) (l : ∀ o, o ∈ h.take n → o.low n) (hn : n ≤ h.length) : HR B μ (h.take n) H := by
  have e : (h.take n).length = n := by rw [List.length_take, Nat.min_eq_left hn]
  refine ⟨fun i o q => ?_, fun i j hi hj z => r.inj i j ?_ ?_ z⟩
  · rw [e]
    have q' : h[i]? = some o := by
      rw [List.getElem?_take] at q
      split at q
      · exact q
      · cases q
    exact (r.at' i o q').low (l o (List.mem_of_getElem? q))
  · omega
  · omega
/-- what no number has is changed -/
theorem HR.own {p : Addr} {u : HO} (r : HR B μ h H) (mu : Mut (H p)) (nd : ∀ i, i < h.length → μ i ≠ p) : HR B μ h (upd H p u) :=
  ⟨fun j o hj => (r.at' j o hj).mono (gw_mut mu) (fun _ _ => rfl) (Nat.le_refl _) (upd_ne (nd j (List.getElem?_eq_some_iff.mp hj).1)), r.inj⟩
end
/-! ### results -/
structure Exn where
  cls : Str
  fs : Option (List (Str × FV)) := none
inductive Rs (α : Type) where
  | ok (a : α) (h : FH) | ex (x : Exn) (h : FH) | no
@[inline] def Rs.bind {α β : Type} : Rs α → (α → FH → Rs β) → Rs β
  | .ok a h, k => k a h
  | .ex x h, _ => .ex x h
  | .no, _ => .no
/-- what an expression gives: a value; a new list, dict, instance that nothing else holds; what a slot of this def alone holds, lent -/
inductive RV where
  | v (x : FV) | l (ds : List FV) | d (kvs : List (Key × FV)) | t (kvs : List (List Key × FV)) | o (c : Str) (fs : List (Str × FV))
  | bl (ds : List FV) | bd (kvs : List (Key × FV)) | bt (kvs : List (List Key × FV)) | bo (c : Str) (fs : List (Str × FV))
def Fre (H0 : Hp) (μ : Nat → Addr) (n : Nat) (p : Addr) : Prop := H0 p = none ∧ ∀ i, i < n → μ i ≠ p
abbrev Nd (μ : Nat → Addr) (n : Nat) (p : Addr) : Prop := ∀ i, i < n → μ i ≠ p
inductive RR (B : Bs) (H0 : Hp) (μ : Nat → Addr) (n : Nat) (H : Hp) : RV → V → Prop
  | v {x : FV} {u : V} : VR B H μ n x u → RR B H0 μ n H (.v x) u
  | l {ds : List FV} {p : Addr} {xs : List V} : Fre H0 μ n p → H p = some (.lst xs) → VRs B H μ n ds xs → RR B H0 μ n H (.l ds) (.ref p)
  | d {kvs : List (Key × FV)} {p : Addr} {ws : List (Key × V)} : Fre H0 μ n p → H p = some (.dK ws) → KvR B H μ n kvs ws → RR B H0 μ n H (.d kvs) (.ref p)
  | t {kvs : List (List Key × FV)} {p : Addr} {ws : List (List Key × V)} : Fre H0 μ n p → H p = some (.dT ws) → KvR B H μ n kvs ws → RR B H0 μ n H (.t kvs) (.ref p)
  | o {c : Str} {fs : List (Str × FV)} {p C dx : Addr} {ws : List (Str × V)} : Fre H0 μ n p → B.mg c = some (.ref C) → H p = some (.ins C dx ws) → KvR B H μ n fs ws → RR B H0 μ n H (.o c fs) (.ref p)
  | bl {ds : List FV} {p : Addr} {xs : List V} : Nd μ n p → H p = some (.lst xs) → VRs B H μ n ds xs → RR B H0 μ n H (.bl ds) (.ref p)
  | bd {kvs : List (Key × FV)} {p : Addr} {ws : List (Key × V)} : Nd μ n p → H p = some (.dK ws) → KvR B H μ n kvs ws → RR B H0 μ n H (.bd kvs) (.ref p)
  | bt {kvs : List (List Key × FV)} {p : Addr} {ws : List (List Key × V)} : Nd μ n p → H p = some (.dT ws) → KvR B H μ n kvs ws → RR B H0 μ n H (.bt kvs) (.ref p)
  | bo {c : Str} {fs : List (Str × FV)} {p C dx : Addr} {ws : List (Str × V)} : Nd μ n p → B.mg c = some (.ref C) → H p = some (.ins C dx ws) → KvR B H μ n fs ws → RR B H0 μ n H (.bo c fs) (.ref p)
def XR (B : Bs) (μ : Nat → Addr) (n : Nat) (H : Hp) (x : Exn) (c : Value) (d : Option Addr) : Prop :=
  B.mg x.cls = some c ∧ match x.fs with
    | none => d = none
    | some fs => ∃ a ws, d = some a ∧ H a = some (.xd ws) ∧ KvR B H μ n fs ws
section
variable {B : Bs} {H H0 H1 H2 : Hp} {μ μ1 μ2 : Nat → Addr} {n n1 n2 : Nat} {r : RV} {u : V}
theorem Nd.step {p : Addr} (f : Nd μ1 n1 p) (hp : H1 p ≠ none) (s : Step μ1 n1 H1 μ2 n2 H2) : Nd μ2 n2 p := fun i hi z => by
  by_cases h : i < n1
  · exact f i h ((s.ext i h).symm.trans z)
  · exact hp (by rw [← z]; exact s.new i (Nat.le_of_not_lt h) hi)
theorem Fre.step {p : Addr} (f : Fre H0 μ1 n1 p) (hp : H1 p ≠ none) (s : Step μ1 n1 H1 μ2 n2 H2) : Fre H0 μ2 n2 p := ⟨f.1, Nd.step f.2 hp s⟩
theorem sn {H : Hp} {p : Addr} {o : HO} (h : H p = some o) : H p ≠ none := by rw [h]; exact fun z => nomatch z
theorem RR.step (h : RR B H0 μ1 n1 H1 r u) (s : Step μ1 n1 H1 μ2 n2 H2) : RR B H0 μ2 n2 H2 r u := by
  cases h with
  | v a => exact .v (s.vr a)
  | l f a b => exact .l (f.step (sn a) s) (s.fr _ _ a f.2) (s.vrs b)
  | d f a b => exact .d (f.step (sn a) s) (s.fr _ _ a f.2) (b.mono s.gw s.ext s.le)
  | t f a b => exact .t (f.step (sn a) s) (s.fr _ _ a f.2) (b.mono s.gw s.ext s.le)
  | o f z a b => exact .o (f.step (sn a) s) z (s.fr _ _ a f.2) (b.mono s.gw s.ext s.le)
  | bl f a b => exact .bl (Nd.step f (sn a) s) (s.fr _ _ a f) (s.vrs b)
  | bd f a b => exact .bd (Nd.step f (sn a) s) (s.fr _ _ a f) (b.mono s.gw s.ext s.le)
  | bt f a b => exact .bt (Nd.step f (sn a) s) (s.fr _ _ a f) (b.mono s.gw s.ext s.le)
  | bo f z a b => exact .bo (Nd.step f (sn a) s) z (s.fr _ _ a f) (b.mono s.gw s.ext s.le)
theorem no_th (th : ∀ a, H a ≠ none → H1 a ≠ none) {p : Addr} (z : H1 p = none) : H p = none := by
  cases q : H p with
  | none => rfl
  | some o => exact absurd z (th p (sn q))
/-- a new thing is new for whoever began earlier -/
theorem RR.since (h : RR B H1 μ2 n2 H2 r u) (th : ∀ a, H a ≠ none → H1 a ≠ none) : RR B H μ2 n2 H2 r u := by
  cases h with
  | v a => exact .v a
  | l f a b => exact .l ⟨no_th th f.1, f.2⟩ a b
  | d f a b => exact .d ⟨no_th th f.1, f.2⟩ a b
  | t f a b => exact .t ⟨no_th th f.1, f.2⟩ a b
  | o f z a b => exact .o ⟨no_th th f.1, f.2⟩ z a b
  | bl f a b => exact .bl f a b
  | bd f a b => exact .bd f a b
  | bt f a b => exact .bt f a b
  | bo f z a b => exact .bo f z a b
/-- what a slot holds, read -/
def RV.lend : RV → RV
  | .l ds => .bl ds
  | .d kvs => .bd kvs
  | .t kvs => .bt kvs
  | .o c fs => .bo c fs
  | r => r
theorem RR.lend (h : RR B H0 μ n H r u) : RR B H1 μ n H r.lend u := by
  cases h with
  | v a => exact .v a
  | l f a b => exact .bl f.2 a b
  | d f a b => exact .bd f.2 a b
  | t f a b => exact .bt f.2 a b
  | o f z a b => exact .bo f.2 z a b
  | bl f a b => exact .bl f a b
  | bd f a b => exact .bd f a b
  | bt f a b => exact .bt f a b
  | bo f z a b => exact .bo f z a b
/-- does the slot alone hold it -/
def RV.own : RV → Bool
  | .l _ => true
  | .d _ => true
  | .t _ => true
  | .o _ _ => true
  | _ => false
/-- may it stand in a slot -/
def RV.keep : RV → Bool
  | .bl _ => false
  | .bd _ => false
  | .bt _ => false
  | .bo _ _ => false
  | _ => true
theorem RR.at_own (h : RR B H0 μ n H r u) (o : r.own = true) : ∃ p, u = .ref p ∧ Fre H0 μ n p ∧ Mut (H p) := by
  cases h with
  | l f a b => exact ⟨_, rfl, f, by rw [a]; trivial⟩
  | d f a b => exact ⟨_, rfl, f, by rw [a]; trivial⟩
  | t f a b => exact ⟨_, rfl, f, by rw [a]; trivial⟩
  | o f z a b => exact ⟨_, rfl, f, by rw [a]; trivial⟩
  | _ => cases o
/-- is it an object -/
def RV.obj : RV → Bool
  | .v _ => false
  | _ => true
/-- another object is changed -/
theorem RR.upd' {p : Addr} {o : HO} (h : RR B H0 μ n H r u) (mu : Mut (H p)) (ne : r.obj = true → u ≠ .ref p) : RR B H0 μ n (upd H p o) r u := by
  have g := gw_mut (o := o) mu
  have k : ∀ {q : Addr} {x : HO}, V.ref q ≠ V.ref p → H q = some x → upd H p o q = some x := fun {q x} z e => by rw [upd_ne (fun w => z (by rw [w]))]; exact e
  cases h with
  | v a => exact .v (VR.mono g (fun _ _ => rfl) (Nat.le_refl _) _ _ a)
  | l f a b => exact .l f (k (ne rfl) a) (VRs.mono g (fun _ _ => rfl) (Nat.le_refl _) _ _ b)
  | d f a b => exact .d f (k (ne rfl) a) (b.mono g (fun _ _ => rfl) (Nat.le_refl _))
  | t f a b => exact .t f (k (ne rfl) a) (b.mono g (fun _ _ => rfl) (Nat.le_refl _))
  | o f z a b => exact .o f z (k (ne rfl) a) (b.mono g (fun _ _ => rfl) (Nat.le_refl _))
  | bl f a b => exact .bl f (k (ne rfl) a) (VRs.mono g (fun _ _ => rfl) (Nat.le_refl _) _ _ b)
  | bd f a b => exact .bd f (k (ne rfl) a) (b.mono g (fun _ _ => rfl) (Nat.le_refl _))
  | bt f a b => exact .bt f (k (ne rfl) a) (b.mono g (fun _ _ => rfl) (Nat.le_refl _))
  | bo f z a b => exact .bo f z (k (ne rfl) a) (b.mono g (fun _ _ => rfl) (Nat.le_refl _))
/-- what is wanted of a result -/
def Po {α : Type} (B : Bs) (μ : Nat → Addr) (n : Nat) (H : Hp) (R : α → FH → (Nat → Addr) → Hp → Prop) (E : XK) : Rs α → Prop
  | .ok a h' => ∀ μ' H', Step μ n H μ' h'.length H' → HR B μ' h' H' → R a h' μ' H'
  | .ex x h' => ∀ μ' H' c d, Step μ n H μ' h'.length H' → HR B μ' h' H' → XR B μ' h'.length H' x c d → E c d H'
  | .no => False
variable {α β : Type} {R R' : α → FH → (Nat → Addr) → Hp → Prop} {S : β → FH → (Nat → Addr) → Hp → Prop} {E E' : XK} {a : α} {h : FH} {ra : Rs α} {k : α → FH → Rs β}
theorem Po.bind (h : Po B μ n H S E (ra.bind k)) : Po B μ n H (fun a h' μ' H' => Po B μ' h'.length H' S E (k a h')) E ra := by
  cases ra with
  | no => exact h
  | ex x h' => exact h
  | ok a h' =>
    intro μ' H' s hr
    have h2 : Po B μ n H S E (k a h') := h
    cases q : k a h' with
    | no => rw [q] at h2; exact h2
    | ex x h'' => rw [q] at h2; exact fun μ'' H'' c d s' hr' x' => h2 μ'' H'' c d (s.trans s') hr' x'
    | ok b h'' => rw [q] at h2; exact fun μ'' H'' s' hr' => h2 μ'' H'' (s.trans s') hr'
theorem Po.mono (h : Po B μ n H R E ra) (k : ∀ a h' μ' H', ra = .ok a h' → Step μ n H μ' h'.length H' → HR B μ' h' H' → R a h' μ' H' → R' a h' μ' H') : Po B μ n H R' E ra := by
  cases ra with
  | no => exact h
  | ex x h' => exact h
  | ok a h' => exact fun μ' H' s hr => k a h' μ' H' rfl s hr (h μ' H' s hr)
theorem Po.monoE (p : Po B μ n H R E ra) (h : ∀ c d H', E c d H' → E' c d H') : Po B μ n H R E' ra := by
  cases ra with
  | ok a h' => exact p
  | ex x h' => exact fun μ' H' c d s r q => h c d H' (p μ' H' c d s r q)
  | no => exact p
/-- the result stands where it was told -/
theorem Po.here (hh : n = h.length) (r : HR B μ h H) (p : Po B μ n H R E (.ok a h)) : R a h μ H := by
  subst hh
  exact p μ H (Step.refl _ _ _) r
theorem Po.last (p : Po B μ h.length H R E (.ok a h)) (hr : HR B μ h H) (s : Same H H1) : R a h μ H1 := p μ H1 (Step.same s) (hr.same s)
theorem Po.at' (p : Po B μ n H R E ra) (s : Step μ n H μ1 n1 H1) : Po B μ1 n1 H1 R E ra := by
  cases ra with
  | no => exact p
  | ex x h => exact fun μ' H' c d s' => p μ' H' c d (s.trans s')
  | ok a h => exact fun μ' H' s' => p μ' H' (s.trans s')
/-- .. where the wish is still said from the earlier state -/
theorem Po.bindAt (p : Po B μ n H S E (ra.bind k)) (s : Step μ n H μ1 n1 H1) : Po B μ1 n1 H1 (fun a h' _ _ => Po B μ n H S E (k a h')) E ra := by
  cases ra with
  | no => exact p
  | ex x h => exact fun μ' H' c d s' => p μ' H' c d (s.trans s')
  | ok a h => exact fun _ _ _ _ => p
end
/-! ### slots -/
abbrev Sl := List (Option RV)
/-- where a def was entered -/
structure Ent where
  μ : Nat → Addr
  n : Nat
  H : Hp
structure SR (B : Bs) (E : Ent) (μ : Nat → Addr) (Γ : Sl) (h : FH) (σ : St) (H : Hp) : Prop where
  st : Step E.μ E.n E.H μ h.length H
  hr : HR B μ h H
  len : Γ.length = σ.length
  sl : ∀ (i : Nat) (r : RV), Γ[i]? = some (some r) → ∃ u, σ[i]? = some (some u) ∧ RR B E.H μ h.length H r u
  inj : ∀ (i j : Nat) (r r' : RV) (p : Addr), Γ[i]? = some (some r) → Γ[j]? = some (some r') → r.obj = true → r'.obj = true → σ[i]? = some (some (.ref p)) → σ[j]? = some (some (.ref p)) → i = j
section
variable {B : Bs} {E : Ent} {H H' H1 : Hp} {μ μ' : Nat → Addr} {Γ Γ' : Sl} {h h' : FH} {σ : St} {r : RV} {u : V} {i : Nat}
theorem SR.step (r : SR B E μ Γ h σ H) (s : Step μ h.length H μ' h'.length H') (q : HR B μ' h' H') : SR B E μ' Γ h' σ H' :=
  ⟨r.st.trans s, q, r.len, fun i v e => let ⟨u, a, b⟩ := r.sl i v e; ⟨u, a, b.step s⟩, r.inj⟩
theorem set_get {α : Type} {l : List (Option α)} {i j : Nat} {x : Option α} {y : α} (e : (l.set i x)[j]? = some (some y)) : (i = j ∧ x = some y ∧ i < l.length) ∨ (i ≠ j ∧ l[j]? = some (some y)) := by
  by_cases hj : i = j
  · subst hj
    by_cases l' : i < l.length
    · rw [List.getElem?_set_self l'] at e
      exact .inl ⟨rfl, Option.some.inj e, l'⟩
    · rw [List.getElem?_eq_none (by rw [List.length_set]; exact Nat.le_of_not_lt l')] at e; cases e
  · rw [List.getElem?_set_ne hj] at e
    exact .inr ⟨hj, e⟩
/-- a slot gets a result; an object must be new to the other slots -/
theorem SR.put (s : SR B E μ Γ h σ H) (m : RR B E.H μ h.length H r u) (nw : r.obj = true → ∀ (j : Nat) (r' : RV) (p : Addr), Γ[j]? = some (some r') → r'.obj = true → σ[j]? = some (some (.ref p)) → u ≠ .ref p) :
    SR B E μ (Γ.set i (some r)) h (σ.set i (some u)) H := by
  refine ⟨s.st, s.hr, by rw [List.length_set, List.length_set]; exact s.len, fun j w e => ?_, fun j k w w' p e1 e2 o1 o2 e3 e4 => ?_⟩
  · rcases set_get e with ⟨rfl, e', l⟩ | ⟨ne, e'⟩
    · cases e'
      exact ⟨u, by rw [List.getElem?_set_self (by rw [← s.len]; exact l)], m⟩
    · rw [List.getElem?_set_ne ne]
      exact s.sl j w e'
  · rcases set_get e1 with ⟨rfl, e1', l1⟩ | ⟨ne1, e1'⟩
    · cases e1'
      rcases set_get e2 with ⟨rfl, e2', l2⟩ | ⟨ne2, e2'⟩
      · rfl
      · rw [List.getElem?_set_self (by rw [← s.len]; exact l1)] at e3
        rw [List.getElem?_set_ne ne2] at e4
        exact absurd (Option.some.inj (Option.some.inj e3)) (nw o1 k w' p e2' o2 e4)
    · rw [List.getElem?_set_ne ne1] at e3
      rcases set_get e2 with ⟨rfl, e2', l2⟩ | ⟨ne2, e2'⟩
      · cases e2'
        rw [List.getElem?_set_self (by rw [← s.len]; exact l2)] at e4
        exact absurd (Option.some.inj (Option.some.inj e4)) (nw o2 j w p e1' o1 e3)
      · rw [List.getElem?_set_ne ne2] at e4
        exact s.inj j k w w' p e1' e2' o1 o2 e3 e4
theorem SR.putV {x : FV} (s : SR B E μ Γ h σ H) (m : VR B H μ h.length x u) : SR B E μ (Γ.set i (some (.v x))) h (σ.set i (some u)) H := s.put (.v m) fun z => by cases z
/-- what was made since s stood is new to its slots -/
theorem SR.fresh {μ0 : Nat → Addr} {h0 : FH} {H0 : Hp} (s : SR B E μ0 Γ h0 σ H0) (m : RR B H0 μ h.length H r u) (o : r.own = true) (j : Nat) (r' : RV) (p : Addr) (e : Γ[j]? = some (some r')) (o' : r'.obj = true) (e' : σ[j]? = some (some (.ref p))) : u ≠ .ref p := fun z => by
  obtain ⟨q, rfl, f, _⟩ := m.at_own o
  cases z
  obtain ⟨u', h1, h2⟩ := s.sl j r' e
  rw [e'] at h1; cases h1
  have : H0 p ≠ none := by
    cases h2 with
    | v a => cases o'
    | l f a b => exact sn a
    | d f a b => exact sn a
    | t f a b => exact sn a
    | o f z a b => exact sn a
    | bl f a b => exact sn a
    | bd f a b => exact sn a
    | bt f a b => exact sn a
    | bo f z a b => exact sn a
  exact this f.1
theorem SR.drop (s : SR B E μ Γ h σ H) (o : Option V) : SR B E μ (Γ.set i none) h (σ.set i o) H := by
  refine ⟨s.st, s.hr, by rw [List.length_set, List.length_set]; exact s.len, fun j w e => ?_, fun j k w w' p e1 e2 o1 o2 e3 e4 => ?_⟩
  · rcases set_get e with ⟨rfl, e', l⟩ | ⟨ne, e'⟩
    · cases e'
    · rw [List.getElem?_set_ne ne]
      exact s.sl j w e'
  · rcases set_get e1 with ⟨rfl, e1', l1⟩ | ⟨ne1, e1'⟩
    · cases e1'
    · rw [List.getElem?_set_ne ne1] at e3
      rcases set_get e2 with ⟨rfl, e2', l2⟩ | ⟨ne2, e2'⟩
      · cases e2'
      · rw [List.getElem?_set_ne ne2] at e4
        exact s.inj j k w w' p e1' e2' o1 o2 e3 e4
/-- fewer slots are spoken of -/
inductive Sub : Sl → Sl → Prop
  | nil : Sub [] []
  | keep {x : Option RV} {a b : Sl} : Sub a b → Sub (x :: a) (x :: b)
  | drop {x : Option RV} {a b : Sl} : Sub a b → Sub (none :: a) (x :: b)
theorem Sub.refl : ∀ a : Sl, Sub a a
  | [] => .nil
  | x :: a => .keep (Sub.refl a)
theorem Sub.len : ∀ {a b : Sl}, Sub a b → a.length = b.length
  | _, _, .nil => rfl
  | _, _, .keep h => congrArg (· + 1) h.len
  | _, _, .drop h => congrArg (· + 1) h.len
theorem Sub.get : ∀ {a b : Sl}, Sub a b → ∀ {i : Nat} {r : RV}, a[i]? = some (some r) → b[i]? = some (some r)
  | _, _, .nil, _, _, e => e
  | _, _, .keep h, 0, _, e => e
  | _, _, .keep h, i + 1, _, e => h.get (i := i) e
  | _, _, .drop h, 0, _, e => by cases e
  | _, _, .drop h, i + 1, _, e => h.get (i := i) e
theorem SR.sub (s : SR B E μ Γ h σ H) (w : Sub Γ' Γ) : SR B E μ Γ' h σ H :=
  ⟨s.st, s.hr, w.len.trans s.len, fun i r e => s.sl i r (w.get e), fun i j r r' p e1 e2 => s.inj i j r r' p (w.get e1) (w.get e2)⟩
/-- an object that no slot and no number has, or that one slot has, is changed -/
theorem SR.upd' {p : Addr} {o : HO} (s : SR B E μ Γ h σ H) (hp : E.H p = none) (nd : Nd μ h.length p) (mu : Mut (H p)) (ne : ∀ (j : Nat) (r' : RV), Γ[j]? = some (some r') → r'.obj = true → σ[j]? ≠ some (some (.ref p))) : SR B E μ Γ h σ (upd H p o) :=
  ⟨s.st.own hp mu, s.hr.own mu nd, s.len, fun i r e => by
    obtain ⟨u, h1, h2⟩ := s.sl i r e
    exact ⟨u, h1, h2.upd' mu fun ho z => ne i r e ho (by rw [h1, z])⟩, s.inj⟩
/-- the object in slot i is changed: the slot holds what it is then -/
theorem SR.chg {p : Addr} {o : HO} (s : SR B E μ Γ h σ H) (ho : r.obj = true) (e : Γ[i]? = some (some r)) (e' : σ[i]? = some (some (.ref p))) (hp : E.H p = none) (nd : Nd μ h.length p) (mu : Mut (H p)) {r' : RV} (m : RR B E.H μ h.length (upd H p o) r' (.ref p)) : SR B E μ (Γ.set i (some r')) h σ (upd H p o) := by
  have li : i < Γ.length := (List.getElem?_eq_some_iff.mp e).1
  refine ⟨s.st.own hp mu, s.hr.own mu nd, by rw [List.length_set]; exact s.len, fun j w q => ?_, fun j k w w' a e1 e2 o1 o2 e3 e4 => ?_⟩
  · rcases set_get q with ⟨rfl, q', l⟩ | ⟨nj, q'⟩
    · cases q'
      exact ⟨_, e', m⟩
    · obtain ⟨u, h1, h2⟩ := s.sl j w q'
      exact ⟨u, h1, h2.upd' mu fun hw z => nj (s.inj i j r w p e q' ho hw e' (by rw [h1, z]))⟩
  · have back : ∀ {j : Nat} {w : RV}, (Γ.set i (some r'))[j]? = some (some w) → w.obj = true → ∃ w0, Γ[j]? = some (some w0) ∧ w0.obj = true := fun {j w} q o1 => by
      rcases set_get q with ⟨rfl, q', l⟩ | ⟨nj, q'⟩
      · exact ⟨r, e, ho⟩
      · exact ⟨w, q', o1⟩
    obtain ⟨w1, a1, b1⟩ := back e1 o1
    obtain ⟨w2, a2, b2⟩ := back e2 o2
    exact s.inj j k w1 w2 a a1 a2 b1 b2 e3 e4
end
/-! ### freezing: what is known of an object changes, the object does not -/
def Gh (G : Hp → Prop) (H : Hp) : Prop := G H ∨ ∃ p u, H p = some u ∧ Mut (some u) ∧ ∀ od, G (upd H p (.frz od u))
theorem wE.gh {X : Cx} {e : Expr} {σ : L2.St} {H : Hp} {Q : VK} (h : wE X e σ H fun v => Gh (Q v)) : wE X e σ H Q := ⟨fun pins s I =>
  thn (h.go pins s I) fun _ s' ⟨v, H', I', r, z⟩ => by
    rcases z with z | ⟨p, u, e1, m, z⟩
    · exact ⟨v, H', I', r, z⟩
    · obtain ⟨od, I2⟩ := I'.lock e1 m
      exact ⟨v, _, I2, r, z od⟩⟩
theorem wSs.gh {X : Cx} {sts : List Stmt} {D : Ends} {σ : L2.St} {H : Hp} (h : Gh (fun H => wSs X sts D σ H) H) : wSs X sts D σ H := by
  rcases h with h | ⟨p, u, e1, m, z⟩
  · exact h
  · exact ⟨fun pins s I => by
      obtain ⟨od, I2⟩ := I.lock e1 m
      exact (z od).go pins s I2⟩
/-- a result as a value: what is new is frozen -/
def RV.frz : RV → Option FV
  | .v x => some x
  | .l ds => some (.fl ds)
  | .d kvs => some (.fd (kvs.map (·.1)) (kvs.map (·.2)))
  | .t kvs => some (.ft (kvs.map (·.1)) (kvs.map (·.2)))
  | .o c fs => some (.fo c (fs.map (·.1)) (fs.map (·.2)))
  | _ => none
section
variable {B : Bs} {H H0 H1 : Hp} {μ ν : Nat → Addr} {n m : Nat} {h : FH} {r : RV} {u : V} {d : FV}
theorem frz_ok (hr : HR B μ h H) (m : RR B H0 μ h.length H r u) (e : r.frz = some d) (s : Step ν n H0 μ h.length H) :
    Gh (fun H' => Step ν n H0 μ h.length H' ∧ HR B μ h H' ∧ VR B H' μ h.length d u ∧ Gw H H' ∧ ∀ p, u ≠ .ref p → H' p = H p) H := by
  cases m with
  | v a => cases e; exact .inl ⟨s, hr, a, Gw.refl _, fun _ _ => rfl⟩
  | l f a b =>
    cases e
    rename_i ds p xs
    have mu : Mut (H p) := by rw [a]; trivial
    exact .inr ⟨p, _, a, trivial, fun od => ⟨s.own f.1 mu, hr.own mu f.2, .fl ⟨od, upd_same⟩ (VRs.mono (gw_mut mu) (fun _ _ => rfl) (Nat.le_refl _) _ _ b), gw_mut mu, fun q z => upd_ne fun w => z (by rw [w])⟩⟩
  | d f a b =>
    cases e
    rename_i kvs p ws
    have mu : Mut (H p) := by rw [a]; trivial
    refine .inr ⟨p, _, a, trivial, fun od => ⟨s.own f.1 mu, hr.own mu f.2, .fd (xs := ws.map (·.2)) ⟨od, ?_⟩ (VRs.mono (gw_mut mu) (fun _ _ => rfl) (Nat.le_refl _) _ _ b.snd), gw_mut mu, fun q z => upd_ne fun w => z (by rw [w])⟩⟩
    rw [upd_same, ← b.fst, zip_parts]
  | t f a b =>
    cases e
    rename_i kvs p ws
    have mu : Mut (H p) := by rw [a]; trivial
    refine .inr ⟨p, _, a, trivial, fun od => ⟨s.own f.1 mu, hr.own mu f.2, .ft (xs := ws.map (·.2)) ⟨od, ?_⟩ (VRs.mono (gw_mut mu) (fun _ _ => rfl) (Nat.le_refl _) _ _ b.snd), gw_mut mu, fun q z => upd_ne fun w => z (by rw [w])⟩⟩
    rw [upd_same, ← b.fst, zip_parts]
  | o f z a b =>
    cases e
    rename_i c fs p C dx ws
    have mu : Mut (H p) := by rw [a]; trivial
    refine .inr ⟨p, _, a, trivial, fun od => ⟨s.own f.1 mu, hr.own mu f.2, .fo (C := C) (dx := dx) (xs := ws.map (·.2)) z ⟨od, ?_⟩ (VRs.mono (gw_mut mu) (fun _ _ => rfl) (Nat.le_refl _) _ _ b.snd), gw_mut mu, fun q z => upd_ne fun w => z (by rw [w])⟩⟩
    rw [upd_same, ← b.fst, zip_parts]
  | _ => cases e
def vF : Rs RV → Rs FV
  | .ok r h => match r.frz with | some d => .ok d h | none => .no
  | .ex x h => .ex x h
  | .no => .no
theorem Po.vF {R : FV → FH → (Nat → Addr) → Hp → Prop} {E : XK} {r : Rs RV} (p : Po B μ m H R E (vF r)) :
    Po B μ m H (fun x h' μ' H' => ∀ u, RR B H μ' h'.length H' x u → ∃ d, x.frz = some d ∧ Gh (fun H'' => Step μ m H μ' h'.length H'' ∧ HR B μ' h' H'' ∧ VR B H'' μ' h'.length d u ∧ Gw H' H'' ∧ (∀ p, u ≠ .ref p → H'' p = H' p) ∧ R d h' μ' H'') H') E r := by
  cases r with
  | no => exact p
  | ex x h' => exact p
  | ok x h' =>
    intro μ' H' s hr u ru
    cases z : x.frz with
    | none => unfold P.vF at p; dsimp only at p; rw [z] at p; exact p.elim
    | some d =>
      have p' : Po B μ m H R E (.ok d h') := by unfold P.vF at p; dsimp only at p; rw [z] at p; exact p
      refine ⟨d, rfl, ?_⟩
      rcases frz_ok hr ru z s with a | ⟨q, w, a, b, c⟩
      · exact .inl ⟨a.1, a.2.1, a.2.2.1, a.2.2.2.1, a.2.2.2.2, p' μ' H' a.1 a.2.1⟩
      · exact .inr ⟨q, w, a, b, fun od => ⟨(c od).1, (c od).2.1, (c od).2.2.1, (c od).2.2.2.1, (c od).2.2.2.2, p' μ' _ (c od).1 (c od).2.1⟩⟩
theorem Gh.mono {G G' : Hp → Prop} (h : Gh G H) (k : ∀ H, G H → G' H) : Gh G' H := by
  rcases h with h | ⟨p, u, e, m, z⟩
  · exact .inl (k _ h)
  · exact .inr ⟨p, u, e, m, fun od => k _ (z od)⟩
/-- a result as a value: what is new gets a number -/
def RV.tell : RV → FH → Option (FV × FH)
  | .v x, h => some (x, h)
  | .l ds, h => some (.ref h.length, h ++ [.lst ds])
  | .d kvs, h => some (.ref h.length, h ++ [.dK kvs])
  | .t kvs, h => some (.ref h.length, h ++ [.dT kvs])
  | .o c fs, h => some (.ref h.length, h ++ [.ins c fs])
  | _, _ => none
theorem tell_ok {h' : FH} (hr : HR B μ h H) (m : RR B H0 μ h.length H r u) (e : r.tell h = some (d, h')) (s : Step ν n H0 μ h.length H) :
    ∃ μ', Step ν n H0 μ' h'.length H ∧ HR B μ' h' H ∧ VR B H μ' h'.length d u := by
  have key : ∀ {o : FO} {p : Addr}, Fre H0 μ h.length p → OR B H (ext1 μ h.length p) (h.length + 1) p o → ∃ μ', Step ν n H0 μ' (h ++ [o]).length H ∧ HR B μ' (h ++ [o]) H ∧ VR B H μ' (h ++ [o]).length (.ref h.length) (.ref p) := fun {o p} f ho => by
    refine ⟨ext1 μ h.length p, ?_, hr.tell f.2 ho, ?_⟩
    · rw [List.length_append, List.length_singleton]; exact s.tell f.1
    · have : V.ref p = V.ref (ext1 μ h.length p h.length) := by rw [ext1_at]
      rw [this]
      exact .ref (by rw [List.length_append, List.length_singleton]; exact Nat.lt_succ_self _)
  cases m with
  | v q => cases e; exact ⟨μ, s, hr, q⟩
  | l f a b => cases e; exact key f ⟨_, a, VRs.mono (Gw.refl H) (fun i hi => ext1_lt hi) (Nat.le_succ _) _ _ b⟩
  | d f a b => cases e; exact key f ⟨_, a, b.mono (Gw.refl H) (fun i hi => ext1_lt hi) (Nat.le_succ _)⟩
  | t f a b => cases e; exact key f ⟨_, a, b.mono (Gw.refl H) (fun i hi => ext1_lt hi) (Nat.le_succ _)⟩
  | o f z a b => cases e; exact key f ⟨_, _, _, z, a, b.mono (Gw.refl H) (fun i hi => ext1_lt hi) (Nat.le_succ _)⟩
  | _ => cases e
def vT : Rs RV → Rs FV
  | .ok r h => match r.tell h with | some (d, h') => .ok d h' | none => .no
  | .ex x h => .ex x h
  | .no => .no
theorem Po.vT {R : FV → FH → (Nat → Addr) → Hp → Prop} {E : XK} {r : Rs RV} (p : Po B μ m H R E (vT r)) :
    Po B μ m H (fun x h' μ' H' => ∀ u, RR B H μ' h'.length H' x u → ∃ d h'' μ'', Step μ m H μ'' h''.length H' ∧ HR B μ'' h'' H' ∧ VR B H' μ'' h''.length d u ∧ R d h'' μ'' H') E r := by
  cases r with
  | no => exact p
  | ex x h' => exact p
  | ok x h' =>
    intro μ' H' s hr u ru
    cases z : x.tell h' with
    | none => unfold P.vT at p; dsimp only at p; rw [z] at p; exact p.elim
    | some dh =>
      obtain ⟨d, h''⟩ := dh
      have p' : Po B μ m H R E (.ok d h'') := by unfold P.vT at p; dsimp only at p; rw [z] at p; exact p
      obtain ⟨μ'', s2, hr2, v2⟩ := tell_ok hr ru z s
      exact ⟨d, h'', μ'', s2, hr2, v2, p' μ'' H' s2 hr2⟩
end
end P
/-! P: expressions. -/
namespace P
open PySem PySem.Spec PyProof.Rows L2 G
abbrev LIM : Nat := 16000000
theorem lim_le {n : Nat} (h : n ≤ LIM) : n ≤ sizeLine := Nat.le_trans h (by decide)
theorem lim_lt {n : Nat} (h : n < LIM) : n < sizeLine := Nat.lt_of_lt_of_le h (by decide)
/-! ### what a piece of the program does -/
abbrev M (α : Type) := FH → Rs α
def pur {α : Type} (a : α) : M α := fun h => .ok a h
def fail {α : Type} : M α := fun _ => .no
def bnd {α β : Type} (m : M α) (k : α → M β) : M β := fun h => (m h).bind k
def lift {α : Type} (o : FH → Option α) : M α := fun h => match o h with | some a => .ok a h | none => .no
def mV (m : M RV) : M FV := fun h => vF (m h)
def mT (m : M RV) : M FV := fun h => vT (m h)
/-- f says what e does from the slots Γ; W: what is wanted of an error -/
def JE (X : Cx) (W : WX) (E : Ent) (Γ : Sl) (e : Expr) (f : M RV) : Prop :=
  ∀ μ h σ H Q, SR (bs X) E μ Γ h σ H → Po (bs X) μ h.length H (fun r h' μ' H' => ∀ u, RR (bs X) H μ' h'.length H' r u → Q u H') (fun c d H' => W c d σ H') (f h) → wE X e σ H Q
def JT (X : Cx) (W : WX) (E : Ent) (Γ : Sl) (e : Expr) (f : M Bool) : Prop :=
  ∀ μ h σ H Q, SR (bs X) E μ Γ h σ H → Po (bs X) μ h.length H (fun b h' μ' H' => Q b H') (fun c d H' => W c d σ H') (f h) → wT X e σ H Q
theorem JE.to {X : Cx} {W : WX} {E : Ent} {Γ : Sl} {e : Expr} {f g : M RV} (p : JE X W E Γ e f) (q : ∀ h, f h = g h) : JE X W E Γ e g := by
  have : f = g := funext q
  exact this ▸ p
theorem JT.to {X : Cx} {W : WX} {E : Ent} {Γ : Sl} {e : Expr} {f g : M Bool} (p : JT X W E Γ e f) (q : ∀ h, f h = g h) : JT X W E Γ e g := by
  have : f = g := funext q
  exact this ▸ p
/-! ### what stands behind a result -/
def RV.seq : RV → FH → Option (Bool × List FV)
  | .v (.tup ds), _ => some (true, ds)
  | .v (.fl ds), _ => some (false, ds)
  | .v (.sl ds), _ => some (false, ds)
  | .v (.ref m), h => match h[m]? with | some (.lst ds) => some (false, ds) | _ => none
  | .l ds, _ => some (false, ds)
  | .bl ds, _ => some (false, ds)
  | _, _ => none
/-- .. a list that is an object of its own -/
def RV.lst : RV → FH → Option (List FV)
  | .v (.ref m), h => match h[m]? with | some (.lst ds) => some ds | _ => none
  | .v (.fl ds), _ => some ds
  | .l ds, _ => some ds
  | .bl ds, _ => some ds
  | _, _ => none
def RV.dict : RV → FH → Option (List (Key × FV))
  | .v (.ref m), h => match h[m]? with | some (.dK ds) => some ds | some (.lk ds) => some ds | _ => none
  | .v (.fd ks vs), _ => some (ks.zip vs)
  | .d ds, _ => some ds
  | .bd ds, _ => some ds
  | _, _ => none
section
variable {B : Bs} {H H0 H' : Hp} {μ : Nat → Addr} {n : Nat} {h : FH} {x : RV} {u : V} {ds : List FV}
theorem HR.lst {m : Nat} (hr : HR B μ h H) (e : h[m]? = some (.lst ds)) : ∃ xs, H (μ m) = some (.lst xs) ∧ VRs B H μ h.length ds xs := hr.at' m _ e
theorem lst_ok (hr : HR B μ h H) (r : RR B H0 μ h.length H x u) (e : x.lst h = some ds) : ∃ a xs, u = .ref a ∧ Rd H a (.lst xs) ∧ VRs B H μ h.length ds xs := by
  cases r with
  | v q =>
    cases q with
    | ref l =>
      rename_i i
      have e' : (match h[i]? with | some (.lst ds) => some ds | _ => none) = some ds := e
      split at e'
      · rename_i z zh
        cases e'
        obtain ⟨xs, h1, h2⟩ := hr.lst zh
        exact ⟨_, xs, rfl, .inl h1, h2⟩
      · cases e'
    | fl a b => cases e; exact ⟨_, _, rfl, a.rd, b⟩
    | _ => cases e
  | l f a b => cases e; exact ⟨_, _, rfl, .inl a, b⟩
  | bl f a b => cases e; exact ⟨_, _, rfl, .inl a, b⟩
  | _ => cases e
theorem dict_ok {kvs : List (Key × FV)} (hr : HR B μ h H) (r : RR B H0 μ h.length H x u) (e : x.dict h = some kvs) : ∃ a ws, u = .ref a ∧ Rd H a (.dK ws) ∧ KvR B H μ h.length kvs ws := by
  cases r with
  | v q =>
    cases q with
    | ref l =>
      rename_i i
      have e' : (match h[i]? with | some (.dK ds) => some ds | some (.lk ds) => some ds | _ => none) = some kvs := e
      split at e'
      · rename_i z zh
        cases e'
        obtain ⟨xs, h1, h2⟩ := hr.at' i _ zh
        exact ⟨_, xs, rfl, .inl h1, h2⟩
      · rename_i z zh
        cases e'
        obtain ⟨xs, od, h1, h2⟩ := hr.at' i _ zh
        exact ⟨_, xs, rfl, .inr ⟨od, h1⟩, h2⟩
      · cases e'
    | fd a b => cases e; exact ⟨_, _, rfl, a.rd, KvR.zip b⟩
    | _ => cases e
  | d f a b => cases e; exact ⟨_, _, rfl, .inl a, b⟩
  | bd f a b => cases e; exact ⟨_, _, rfl, .inl a, b⟩
  | _ => cases e
theorem seq_ok {b : Bool} (hr : HR B μ h H) (r : RR B H0 μ h.length H x u) (e : x.seq h = some (b, ds)) : ∃ a xs, u = .ref a ∧ VRs B H μ h.length ds xs ∧ (if b = true then SqT B.K H a xs else SqL B.K H a xs) := by
  cases r with
  | v q =>
    cases q with
    | tup a c => cases e; exact ⟨_, _, rfl, c, by rw [if_pos rfl]; exact a⟩
    | fl a c => cases e; exact ⟨_, _, rfl, c, by rw [if_neg (by decide)]; exact .inl a.rd⟩
    | sl a c => cases e; exact ⟨_, _, rfl, c, by rw [if_neg (by decide)]; exact a.sqL⟩
    | ref l =>
      rename_i i
      have e' : (match h[i]? with | some (.lst ds) => some (false, ds) | _ => none) = some (b, ds) := e
      split at e'
      · rename_i z zh
        cases e'
        obtain ⟨xs, h1, h2⟩ := hr.lst zh
        exact ⟨_, xs, rfl, h2, by rw [if_neg (by decide)]; exact SqL.of h1⟩
      · cases e'
    | _ => cases e
  | l f a c => cases e; exact ⟨_, _, rfl, c, by rw [if_neg (by decide)]; exact SqL.of a⟩
  | bl f a c => cases e; exact ⟨_, _, rfl, c, by rw [if_neg (by decide)]; exact SqL.of a⟩
  | _ => cases e
theorem seqL_ok (hr : HR B μ h H) (r : RR B H0 μ h.length H x u) (e : x.seq h = some (false, ds)) : ∃ a xs, u = .ref a ∧ VRs B H μ h.length ds xs ∧ SqL B.K H a xs := by
  obtain ⟨a, xs, h1, h2, h3⟩ := seq_ok hr r e
  exact ⟨a, xs, h1, h2, by rw [if_neg (by decide)] at h3; exact h3⟩
theorem seqT_ok (hr : HR B μ h H) (r : RR B H0 μ h.length H x u) (e : x.seq h = some (true, ds)) : ∃ a xs, u = .ref a ∧ VRs B H μ h.length ds xs ∧ SqT B.K H a xs := by
  obtain ⟨a, xs, h1, h2, h3⟩ := seq_ok hr r e
  exact ⟨a, xs, h1, h2, by rw [if_pos rfl] at h3; exact h3⟩
theorem seqE_ok {b : Bool} (hr : HR B μ h H) (r : RR B H0 μ h.length H x u) (e : x.seq h = some (b, ds)) : ∃ a xs, u = .ref a ∧ VRs B H μ h.length ds xs ∧ (SqL B.K H a xs ∨ SqT B.K H a xs) := by
  cases b with
  | true => obtain ⟨a, xs, h1, h2, h3⟩ := seqT_ok hr r e; exact ⟨a, xs, h1, h2, .inr h3⟩
  | false => obtain ⟨a, xs, h1, h2, h3⟩ := seqL_ok hr r e; exact ⟨a, xs, h1, h2, .inl h3⟩
/-- a new tuple, a new list -/
theorem VRs.same (e : Same H H') {vs : List V} (q : VRs B H μ n ds vs) : VRs B H' μ n ds vs := VRs.mono (Same.gw e) (fun _ _ => rfl) (Nat.le_refl _) _ _ q
theorem VR.same {d : FV} {v : V} (e : Same H H') (q : VR B H μ n d v) : VR B H' μ n d v := VR.mono (Same.gw e) (fun _ _ => rfl) (Nat.le_refl _) _ _ q
theorem rr_tup {p : Addr} {xs : List V} (hp : H p = none) (q : VRs B H μ n ds xs) : RR B H0 μ n (upd H p (.tup xs)) (.v (.tup ds)) (.ref p) := .v (.tup (.inl (.inl upd_same)) (q.same (same_new hp)))
theorem fre_new {p : Addr} (hr : HR B μ h H) (th : ∀ a, H0 a ≠ none → H a ≠ none) (hp : H p = none) : Fre H0 μ h.length p := ⟨no_th th hp, fun i hi z => hr.cls hi (by rw [z]; exact hp)⟩
theorem rr_lst {p : Addr} {xs : List V} (hr : HR B μ h H) (th : ∀ a, H0 a ≠ none → H a ≠ none) (hp : H p = none) (q : VRs B H μ h.length ds xs) : RR B H0 μ h.length (upd H p (.lst xs)) (.l ds) (.ref p) :=
  .l (fre_new hr th hp) upd_same (q.same (same_new hp))
theorem rr_dct {p : Addr} {kvs : List (Key × FV)} {ws : List (Key × V)} (hr : HR B μ h H) (th : ∀ a, H0 a ≠ none → H a ≠ none) (hp : H p = none) (q : KvR B H μ h.length kvs ws) : RR B H0 μ h.length (upd H p (.dK ws)) (.d kvs) (.ref p) :=
  .d (fre_new hr th hp) upd_same (q.mono (Same.gw (same_new hp)) (fun _ _ => rfl) (Nat.le_refl _))
end
section
variable {X : Cx} {W : WX} {E : Ent} {Γ : Sl} {e a b c : Expr} {es : List Expr} {pos p0 : Pos} {fa fb fc : M RV}
theorem Po.lift {α : Type} {B : Bs} {μ : Nat → Addr} {n : Nat} {H : Hp} {R : α → FH → (Nat → Addr) → Hp → Prop} {E : XK} {o : FH → Option α} {h : FH}
    (p : Po B μ n H R E (P.lift o h)) : ∃ x, o h = some x ∧ Po B μ n H R E (.ok x h) := by
  unfold P.lift at p
  cases q : o h with
  | none => rw [q] at p; exact p.elim
  | some x => rw [q] at p; exact ⟨x, rfl, p⟩
/-! ### names, constants -/
/-- the result in a slot -/
def sg : Sl → Nat → Option RV
  | [], _ => none
  | x :: _, 0 => x
  | _ :: r, i + 1 => sg r i
theorem sg_get : ∀ {Γ : Sl} {i : Nat} {v : RV}, sg Γ i = some v → Γ[i]? = some (some v)
  | [], _, _, h => by cases h
  | x :: _, 0, v, h => by
    have e : x = some v := h
    subst e; rfl
  | _ :: r, i + 1, v, h => by
    rw [List.getElem?_cons_succ]
    exact sg_get (Γ := r) h
theorem je_var (i : Nat) {r : RV} (q : sg Γ i = some r := by rfl) {x : Str} (hN : X.N[i]? = some x := by rfl) (hv : Vis X.env.scope x := by first | exact Or.inl rfl | exact Or.inr (Or.inl rfl) | exact Or.inr (Or.inr rfl)) (hd : (x == ("__debug__" : Str)) = false := by decide)
    (hcd : (x == ("__classdict__" : Str)) = false := by decide) : JE X W E Γ (.Name x pos) (pur r.lend) := fun μ h σ H Q s p => by
  obtain ⟨u, h1, h2⟩ := s.sl i r (sg_get q)
  exact wE.of (pe_var hN hv hd hcd) ⟨u, h1, p.last s.hr (Same.refl H) u h2.lend⟩
theorem je_int {i : Int} {j} : JE X W E Γ (.Constant (.int i) j pos) (pur (.v (.int i))) := fun μ h σ H Q r p => wE.of pe_int (Po.last p r.hr (Same.refl H) _ (.v (.int i)))
theorem je_str {i : Str} {j} : JE X W E Γ (.Constant (.str i) j pos) (pur (.v (.str i))) := fun μ h σ H Q r p => wE.of pe_str (Po.last p r.hr (Same.refl H) _ (.v (.str i)))
theorem je_bl {i : Bool} {j} : JE X W E Γ (.Constant (.bool i) j pos) (pur (.v (.bl i))) := fun μ h σ H Q r p => wE.of pe_bl (Po.last p r.hr (Same.refl H) _ (.v (.bl i)))
/-- a module's constant -/
structure GC (K : PySem.W.Frag) (mg : Str → Option Value) (x : Str) (v : FV) : Prop where
  ex : ∃ u w, mg x = some u ∧ RelV w u ∧ ∀ B H μ n, B.K = K → VR B H μ n v w
theorem je_glob {x : Str} {v : FV} (g : GC X.K X.mg x v) (hg : Gl X x := by rfl) (hd : (x == ("__debug__" : Str)) = false := by decide) : JE X W E Γ (.Name x pos) (pur (.v v)) := fun μ h σ H Q r p => by
  obtain ⟨u, w, h1, h2, h3⟩ := g.ex
  exact wE.of (pe_glob hg h1 h2 hd) (Po.last p r.hr (Same.refl H) _ (.v (h3 (bs X) H μ h.length rfl)))
/-! ### operators -/
/-- g says what the operator with the reading r gives -/
def OpOk (X : Cx) (r : R2) (g : RV → RV → FH → Option RV) : Prop :=
  ∀ μ h H0 H x y u v (Q : VK) z, HR (bs X) μ h H → (∀ a, H0 a ≠ none → H a ≠ none) → RR (bs X) H0 μ h.length H x u → RR (bs X) H0 μ h.length H y v → g x y h = some z →
    (∀ w H', Same H H' → RR (bs X) H0 μ h.length H' z w → Q w H') → r u v H Q
def oB (g : RV → RV → FH → Option RV) (x y : RV) : M RV := lift (g x y)
theorem je_bin {op : Operator} {r : R2} {g : RV → RV → FH → Option RV} (ho : OpR X (binaryOp op) r) (hg : OpOk X r g) (ha : JE X W E Γ a fa) (hb : JE X W E Γ b fb) : JE X W E Γ (.BinOp a op b pos) (bnd fa fun x => bnd fb fun y => oB g x y) := fun μ h σ H Q s p =>
  wE.of (pe_op ho pe_w pe_w) (ha μ h σ H _ s (Po.mono (Po.bind p) fun x h1 μ1 H1 _ s1 hr1 p1 u ru =>
    hb μ1 h1 σ H1 _ (s.step s1 hr1) (Po.mono (Po.bind p1) fun y h2 μ2 H2 _ s2 hr2 p2 v rv => by
      obtain ⟨z, hz, p3⟩ := p2.lift
      exact hg μ2 h2 H H2 x y u v Q z hr2 (fun a ha => s2.th a (s1.th a ha)) (ru.step s2) (rv.since s1.th) hz fun w H' e q => p3.last hr2 e w q)))
theorem OpR.or {f : Value → Value → Sem Value} {r1 r2 : R2} (h1 : OpR X f r1) (h2 : OpR X f r2) : OpR X f (fun x y H Q => r1 x y H Q ∨ r2 x y H Q) := by
  intro pins s σ H x y v u Q I rx ry h
  rcases h with h | h
  · exact h1 pins s σ H x y v u Q I rx ry h
  · exact h2 pins s σ H x y v u Q I rx ry h
section
variable {B : Bs} {H0 H : Hp} {μ : Nat → Addr} {n : Nat} {u : V}
theorem rr_int {i : Int} (r : RR B H0 μ n H (.v (.int i)) u) : u = .int i := by
  cases r with | v q => cases q; rfl
theorem rr_str {i : Str} (r : RR B H0 μ n H (.v (.str i)) u) : u = .str i := by
  cases r with | v q => cases q; rfl
theorem rr_bl {i : Bool} (r : RR B H0 μ n H (.v (.bl i)) u) : u = .bl i := by
  cases r with | v q => cases q; rfl
theorem ref_inv {m : Nat} (r : RR B H0 μ n H (.v (.ref m)) u) : u = .ref (μ m) ∧ m < n := by
  cases r with | v q => cases q with | ref l => exact ⟨rfl, l⟩
end
/-- ints -/
def gI (c : Int → Int → Option Int) : RV → RV → FH → Option RV
  | .v (.int i), .v (.int j), _ => (c i j).map fun k => .v (.int k)
  | _, _, _ => none
theorem gI_inv {c : Int → Int → Option Int} {x y : RV} {h : FH} {z : RV} (e : gI c x y h = some z) : ∃ i j k, x = .v (.int i) ∧ y = .v (.int j) ∧ c i j = some k ∧ z = .v (.int k) := by
  unfold gI at e
  split at e
  · rename_i i j
    cases q : c i j with
    | none => rw [q] at e; cases e
    | some k => rw [q] at e; cases e; exact ⟨i, j, k, rfl, rfl, q, rfl⟩
  · cases e
def gMns : RV → RV → FH → Option RV := gI fun i j => some (i - j)
theorem je_sub (ha : JE X W E Γ a fa) (hb : JE X W E Γ b fb) : JE X W E Γ (.BinOp a .Sub b pos) (bnd fa fun x => bnd fb fun y => oB gMns x y) :=
  je_bin op_sub (fun μ h H0 H x y u v Q z hr th rx ry e k => by
    obtain ⟨i, j, l, rfl, rfl, e1, rfl⟩ := gI_inv e
    cases e1
    exact ⟨i, j, rr_int rx, rr_int ry, k _ _ (Same.refl _) (.v (.int _))⟩) ha hb
instance {i j : Int} : Decidable (CMul i j) := by unfold CMul; infer_instance
instance {i j : Int} : Decidable (CDiv i j) := by unfold CDiv; infer_instance
instance {i j : Int} : Decidable (CPow i j) := by unfold CPow; infer_instance
def cMul (i j : Int) : Option Int := if CMul i j then some (i * j) else none
def cMod (i j : Int) : Option Int := if 0 < j then some (i % j) else none
def cDiv (i j : Int) : Option Int := if CDiv i j then some (i / j) else none
def cPow (i j : Int) : Option Int := if CPow i j then some (i ^ j.toNat) else none
def gMod : RV → RV → FH → Option RV := gI cMod
def gDiv : RV → RV → FH → Option RV := gI cDiv
def gPow : RV → RV → FH → Option RV := gI cPow
theorem je_mod (ha : JE X W E Γ a fa) (hb : JE X W E Γ b fb) : JE X W E Γ (.BinOp a .Mod b pos) (bnd fa fun x => bnd fb fun y => oB gMod x y) :=
  je_bin op_mod (fun μ h H0 H x y u v Q z hr th rx ry e k => by
    obtain ⟨i, j, l, rfl, rfl, e1, rfl⟩ := gI_inv e
    unfold cMod at e1
    split at e1
    · cases e1
      exact ⟨i, j, rr_int rx, rr_int ry, by assumption, k _ _ (Same.refl _) (.v (.int _))⟩
    · cases e1) ha hb
theorem je_div (ha : JE X W E Γ a fa) (hb : JE X W E Γ b fb) : JE X W E Γ (.BinOp a .FloorDiv b pos) (bnd fa fun x => bnd fb fun y => oB gDiv x y) :=
  je_bin op_fdiv (fun μ h H0 H x y u v Q z hr th rx ry e k => by
    obtain ⟨i, j, l, rfl, rfl, e1, rfl⟩ := gI_inv e
    unfold cDiv at e1
    split at e1
    · cases e1
      exact ⟨i, j, rr_int rx, rr_int ry, by assumption, k _ _ (Same.refl _) (.v (.int _))⟩
    · cases e1) ha hb
theorem je_pow (ha : JE X W E Γ a fa) (hb : JE X W E Γ b fb) : JE X W E Γ (.BinOp a .Pow b pos) (bnd fa fun x => bnd fb fun y => oB gPow x y) :=
  je_bin op_pow (fun μ h H0 H x y u v Q z hr th rx ry e k => by
    obtain ⟨i, j, l, rfl, rfl, e1, rfl⟩ := gI_inv e
    unfold cPow at e1
    split at e1
    · cases e1
      exact ⟨i, j, rr_int rx, rr_int ry, by assumption, k _ _ (Same.refl _) (.v (.int _))⟩
    · cases e1) ha hb
/-- + of lists -/
def rCatR : R2 := fun x y H Q => ∃ l b xs zs, x = .ref l ∧ y = .ref b ∧ Rd H l (.lst xs) ∧ Rd H b (.lst zs) ∧ xs.length + zs.length ≤ sizeLine ∧ ∀ p, H p = none → Q (.ref p) (upd H p (.lst (xs ++ zs)))
theorem op_catR : OpR X (binaryOp .Add) rCatR := by
  rintro pins s σ H _ _ v u Q I rx ry ⟨l, b, xs, zs, rfl, rfl, r1, r2, hz, q⟩
  obtain rfl : v = .ref l := rx
  obtain rfl : u = .ref b := ry
  obtain ⟨_, its, n, w1, e1⟩ := r1.ok I.hok
  obtain ⟨_, its2, n2, w2, e2⟩ := r2.ok I.hok
  have l1 := w1.length
  have l2 := w2.length
  have hs : its.toArray.size + its2.toArray.size ≤ sizeLine := by simp only [List.size_toArray]; omega
  refine PySem.P.add_list e1 e2 ?_ hs
  rw [show its.toArray ++ its2.toArray = (its ++ its2).toArray by simp]
  have I2 := I.lnew (t' := s.toks) (w1.append w2) (by rw [List.length_append]; exact hz)
  exact ⟨.ref _, _, I2, rfl, q _ I.fresh⟩
def gAdd : RV → RV → FH → Option RV
  | .v (.int i), .v (.int j), _ => some (.v (.int (i + j)))
  | .v (.int i), .v (.bl b), _ => some (.v (.int (i + b2i b)))
  | .v (.str i), .v (.str j), _ => if i.length + j.length ≤ LIM then some (.v (.str (i ++ j))) else none
  | .v (.tup i), .v (.tup j), _ => if i.length + j.length ≤ LIM then some (.v (.tup (i ++ j))) else none
  | x, y, h => match x.lst h, y.lst h with
    | some i, some j => if i.length + j.length ≤ LIM then some (.l (i ++ j)) else none
    | _, _ => none
theorem je_add (ha : JE X W E Γ a fa) (hb : JE X W E Γ b fb) : JE X W E Γ (.BinOp a .Add b pos) (bnd fa fun x => bnd fb fun y => oB gAdd x y) :=
  je_bin (OpR.or op_add (OpR.or op_add_ib (OpR.or op_add_str (OpR.or op_catA op_catR)))) (fun μ h H0 H x y u v Q z hr th rx ry e k => by
    unfold gAdd at e
    split at e
    · cases e
      exact .inl ⟨_, _, rr_int rx, rr_int ry, k _ _ (Same.refl _) (.v (.int _))⟩
    · cases e
      exact .inr (.inl ⟨_, _, rr_int rx, rr_bl ry, k _ _ (Same.refl _) (.v (.int _))⟩)
    · split at e
      · cases e
        exact .inr (.inr (.inl ⟨_, _, rr_str rx, rr_str ry, lim_le (by assumption), k _ _ (Same.refl _) (.v (.str _))⟩))
      · cases e
    · rename_i ds1 ds2
      split at e
      · rename_i hl
        cases e
        obtain ⟨p, xs, rfl, hx, hp⟩ := seqT_ok hr rx rfl
        obtain ⟨q, ys, rfl, hy, hq⟩ := seqT_ok hr ry rfl
        refine .inr (.inr (.inr (.inl ⟨p, q, xs, ys, rfl, rfl, hp, hq, by rw [hx.len, hy.len]; exact lim_le hl, fun e => ?_, fun _ e => ?_, fun _ _ p' hp' => ?_⟩)))
        · subst e
          have e0 : ds1 = [] := by cases hx; rfl
          subst e0
          exact k _ _ (Same.refl _) (.v (.tup hq hy))
        · subst e
          have e0 : ds2 = [] := by cases hy; rfl
          subst e0
          rw [List.append_nil] at k
          exact k _ _ (Same.refl _) (.v (.tup hp hx))
        · exact k _ _ (same_new hp') (rr_tup hp' (hx.append hy))
      · cases e
    · split at e
      · rename_i i j e1 e2
        split at e
        · rename_i hl
          cases e
          obtain ⟨p, xs, rfl, hp, hx⟩ := lst_ok hr rx e1
          obtain ⟨q, ys, rfl, hq, hy⟩ := lst_ok hr ry e2
          exact .inr (.inr (.inr (.inr ⟨p, q, xs, ys, rfl, rfl, hp, hq, by rw [hx.len, hy.len]; exact lim_le hl, fun r hrf => k _ _ (same_new hrf) (rr_lst hr th hrf (hx.append hy))⟩)))
        · cases e
      · cases e) ha hb
theorem VRs.rep {B : Bs} {H : Hp} {μ : Nat → Addr} {n : Nat} {ds : List FV} {xs : List V} (q : VRs B H μ n ds xs) : ∀ k : Nat, VRs B H μ n (List.replicate k ds).flatten (List.replicate k xs).flatten
  | 0 => .nil
  | k + 1 => by
    rw [List.replicate_succ, List.replicate_succ, List.flatten_cons, List.flatten_cons]
    exact q.append (VRs.rep q k)
/-- a text and an int -/
def CMulS (a : Str) (k : Int) : Prop := -(2 ^ 62) ≤ k ∧ k < 2 ^ 30 ∧ a.length * k.toNat ≤ LIM
instance (a : Str) (k : Int) : Decidable (CMulS a k) := by unfold CMulS; infer_instance
theorem CMulS.ok {a : Str} {k : Int} (h : CMulS a k) : MulOk a k := by
  obtain ⟨h1, h2, h3⟩ := h
  refine ⟨?_, fun hk _ => ?_, fun hk _ => ?_⟩
  · rw [decide_eq_false (by omega), decide_eq_false (by omega)]; rfl
  · have kp : 0 < k := by omega
    have e : ((k.toNat : Nat) : Int) = k := Int.toNat_of_nonneg (by omega)
    have h3' : a.length * k.toNat ≤ 16000000 := h3
    have l : (a.length : Int) * k ≤ 16000000 := by
      rw [← e, ← Int.natCast_mul]
      exact Int.ofNat_le.mpr h3'
    intro z
    have := (Int.ediv_lt_iff_lt_mul kp).mp z
    omega
  · show decide _ = false
    exact decide_eq_false (Nat.not_lt.mpr (lim_le h3))
theorem op_mulS {X : Cx} : OpR X (binaryOp .Mult) (fun x y H Q => ∃ a k, x = .str a ∧ y = .int k ∧ CMulS a k ∧ Q (.str (Txt.mul a k)) H) := by
  intro pins s σ H x y v u Q I rx ry h
  obtain ⟨a, k, rfl, rfl, hc, q⟩ := h
  obtain ⟨t, rfl⟩ := rx
  obtain ⟨t', rfl⟩ := ry
  exact PySem.SB.mul hc.ok fun t'' k' => ⟨.str (Txt.mul a k), H, I.tok k', ⟨_, rfl⟩, q⟩
/-- * of ints; of a new list and an int; of a text and an int -/
def gMul : RV → RV → FH → Option RV
  | .v (.int i), .v (.int j), _ => (cMul i j).map fun k => .v (.int k)
  | .l ds, .v (.int k), _ => if -(2 ^ 63) ≤ k ∧ k < 2 ^ 63 ∧ ds.length * k.toNat ≤ LIM then some (.l (List.replicate k.toNat ds).flatten) else none
  | .v (.str a), .v (.int k), _ => if CMulS a k then some (.v (.str (Txt.mul a k))) else none
  | _, _, _ => none
theorem je_mul (ha : JE X W E Γ a fa) (hb : JE X W E Γ b fb) : JE X W E Γ (.BinOp a .Mult b pos) (bnd fa fun x => bnd fb fun y => oB gMul x y) :=
  je_bin (OpR.or op_mul (OpR.or op_rep op_mulS)) (fun μ h H0 H x y u v Q z hr th rx ry e k => by
    unfold gMul at e
    split at e
    · rename_i i j
      unfold cMul at e
      by_cases hc : CMul i j
      · rw [if_pos hc] at e
        cases e
        exact .inl ⟨_, _, rr_int rx, rr_int ry, hc, k _ _ (Same.refl _) (.v (.int _))⟩
      · rw [if_neg hc] at e; cases e
    · split at e
      · rename_i hc
        cases e
        cases rx with
        | l f hp hx =>
          exact .inr (.inl ⟨_, _, _, rfl, rr_int ry, hp, hc.1, hc.2.1, by rw [hx.len]; exact lim_le hc.2.2, fun r hrf => k _ _ (same_new hrf) (rr_lst hr th hrf (hx.rep _))⟩)
      · cases e
    · split at e
      · rename_i hc
        cases e
        exact .inr (.inr ⟨_, _, rr_str rx, rr_int ry, hc, k _ _ (Same.refl _) (.v (.str _))⟩)
      · cases e
    · cases e) ha hb
def oU (g : RV → FH → Option RV) (x : RV) : M RV := lift (g x)
def gNeg : RV → FH → Option RV
  | .v (.int i), _ => some (.v (.int (-i)))
  | _, _ => none
/-! ### comparisons -/
def CmpOk (X : Cx) (r : R2) (g : RV → RV → FH → Option Bool) : Prop :=
  ∀ μ h H0 H x y u v (Q : VK) z, HR (bs X) μ h H → RR (bs X) H0 μ h.length H x u → RR (bs X) H0 μ h.length H y v → g x y h = some z → (∀ H', Same H H' → Q (.bl z) H') → r u v H Q
def oC (g : RV → RV → FH → Option Bool) (x y : RV) : M Bool := lift (g x y)
/-- a test as a value -/
def mB (t : M Bool) : M RV := bnd t fun b => pur (.v (.bl b))
theorem Po.bl {B : Bs} {μ : Nat → Addr} {n : Nat} {H : Hp} {R : RV → FH → (Nat → Addr) → Hp → Prop} {E : XK} {t : M Bool} {h : FH} (p : Po B μ n H R E (mB t h)) :
    Po B μ n H (fun b h' μ' H' => R (.v (.bl b)) h' μ' H') E (t h) := by
  unfold mB bnd at p
  cases q : t h with
  | no => rw [q] at p; exact p
  | ex x h' => rw [q] at p; exact p
  | ok b h' => rw [q] at p; exact p
theorem jt_cmp {op : CmpOp} {r : R2} {g : RV → RV → FH → Option Bool} (ho : OpR X (compareOp op) r) (hg : CmpOk X r g) (ha : JE X W E Γ a fa) (hb : JE X W E Γ b fb) (hm : behindInMarks op b = false) : JT X W E Γ (.Compare a [op] [b] pos) (bnd fa fun x => bnd fb fun y => oC g x y) := fun μ h σ H Q s p =>
  wT.of (pt_cmpR ho pe_w pe_w hm) (ha μ h σ H _ s (Po.mono (Po.bind p) fun x h1 μ1 H1 _ s1 hr1 p1 u ru =>
    hb μ1 h1 σ H1 _ (s.step s1 hr1) (Po.mono (Po.bind p1) fun y h2 μ2 H2 _ s2 hr2 p2 v rv => by
      obtain ⟨z, hz, p3⟩ := p2.lift
      exact hg μ2 h2 H H2 x y u v _ z hr2 (ru.step s2) (rv.since s1.th) hz fun H' e => ⟨z, rfl, p3.last hr2 e⟩)))
theorem je_cmp {op : CmpOp} {r : R2} {g : RV → RV → FH → Option Bool} (ho : OpR X (compareOp op) r) (hg : CmpOk X r g) (ha : JE X W E Γ a fa) (hb : JE X W E Γ b fb) (hm : behindInMarks op b = false) : JE X W E Γ (.Compare a [op] [b] pos) (mB (bnd fa fun x => bnd fb fun y => oC g x y)) := fun μ h σ H Q s p =>
  wE.of (pe_cmpR ho pe_w pe_w hm) (ha μ h σ H _ s (Po.mono (Po.bind p.bl) fun x h1 μ1 H1 _ s1 hr1 p1 u ru =>
    hb μ1 h1 σ H1 _ (s.step s1 hr1) (Po.mono (Po.bind p1) fun y h2 μ2 H2 _ s2 hr2 p2 v rv => by
      obtain ⟨z, hz, p3⟩ := p2.lift
      exact hg μ2 h2 H H2 x y u v _ z hr2 (ru.step s2) (rv.since s1.th) hz fun H' e => p3.last hr2 e _ (.v (.bl z)))))
/-! order: ints; texts (below only) -/
def gOrd (f : Int → Int → Bool) : RV → RV → FH → Option Bool
  | .v (.int i), .v (.int j), _ => some (f i j)
  | _, _, _ => none
theorem ord_ok {f : Int → Int → Bool} : CmpOk X (rI0 fun i j => .bl (f i j)) (gOrd f) := fun μ h H0 H x y u v Q z hr rx ry e k => by
  unfold gOrd at e
  split at e
  · cases e
    exact ⟨_, _, rr_int rx, rr_int ry, k _ (Same.refl _)⟩
  · cases e
def gLt : RV → RV → FH → Option Bool
  | .v (.int i), .v (.int j), _ => some (decide (i < j))
  | .v (.str i), .v (.str j), _ => some (decide (i.cps.toList < j.cps.toList))
  | _, _, _ => none
theorem lt_ok : CmpOk X (fun x y H Q => rI0 (fun i j => .bl (decide (i < j))) x y H Q ∨ ∃ i j, x = .str i ∧ y = .str j ∧ Q (.bl (decide (i.cps.toList < j.cps.toList))) H) gLt := fun μ h H0 H x y u v Q z hr rx ry e k => by
  unfold gLt at e
  split at e
  · cases e
    exact .inl ⟨_, _, rr_int rx, rr_int ry, k _ (Same.refl _)⟩
  · cases e
    exact .inr ⟨_, _, rr_str rx, rr_str ry, k _ (Same.refl _)⟩
  · cases e
def gLe : RV → RV → FH → Option Bool
  | .v (.int i), .v (.int j), _ => some (decide (i ≤ j))
  | .v (.str i), .v (.str j), _ => some (!decide (j.cps.toList < i.cps.toList))
  | _, _, _ => none
def gGt : RV → RV → FH → Option Bool := gOrd fun i j => decide (j < i)
def gGe : RV → RV → FH → Option Bool := gOrd fun i j => decide (j ≤ i)
section
variable (ha : JE X W E Γ a fa) (hb : JE X W E Γ b fb)
theorem jt_lt (ha : JE X W E Γ a fa) (hb : JE X W E Γ b fb) : JT X W E Γ (.Compare a [.Lt] [b] pos) (bnd fa fun x => bnd fb fun y => oC gLt x y) := jt_cmp (OpR.or op_lt op_lt_str) lt_ok ha hb (nomark _)
theorem jt_gt (ha : JE X W E Γ a fa) (hb : JE X W E Γ b fb) : JT X W E Γ (.Compare a [.Gt] [b] pos) (bnd fa fun x => bnd fb fun y => oC gGt x y) := jt_cmp op_gt ord_ok ha hb (nomark _)
theorem jt_ge (ha : JE X W E Γ a fa) (hb : JE X W E Γ b fb) : JT X W E Γ (.Compare a [.GtE] [b] pos) (bnd fa fun x => bnd fb fun y => oC gGe x y) := jt_cmp op_ge ord_ok ha hb (nomark _)
end
/-! is None -/
def gIsN (neg : Bool) : RV → RV → FH → Option Bool
  | .v .non, .v .non, _ => some (!neg)
  | _, .v .non, _ => some neg
  | _, _, _ => none
theorem nn {B : Bs} {H0 H : Hp} {μ : Nat → Addr} {n : Nat} {x : RV} {u : V} (r : RR B H0 μ n H x u) (k : x = .v .non → False) : u ≠ .non := fun z => by
  subst z
  cases r with
  | v q => cases q; exact k rfl
end
end P
/-! P: data, ==, in, tests, arguments, displays, subscripts, slices, built-ins of one argument. -/
namespace P
open PySem PySem.Spec PyProof.Rows L2 G
/-! ### data -/
mutual
def FV.py : FV → PyData
  | .non => .none
  | .bl b => .bool b
  | .int i => .int i
  | .str x => .str x
  | .tup xs => .tuple (FV.pys xs)
  | .fl xs => .list (FV.pys xs)
  | .sl xs => .list (FV.pys xs)
  | _ => .none
def FV.pys : List FV → List PyData
  | [] => []
  | x :: xs => x.py :: FV.pys xs
end
mutual
def FV.pure : FV → Bool
  | .non => true
  | .bl _ => true
  | .int _ => true
  | .str _ => true
  | .tup xs => FV.pures xs
  | .fl xs => FV.pures xs
  | .sl xs => FV.pures xs
  | _ => false
def FV.pures : List FV → Bool
  | [] => true
  | x :: xs => x.pure && FV.pures xs
end
section
variable {B : Bs} {H H0 : Hp} {μ : Nat → Addr} {n : Nat} {h : FH}
mutual
theorem VR.dp : ∀ {d : FV} {v : V}, d.pure = true → VR B H μ n d v → Dp B.K H v d.py
  | .non, _, _, r => by cases r; simp only [FV.py]; exact .non
  | .bl b, _, _, r => by cases r; simp only [FV.py]; exact .bl b
  | .int i, _, _, r => by cases r; simp only [FV.py]; exact .int i
  | .str x, _, _, r => by cases r; simp only [FV.py]; exact .str x
  | .tup ds, _, p, r => by
    cases r with
    | tup a b =>
      simp only [FV.py]
      exact .tup a (VRs.dp (by simpa [FV.pure] using p) b)
  | .fl ds, _, p, r => by
    cases r with
    | fl a b =>
      simp only [FV.py]
      exact .lst (.inl a.rd) (VRs.dp (by simpa [FV.pure] using p) b)
  | .sl ds, _, p, r => by
    cases r with
    | sl a b =>
      simp only [FV.py]
      exact .lst a.sqL (VRs.dp (by simpa [FV.pure] using p) b)
  | .fd _ _, _, p, r => by simp [FV.pure] at p
  | .ft _ _, _, p, r => by simp [FV.pure] at p
  | .fo _ _ _, _, p, r => by simp [FV.pure] at p
  | .ref i, _, p, r => by simp [FV.pure] at p
theorem VRs.dp : ∀ {ds : List FV} {vs : List V}, FV.pures ds = true → VRs B H μ n ds vs → DpAll B.K H vs (FV.pys ds)
  | [], _, _, r => by cases r; simp only [FV.pys]; exact .nil
  | d :: ds, _, p, r => by
    cases r with
    | cons a b =>
      have p' : d.pure = true ∧ FV.pures ds = true := by simpa [FV.pures] using p
      simp only [FV.pys]
      exact .cons (VR.dp p'.1 a) (VRs.dp p'.2 b)
end
mutual
theorem FV.py_plain : ∀ {d : FV}, d.py.plain = true
  | .non => by simp [FV.py, PyData.plain]
  | .bl b => by simp [FV.py, PyData.plain]
  | .int i => by simp [FV.py, PyData.plain]
  | .str x => by simp [FV.py, PyData.plain]
  | .tup ds => by simpa [FV.py, PyData.plain] using FV.pys_plain (ds := ds)
  | .fl ds => by simpa [FV.py, PyData.plain] using FV.pys_plain (ds := ds)
  | .sl ds => by simpa [FV.py, PyData.plain] using FV.pys_plain (ds := ds)
  | .fd _ _ => by simp [FV.py, PyData.plain]
  | .ft _ _ => by simp [FV.py, PyData.plain]
  | .fo _ _ _ => by simp [FV.py, PyData.plain]
  | .ref i => by simp [FV.py, PyData.plain]
theorem FV.pys_plain : ∀ {ds : List FV}, PyData.plainAll (FV.pys ds) = true
  | [] => by simp [FV.pys, PyData.plainAll]
  | d :: ds => by simp [FV.pys, PyData.plainAll, FV.py_plain (d := d), FV.pys_plain (ds := ds)]
end
/-- the data of a list -/
def lsD (ds : List FV) : Option PyData := if FV.pures ds = true then some (.list (FV.pys ds)) else none
/-- data that a result is -/
def RV.dat : RV → FH → Option PyData
  | .v (.ref m), h => match h[m]? with | some (.lst ds) => lsD ds | _ => none
  | .v x, _ => if x.pure = true then some x.py else none
  | .l ds, _ => lsD ds
  | .bl ds, _ => lsD ds
  | _, _ => none
theorem lsD_ok {ds : List FV} {a : Addr} {xs : List V} {d : PyData} (e : lsD ds = some d) (h1 : SqL B.K H a xs) (h2 : VRs B H μ n ds xs) : Dp B.K H (.ref a) d ∧ d.plain = true := by
  unfold lsD at e
  split at e
  · rename_i hp
    cases e
    exact ⟨.lst h1 (h2.dp hp), by simpa [PyData.plain] using FV.pys_plain⟩
  · cases e
theorem dat_ok {x : RV} {u : V} {d : PyData} (hr : HR B μ h H) (r : RR B H0 μ h.length H x u) (e : x.dat h = some d) : Dp B.K H u d ∧ d.plain = true := by
  unfold RV.dat at e
  split at e
  · rename_i m h'
    split at e
    · rename_i ds q
      obtain ⟨xs, h1, h2⟩ := hr.lst q
      obtain ⟨rfl, lm⟩ := ref_inv r
      exact lsD_ok e (SqL.of h1) h2
    · cases e
  · split at e
    · rename_i hp
      cases e
      cases r with
      | v r' => exact ⟨r'.dp hp, FV.py_plain⟩
    · cases e
  · cases r with
    | l f a b => exact lsD_ok e (SqL.of a) b
  · cases r with
    | bl f a b => exact lsD_ok e (SqL.of a) b
  · cases e
end
section
variable {X : Cx} {W : WX} {E : Ent} {Γ : Sl} {e a b c : Expr} {es : List Expr} {pos p0 p1 p2 : Pos} {fa fb fc : M RV} {k : Nat}
/-! ### ==, != -/
/-! ### in -/
def rInG (K : PySem.W.Frag) (neg : Bool) : R2 := fun x y H Q => (∃ d ds b, Dp K H x d ∧ Dp K H y (if b = true then .tuple ds else .list ds) ∧ d.plain = true ∧ PyData.plainAll ds = true ∧ min (PyData.depthAll ds) d.depth ≤ 64 ∧ Q (.bl (if neg then !(ds.any fun z => PyData.eqv z d) else ds.any fun z => PyData.eqv z d)) H) ∨
  ∃ a o, y = .ref a ∧ DGet H a x o ∧ Q (.bl (if neg then !o.isSome else o.isSome)) H
theorem op_inG (hu : X.A.units + 66 < cLine) : OpR X (compareOp .In) (rInG X.K false) := by
  intro pins s σ H x y v u Q I rx ry h
  rcases h with ⟨d, ds, b, hd, he, pd, pe, sd, q⟩ | ⟨a, o, rfl, g, q⟩
  · obtain ⟨as, r1⟩ := Dp.reads I d x v hd rx
    cases b with
    | true =>
      obtain ⟨bs, r2⟩ := Dp.reads I (.tuple ds) y u he ry
      exact SeqAt.in_tuple_data r2 r1 pe pd (by omega) ⟨.bl _, H, I, rfl, q⟩
    | false =>
      obtain ⟨bs, r2⟩ := Dp.reads I (.list ds) y u he ry
      exact SeqAt.in_list_data r2 r1 pe pd (by omega) ⟨.bl _, H, I, rfl, q⟩
  · obtain rfl : u = Value.ref a := ry
    exact d_in (by omega) I g rx fun s3 I3 => ⟨.bl o.isSome, H, I3, rfl, q⟩
theorem op_notInG (hu : X.A.units + 66 < cLine) : OpR X (compareOp .NotIn) (rInG X.K true) := by
  intro pins s σ H x y v u Q I rx ry h
  rcases h with ⟨d, ds, b, hd, he, pd, pe, sd, q⟩ | ⟨a, o, rfl, g, q⟩
  · obtain ⟨as, r1⟩ := Dp.reads I d x v hd rx
    cases b with
    | true =>
      obtain ⟨bs, r2⟩ := Dp.reads I (.tuple ds) y u he ry
      exact SeqAt.notIn_tuple_data r2 r1 pe pd (by omega) ⟨.bl _, H, I, rfl, q⟩
    | false =>
      obtain ⟨bs, r2⟩ := Dp.reads I (.list ds) y u he ry
      exact SeqAt.notIn_list_data r2 r1 pe pd (by omega) ⟨.bl _, H, I, rfl, q⟩
  · obtain rfl : u = Value.ref a := ry
    exact d_notIn (by omega) I g rx fun s3 I3 => ⟨.bl (!o.isSome), H, I3, rfl, q⟩
def FV.key : FV → Option Key
  | .int i => some (.inl i)
  | .str x => some (.inr x)
  | _ => none
def lookK {κ : Type} [DecidableEq κ] (kvs : List (κ × FV)) (k : κ) : Option FV := (kvs.find? fun kv => decide (kv.1 = k)).map (·.2)
theorem KvR.look {κ : Type} [DecidableEq κ] {B : Bs} {H : Hp} {μ : Nat → Addr} {n : Nat} (k : κ) : ∀ {ds : List (κ × FV)} {ws : List (κ × V)}, KvR B H μ n ds ws →
    (match lookK ds k with | some d => ∃ v, valV ws k = some v ∧ VR B H μ n d v | none => valV ws k = none)
  | _, _, .nil => rfl
  | d :: ds, w :: ws, .cons a b => by
    unfold lookK valV
    rw [List.find?_cons, List.find?_cons]
    by_cases e : d.1 = k
    · rw [show decide (d.1 = k) = true from decide_eq_true e, show decide (w.1 = k) = true from decide_eq_true (a.1 ▸ e)]
      exact ⟨w.2, rfl, a.2⟩
    · rw [show decide (d.1 = k) = false from decide_eq_false e, show decide (w.1 = k) = false from decide_eq_false (a.1 ▸ e)]
      exact KvR.look k b
theorem look_some {κ : Type} [DecidableEq κ] {B : Bs} {H : Hp} {μ : Nat → Addr} {n : Nat} {k : κ} {ds : List (κ × FV)} {ws : List (κ × V)} {d : FV} (r : KvR B H μ n ds ws) (e : lookK ds k = some d) : ∃ v, valV ws k = some v ∧ VR B H μ n d v := by
  have := r.look k
  rw [e] at this; exact this
theorem look_none {κ : Type} [DecidableEq κ] {B : Bs} {H : Hp} {μ : Nat → Addr} {n : Nat} {k : κ} {ds : List (κ × FV)} {ws : List (κ × V)} (r : KvR B H μ n ds ws) (e : lookK ds k = none) : valV ws k = none := by
  have := r.look k
  rw [e] at this; exact this
theorem look_is {κ : Type} [DecidableEq κ] {B : Bs} {H : Hp} {μ : Nat → Addr} {n : Nat} {k : κ} {ds : List (κ × FV)} {ws : List (κ × V)} (r : KvR B H μ n ds ws) : (valV ws k).isSome = (lookK ds k).isSome := by
  cases q : lookK ds k with
  | none => rw [look_none r q]; rfl
  | some d => obtain ⟨v, e, _⟩ := look_some r q; rw [e]; rfl
theorem key_ok {B : Bs} {H H0 : Hp} {μ : Nat → Addr} {n : Nat} {d : FV} {u : V} {k : Key} (r : RR B H0 μ n H (.v d) u) (e : d.key = some k) : u = kV k := by
  cases r with
  | v q =>
    cases q with
    | int i => cases e; rfl
    | str x => cases e; rfl
    | _ => cases e
/-- the items of a tuple or a list, or a dict's keys -/
def gIn (neg : Bool) (x y : RV) (h : FH) : Option Bool := match y.seq h, y.dict h with
  | some (_, ds), _ => match x.dat h with
    | some d => if FV.pures ds = true ∧ min (PyData.depthAll (FV.pys ds)) d.depth ≤ 64 then some (if neg then !((FV.pys ds).any fun z => PyData.eqv z d) else (FV.pys ds).any fun z => PyData.eqv z d) else none
    | none => none
  | none, some kvs => match x with
    | .v d => match d.key with
      | some k => some (if neg then !(lookK kvs k).isSome else (lookK kvs k).isSome)
      | none => none
    | _ => none
  | none, none => match x, y with
    | .v (.str w), .v (.str z) => match w.cps.toList with
      | [c] => some (if neg then !decide (c ∈ z.cps.toList) else decide (c ∈ z.cps.toList))
      | _ => none
    | _, _ => none
def rInH (K : PySem.W.Frag) (neg : Bool) : R2 := fun x y H Q => rInG K neg x y H Q ∨ ∃ (c : Nat) (z : Str), x = .str ⟨#[c]⟩ ∧ y = .str z ∧ Q (.bl (if neg then !decide (c ∈ z.cps.toList) else decide (c ∈ z.cps.toList))) H
theorem op_inH (hu : X.A.units + 66 < cLine) : OpR X (compareOp .In) (rInH X.K false) := OpR.or (op_inG hu) op_in_sign
theorem op_notInH (hu : X.A.units + 66 < cLine) : OpR X (compareOp .NotIn) (rInH X.K true) := OpR.or (op_notInG hu) op_notIn_sign
theorem in_ok {neg : Bool} : CmpOk X (rInH X.K neg) (gIn neg) := fun μ h H0 H x y u v Q z hr rx ry e k => by
  unfold gIn at e
  split at e
  · rename_i b ds e1
    split at e
    · rename_i d e2
      split at e
      · rename_i hc
        cases e
        obtain ⟨a, xs, rfl, h2, h3⟩ := seq_ok hr ry e1
        obtain ⟨d1, d2⟩ := dat_ok hr rx e2
        refine .inl (.inl ⟨d, FV.pys ds, b, d1, ?_, d2, FV.pys_plain, hc.2, k H (Same.refl H)⟩)
        cases b with
        | true => exact .tup (by rw [if_pos rfl] at h3; exact h3) (h2.dp hc.1)
        | false => exact .lst (by rw [if_neg (by decide)] at h3; exact h3) (h2.dp hc.1)
      · cases e
    · cases e
  · rename_i kvs _ e1
    split at e
    · rename_i d
      split at e
      · rename_i kk e2
        cases e
        obtain ⟨a, ws, rfl, h2, h3⟩ := dict_ok hr ry e1
        have eu := key_ok rx e2
        subst eu
        refine .inl (.inr ⟨a, valV ws kk, rfl, .inl ⟨ws, kk, h2, rfl, rfl⟩, ?_⟩)
        rw [look_is h3]
        exact k H (Same.refl H)
      · cases e
    · cases e
  · split at e
    · rename_i w zz _ _
      split at e
      · rename_i c hc
        cases e
        have ew : w = ⟨#[c]⟩ := by
          obtain ⟨cs⟩ := w
          congr 1
          exact Array.toList_inj.mp hc
        rw [rr_str rx, rr_str ry]
        exact .inr ⟨c, zz, by rw [ew], rfl, k H (Same.refl H)⟩
      · cases e
    · cases e
theorem units66' {k : Nat} {A : Around} (r : Room k A) : A.units + 66 < cLine := by have := r.un; omega
/-! ### a < b < c -/
/-! ### tests -/
/-- a truth value -/
def oT (x : RV) : M Bool := match x with | .v (.bl b) => pur b | _ => fail
theorem jt_val (ha : JE X W E Γ a fa) (he : ∀ whole, isTrue a X.env whole = (do let v ← whole; standAt a.pos; holding [v] (truthy v)) := by intro _; rfl) : JT X W E Γ a (bnd fa oT) := fun μ h σ H Q s p =>
  wT.of (pt_val pe_w he) (ha μ h σ H _ s (Po.mono (Po.bind p) fun x h1 μ1 H1 _ s1 hr1 p1 u ru => by
    unfold oT at p1
    split at p1
    · exact ⟨_, rr_bl ru, Po.last p1 hr1 (Same.refl _)⟩
    · exact p1.elim))
def mNot (t : M Bool) : M Bool := bnd t fun b => pur (!b)
theorem Po.notb {B : Bs} {μ : Nat → Addr} {n : Nat} {H : Hp} {R : Bool → FH → (Nat → Addr) → Hp → Prop} {E : XK} {t : M Bool} {h : FH} (p : Po B μ n H R E (mNot t h)) :
    Po B μ n H (fun b h' μ' H' => R (!b) h' μ' H') E (t h) := by
  unfold mNot bnd at p
  cases q : t h with
  | no => rw [q] at p; exact p
  | ex x h' => rw [q] at p; exact p
  | ok b h' => rw [q] at p; exact p
theorem jt_not {t : M Bool} (ha : JT X W E Γ a t) : JT X W E Γ (.UnaryOp .Not a pos) (mNot t) := fun μ h σ H Q s p => wT.of (pt_not pt_w) (ha μ h σ H _ s p.notb)
def mAnd (t u : M Bool) : M Bool := bnd t fun b => if b = true then u else pur false
def mOr (t u : M Bool) : M Bool := bnd t fun b => if b = true then pur true else u
/-- and, or as tests: whatever the whole is -/
def JW (X : Cx) (W : WX) (E : Ent) (Γ : Sl) (e : Expr) (f : M Bool) : Prop := ∃ t, PW X e t ∧ ∀ μ h σ H Q, SR (bs X) E μ Γ h σ H → Po (bs X) μ h.length H (fun b h' μ' H' => Q b H') (fun c d H' => W c d σ H') (f h) → t σ H Q
theorem jt_bool {t : M Bool} (h : JW X W E Γ e t) : JT X W E Γ e t := by
  obtain ⟨t, p, q⟩ := h
  exact fun μ h σ H Q s p' => wT.of p.pt (q μ h σ H Q s p')
variable {rest : List Expr} {t u : M Bool}
theorem jw_and1 (h : JT X W E Γ a t) : JW X W E Γ (.BoolOp .And [a] pos) t := ⟨_, pw_and1 pt_w, h⟩
theorem jw_or1 (h : JT X W E Γ a t) : JW X W E Γ (.BoolOp .Or [a] pos) t := ⟨_, pw_or1 pt_w, h⟩
theorem jw_and (h : JT X W E Γ a t) (g : JW X W E Γ (.BoolOp .And (b :: rest) pos) u) : JW X W E Γ (.BoolOp .And (a :: b :: rest) pos) (mAnd t u) := by
  obtain ⟨tt, p, q⟩ := g
  refine ⟨_, pw_and pt_w p, fun μ h0 σ H Q s p' => h μ h0 σ H _ s (Po.mono (Po.bind p') fun b h1 μ1 H1 _ s1 hr1 p1 => ?_)⟩
  cases b with
  | true =>
    rw [if_pos rfl] at p1 ⊢
    exact q μ1 h1 σ H1 Q (s.step s1 hr1) p1
  | false =>
    rw [if_neg (by decide)] at p1 ⊢
    exact Po.last p1 hr1 (Same.refl _)
theorem jw_or (h : JT X W E Γ a t) (g : JW X W E Γ (.BoolOp .Or (b :: rest) pos) u) : JW X W E Γ (.BoolOp .Or (a :: b :: rest) pos) (mOr t u) := by
  obtain ⟨tt, p, q⟩ := g
  refine ⟨_, pw_or pt_w p, fun μ h0 σ H Q s p' => h μ h0 σ H _ s (Po.mono (Po.bind p') fun b h1 μ1 H1 _ s1 hr1 p1 => ?_)⟩
  cases b with
  | true =>
    rw [if_pos rfl] at p1 ⊢
    exact Po.last p1 hr1 (Same.refl _)
  | false =>
    rw [if_neg (by decide)] at p1 ⊢
    exact q μ1 h1 σ H1 Q (s.step s1 hr1) p1
/-! .. as values -/
def oAndV (x : RV) (fb : M RV) : M RV := match x with | .v (.bl b) => if b = true then fb else pur (.v (.bl false)) | _ => fail
def oOrV (x : RV) (fb : M RV) : M RV := match x with | .v (.bl b) => if b = true then pur (.v (.bl true)) else fb | _ => fail
theorem je_one {op : BoolOp} (h : JE X W E Γ a fa) : JE X W E Γ (.BoolOp op [a] pos) fa := fun μ h0 σ H Q s p => wE.of (pe_one pe_w) (h μ h0 σ H Q s p)
theorem Po.since {B : Bs} {μ : Nat → Addr} {n : Nat} {H0 H : Hp} {Q : VK} {E : XK} {r : Rs RV} (p : Po B μ n H (fun r h' μ' H' => ∀ u, RR B H0 μ' h'.length H' r u → Q u H') E r) (th : ∀ a, H0 a ≠ none → H a ≠ none) :
    Po B μ n H (fun r h' μ' H' => ∀ u, RR B H μ' h'.length H' r u → Q u H') E r := p.mono fun x h' μ' H' _ s _ q u ru => q u (ru.since th)
theorem je_and (ha : JE X W E Γ a fa) (hb : JE X W E Γ (.BoolOp .And (b :: es) pos) fb) : JE X W E Γ (.BoolOp .And (a :: b :: es) pos) (bnd fa fun x => oAndV x fb) := fun μ h σ H Q s p =>
  wE.of (pe_and pe_w pe_w) (ha μ h σ H _ s (Po.mono (Po.bind p) fun x h1 μ1 H1 eq1 s1 hr1 p1 u ru => by
    unfold oAndV at p1
    split at p1
    · rename_i d
      refine ⟨d, rr_bl ru, ?_⟩
      cases d with
      | true =>
        rw [if_pos rfl] at p1 ⊢
        exact hb μ1 h1 σ H1 Q (s.step s1 hr1) (p1.since s1.th)
      | false =>
        rw [if_neg (by decide)] at p1 ⊢
        exact Po.last p1 hr1 (Same.refl _) _ (.v (.bl false))
    · exact p1.elim))
def oNotV (x : RV) : M RV := match x with | .v (.bl b) => pur (.v (.bl (!b))) | _ => fail
theorem je_not (ha : JE X W E Γ a fa) : JE X W E Γ (.UnaryOp .Not a pos) (bnd fa oNotV) := fun μ h σ H Q s p =>
  wE.of (pe_not pe_w) (ha μ h σ H _ s (Po.mono (Po.bind p) fun x h1 μ1 H1 _ s1 hr1 p1 u ru => by
    unfold oNotV at p1
    split at p1
    · exact ⟨_, rr_bl ru, Po.last p1 hr1 (Same.refl _) _ (.v (.bl _))⟩
    · exact p1.elim))
theorem je_ifE (hc : JT X W E Γ c t) (ha : JE X W E Γ a fa) (hb : JE X W E Γ b fb) : JE X W E Γ (.IfExp c a b pos) (bnd t fun d => if d = true then fa else fb) := fun μ h σ H Q s p =>
  wE.of (pe_ifExp pt_w pe_w pe_w) (hc μ h σ H _ s (Po.mono (Po.bind p) fun d h1 μ1 H1 _ s1 hr1 p1 => by
    cases d with
    | true =>
      rw [if_pos rfl] at p1 ⊢
      exact ha μ1 h1 σ H1 Q (s.step s1 hr1) (p1.since s1.th)
    | false =>
      rw [if_neg (by decide)] at p1 ⊢
      exact hb μ1 h1 σ H1 Q (s.step s1 hr1) (p1.since s1.th)))
/-! ### arguments -/
/-- what the arguments do: c k evaluates them and goes on with their values -/
def JA (X : Cx) (W : WX) (E : Ent) (Γ : Sl) (es : List Expr) (c : (List FV → M RV) → M RV) : Prop :=
  ∀ (k : List FV → M RV) μ h σ H (R : RV → FH → (Nat → Addr) → Hp → Prop) (EX : XK), SR (bs X) E μ Γ h σ H → (∀ c d H', EX c d H' → W c d σ H') → Po (bs X) μ h.length H R EX (c k h) →
    wA X es σ H fun us H' => ∃ vs μ' h', Step μ h.length H μ' h'.length H' ∧ HR (bs X) μ' h' H' ∧ VRs (bs X) H' μ' h'.length vs us ∧ Po (bs X) μ' h'.length H' R EX (k vs h')
theorem ja_nil : JA X W E Γ [] (fun k => k []) := fun k μ h σ H R EX s _ p => wA.of pa_nil ⟨[], μ, h, Step.refl _ _ _, s.hr, .nil, p⟩
/-- an expression as a value: the wish of what follows -/
theorem JE.val {σ : L2.St} {Q : VK} {μ : Nat → Addr} {h : FH} {H : Hp} (ha : JE X W E Γ e fa) (s : SR (bs X) E μ Γ h σ H)
    (p : Po (bs X) μ h.length H (fun d h' μ' H' => ∀ u, VR (bs X) H' μ' h'.length d u → Q u H') (fun c d H' => W c d σ H') (mV fa h)) : wE X e σ H Q :=
  wE.gh (ha μ h σ H _ s (Po.mono (Po.vF p) fun x h1 μ1 H1 _ s1 hr1 p1 u ru => by
    obtain ⟨d, _, g⟩ := p1 u ru
    exact g.mono fun H2 z => z.2.2.2.2.2 u z.2.2.1))
theorem ja_cons {c : (List FV → M RV) → M RV} (ha : JE X W E Γ e fa) (ht : JA X W E Γ es c) (hs : starEach (e :: es) X.env = (false, eval e X.env) :: starEach es X.env := by exact star1 rfl) : JA X W E Γ (e :: es) (fun k => bnd (mV fa) fun v => c fun vs => k (v :: vs)) := fun k μ h σ H R EX s hE p =>
  wA.of (pa_cons pe_w pa_w hs) (ha.val s (Po.mono (Po.monoE (Po.bind p) hE) fun v h1 μ1 H1 _ s1 hr1 p1 u vu =>
    wA.mono (ht (fun vs => k (v :: vs)) μ1 h1 σ H1 R EX (s.step s1 hr1) hE p1) fun us H2 ⟨vs, μ2, h2, s2, hr2, rv, p2⟩ =>
      ⟨v :: vs, μ2, h2, s1.trans s2, hr2, .cons (s2.vr vu) rv, p2⟩))
/-! ### displays -/
def oTup (vs : List FV) : M RV := if vs.length ≤ LIM then pur (.v (.tup vs)) else fail
def oLst (vs : List FV) : M RV := if vs.length ≤ LIM then pur (.l vs) else fail
theorem je_tup {f : (List FV → M RV) → M RV} {x1} (h : JA X W E Γ es f) : JE X W E Γ (.Tuple es x1 pos) (f oTup) := fun μ h0 σ H Q s p =>
  wE.of (pe_tup pa_w) (wA.mono (h oTup μ h0 σ H _ _ s (fun _ _ _ z => z) p) fun us H1 ⟨vs, μ1, h1, s1, hr1, rus, p1⟩ => by
    unfold oTup at p1
    split at p1
    · rename_i hl
      exact ⟨by rw [rus.len]; exact lim_le hl, fun q hq => Po.last p1 hr1 (same_new hq) _ (rr_tup hq rus)⟩
    · exact p1.elim)
theorem je_lst {f : (List FV → M RV) → M RV} (h : JA X W E Γ es f) : JE X W E Γ (.List es pos) (f oLst) := fun μ h0 σ H Q s p =>
  wE.of (pe_lst pa_w) (wA.mono (h oLst μ h0 σ H _ _ s (fun _ _ _ z => z) p) fun us H1 ⟨vs, μ1, h1, s1, hr1, rus, p1⟩ => by
    unfold oLst at p1
    split at p1
    · rename_i hl
      exact ⟨by rw [rus.len]; exact lim_le hl, fun q hq => Po.last p1 hr1 (same_new hq) _ (rr_lst hr1 s1.th hq rus)⟩
    · exact p1.elim)
theorem je_d0 : JE X W E Γ (.Dict [] [] pos) (pur (.d [])) := fun μ h0 σ H Q s p => wE.of pe_dnewK (fun q hq => Po.last p s.hr (same_new hq) _ (rr_dct s.hr (fun _ z => z) hq .nil))
/-! ### subscripts -/
theorem ix_dict (hu : X.A.units + 1 < cLine) : IxR X (fun x y H Q => ∃ a v, x = .ref a ∧ DGet H a y (some v) ∧ Q v H) := by
  intro value slice pins s σ H x y v u Q I rx ry h hs
  obtain ⟨a, w, rfl, g, q⟩ := h
  obtain rfl : v = Value.ref a := rx
  have hT := dict_typeIs I g
  unfold subscriptTail
  refine wpAny_bind ?_
  rw [getitemInPython_of_ne hT.not_modules]
  refine wpAny_bind (wpAny_specialOf hT PySem.F.slot_dict_getitem.lookup ?_)
  have fin : wpAny (model X.prog X.w) X.A (subscripted slice false (.ref a) u) (fun r s₃ => wpAny (model X.prog X.w) X.A (letTemporaryGo value (.ref a) r >>= fun _ => pure r) (EP X pins σ Q) X.xe s₃) X.xe s := by
    rw [hs]
    exact wpAny_operating (wpAny_mono (d_getItem hu I g ry fun w' s3 I3 rw' => ⟨w, H, I3, rw', q⟩) (fun r s₃ h₃ => wpAny_bind (wpAny_letTemporaryGo (wpAny_pure h₃))) fun _ _ x => x)
  first
    | exact wpAny_pure (wpAny_bind fin)
    | exact wpAny_bind (wpAny_pure (wpAny_bind fin))
    | exact wpAny_bind fin
def gIx (x y : RV) (h : FH) : Option RV := match x, y with
  | .v (.str z), .v (.int i) => if z.length ≤ LIM then (atI z.cps.toList i).map fun c => .v (.str ⟨#[c]⟩) else none
  | x, .v d => match x.seq h, x.dict h with
    | some (_, ds), _ => match d with
      | .int i => (atI ds i).map .v
      | _ => none
    | none, some kvs => match d.key with
      | some k => (lookK kvs k).map .v
      | none => none
    | none, none => none
  | _, _ => none
theorem atI_vr {B : Bs} {H : Hp} {μ : Nat → Addr} {n : Nat} {ds : List FV} {xs : List V} {i : Int} {d : FV} (r : VRs B H μ n ds xs) (e : atI ds i = some d) : ∃ v, atI xs i = some v ∧ VR B H μ n d v := by
  unfold atI at e ⊢
  rw [r.len]
  cases q : ixN ds.length i with
  | none => rw [q] at e; cases e
  | some j =>
    rw [q] at e
    exact r.get (i := j) e
theorem je_ix (hr : Room k X.A) (ha : JE X W E Γ a fa) (hb : JE X W E Γ b fb) (hs : PlainIx b := by exact fun _ _ => rfl) : JE X W E Γ (.Subscript a b pos) (bnd fa fun x => bnd fb fun y => oB gIx x y) := fun μ h σ H Q s p =>
  wE.of (pe_ix (ix_seq.or (ix_dict (hu_of hr))) pe_w pe_w hs) (ha μ h σ H _ s (Po.mono (Po.bind p) fun x h1 μ1 H1 _ s1 hr1 p1 u ru =>
    hb μ1 h1 σ H1 _ (s.step s1 hr1) (Po.mono (Po.bind p1) fun y h2 μ2 H2 _ s2 hr2 p2 v rv => by
      obtain ⟨z, hz, p3⟩ := p2.lift
      have ru2 := ru.step s2
      unfold gIx at hz
      split at hz
      · rename_i w i _ _
        split at hz
        · rename_i hl
          cases q : atI w.cps.toList i with
          | none => rw [q] at hz; cases hz
          | some c =>
            rw [q] at hz
            cases hz
            exact .inl (.inr (.inr ⟨w, i, c, rr_str ru2, rr_int rv, lim_le hl, q, p3.last hr2 (Same.refl _) _ (.v (.str _))⟩))
        · cases hz
      · rename_i d _
        split at hz
        · rename_i bb ds e1
          split at hz
          · rename_i i _
            cases q : atI ds i with
            | none => rw [q] at hz; cases hz
            | some c =>
              rw [q] at hz
              cases hz
              obtain ⟨a', xs, rfl, h4, h5⟩ := seqE_ok hr2 ru2 e1
              obtain ⟨w, h6, h7⟩ := atI_vr h4 q
              have fin := p3.last hr2 (Same.refl _) w (.v h7)
              rcases h5 with h5 | h5
              · exact .inl (.inl ⟨a', xs, i, w, rfl, rr_int rv, h5, h6, fin⟩)
              · exact .inl (.inr (.inl ⟨a', xs, i, w, rfl, rr_int rv, h5, h6, fin⟩))
          · cases hz
        · rename_i kvs _ e1
          split at hz
          · rename_i kk e2
            cases q : lookK kvs kk with
            | none => rw [q] at hz; cases hz
            | some c =>
              rw [q] at hz
              cases hz
              obtain ⟨a', ws, rfl, h4, h5⟩ := dict_ok hr2 ru2 e1
              obtain ⟨w, h6, h7⟩ := look_some h5 q
              have eu := key_ok rv e2
              subst eu
              refine .inr ⟨a', w, rfl, ?_, p3.last hr2 (Same.refl _) w (.v h7)⟩
              rw [← h6]
              exact .inl ⟨ws, kk, h4, rfl, rfl⟩
          · cases hz
        · cases hz
      · cases hz)))
/-! ### slices -/
def wO (X : Cx) (e : Option Expr) : TO := match e with | none => tNoPart | some e => tPart (wE X e)
theorem po_w {e : Option Expr} : PO X e (wO X e) := by
  cases e with
  | none => exact po_none
  | some e => exact po_some pe_w
def JP (X : Cx) (W : WX) (E : Ent) (Γ : Sl) (e : Option Expr) (f : M (Option Int)) : Prop :=
  ∀ μ h σ H Q, SR (bs X) E μ Γ h σ H → Po (bs X) μ h.length H (fun b h' μ' H' => Q b H') (fun c d H' => W c d σ H') (f h) → wO X e σ H Q
def oPt (x : RV) : M (Option Int) := match x with | .v (.int i) => pur (some i) | _ => fail
theorem jp_none : JP X W E Γ none (pur none) := fun μ h σ H Q s p => Po.last p s.hr (Same.refl _)
theorem jp_some (ha : JE X W E Γ a fa) : JP X W E Γ (some a) (bnd fa oPt) := fun μ h σ H Q s p =>
  (ha μ h σ H _ s (Po.mono (Po.bind p) fun x h1 μ1 H1 _ s1 hr1 p1 u ru => by
    unfold oPt at p1
    split at p1
    · exact ⟨_, rr_int ru, Po.last p1 hr1 (Same.refl _)⟩
    · exact p1.elim))
def cutF (xs : List FV) (lo hi : Option Int) : List FV := (xs.drop (HT.sIx xs.length 0 lo)).take (HT.sIx xs.length xs.length hi - HT.sIx xs.length 0 lo)
theorem cutF_vr {B : Bs} {H : Hp} {μ : Nat → Addr} {n : Nat} {ds : List FV} {xs : List V} {lo hi : Option Int} (r : VRs B H μ n ds xs) : VRs B H μ n (cutF ds lo hi) (cutV xs lo hi) := by
  unfold cutV cutF
  rw [r.len]
  exact (r.drop _).take _
def gSl (x : RV) (lo hi : Option Int) (h : FH) : Option RV := match x with
  | .v (.str z) => if z.length ≤ LIM then some (.v (.str (cutS z lo hi))) else none
  | x => match x.seq h with
    | some (true, ds) => some (.v (.tup (cutF ds lo hi)))
    | some (false, ds) => some (.l (cutF ds lo hi))
    | none => none
def oSl (x : RV) (l u : Option Int) : M RV := lift (gSl x l u)
theorem je_sl {lo hi : Option Expr} {fl fh : M (Option Int)} (ha : JE X W E Γ a fa) (hl : JP X W E Γ lo fl) (hh : JP X W E Γ hi fh) : JE X W E Γ (.Subscript a (.Slice lo hi none p2) pos) (bnd fa fun x => bnd fl fun l => bnd fh fun u => oSl x l u) := fun μ h σ H Q s p =>
  wE.of (pe_slice (sl_str.or (sl_tupA.or sl_list)) pe_w po_w po_w) (ha μ h σ H _ s (Po.mono (Po.bind p) fun x h1 μ1 H1 _ s1 hr1 p1 u ru =>
    hl μ1 h1 σ H1 _ (s.step s1 hr1) (Po.mono (Po.bind p1) fun l h2 μ2 H2 _ s2 hr2 p2 =>
      hh μ2 h2 σ H2 _ ((s.step s1 hr1).step s2 hr2) (Po.mono (Po.bind p2) fun r h3 μ3 H3 _ s3 hr3 p3 => by
        obtain ⟨z, hz, p4⟩ := p3.lift
        have ru3 := (ru.step s2).step s3
        have th : ∀ a, H a ≠ none → H3 a ≠ none := fun a q => s3.th a (s2.th a (s1.th a q))
        unfold gSl at hz
        split at hz
        · split at hz
          · rename_i hl
            cases hz
            exact .inl ⟨_, rr_str ru3, lim_le hl, p4.last hr3 (Same.refl _) _ (.v (.str _))⟩
          · cases hz
        · split at hz
          · rename_i ds e1
            cases hz
            obtain ⟨q, xs, rfl, h4, h5⟩ := seqT_ok hr3 ru3 e1
            refine .inr (.inl ⟨q, xs, rfl, h5, fun hw => ?_, fun _ p' hp' => p4.last hr3 (same_new hp') _ (rr_tup hp' (cutF_vr h4))⟩)
            have e : cutF ds l r = ds := by
              unfold cutF
              rw [h4.len] at hw
              rw [hw.1, hw.2]
              simp
            rw [e] at p4
            exact p4.last hr3 (Same.refl _) _ (.v (.tup h5 h4))
          · rename_i ds e1
            cases hz
            obtain ⟨q, xs, rfl, h4, h5⟩ := seqL_ok hr3 ru3 e1
            exact .inr (.inr ⟨q, xs, rfl, h5, fun p' hp' => p4.last hr3 (same_new hp') _ (rr_lst hr3 th hp' (cutF_vr h4))⟩)
          · cases hz))))
/-! ### built-ins of one argument -/
def CbOk (X : Cx) (r : List V → Hp → VK → Prop) (g : RV → FH → Option RV) : Prop :=
  ∀ μ h H0 H x u (Q : VK) z, HR (bs X) μ h H → (∀ a, H0 a ≠ none → H a ≠ none) → RR (bs X) H0 μ h.length H x u → g x h = some z → (∀ w H', Same H H' → RR (bs X) H0 μ h.length H' z w → Q w H') → r [u] H Q
theorem je_b1 {x id : Str} {idn : String} {r : List V → Hp → VK → Prop} {g : RV → FH → Option RV} (hc : CallR X (.builtin idn) r) (hg0 : CbOk X r g) (hm : X.mg x = none) (hv : bootBuiltins x = some (.builtin idn)) (ha : JE X W E Γ e fa)
    (hg : Gl X x := by rfl) (hn : x ≠ "__name__" := by decide) (hdb : (x == ("__debug__" : Str)) = false := by decide)
    (he : starEach (e :: []) X.env = (false, eval e X.env) :: starEach [] X.env := by exact star1 rfl) (hpl : (backTo pos (starEach [] X.env)).any (·.1) = false := by rfl) : JE X W E Γ (.Call (.Name x p0) [e] [] pos) (bnd fa fun x => oU g x) := fun μ h σ H Q s p =>
  wE.of (pe_callB hc hg hm hv (pa_cons pe_w pa_nil he) hn hdb he hpl) (ha μ h σ H _ s (Po.mono (Po.bind p) fun x h1 μ1 H1 _ s1 hr1 p1 u ru => by
    obtain ⟨z, hz, p2⟩ := p1.lift
    exact hg0 μ1 h1 H H1 x u _ z hr1 s1.th ru hz fun w H' e q => p2.last hr1 e w q))
theorem je_t1 {x : Str} {T : String} {r : List V → Hp → VK → Prop} {g : RV → FH → Option RV} (hc : CallR X (.type T) r) (hg0 : CbOk X r g) (hm : X.mg x = none) (hv : bootBuiltins x = some (.type T)) (ha : JE X W E Γ e fa)
    (hg : Gl X x := by rfl) (hn : x ≠ "__name__" := by decide) (hdb : (x == ("__debug__" : Str)) = false := by decide)
    (he : starEach (e :: []) X.env = (false, eval e X.env) :: starEach [] X.env := by exact star1 rfl) (hpl : (backTo pos (starEach [] X.env)).any (·.1) = false := by rfl) : JE X W E Γ (.Call (.Name x p0) [e] [] pos) (bnd fa fun x => oU g x) := fun μ h σ H Q s p =>
  wE.of (pe_callTy hc hg hm hv (pa_cons pe_w pa_nil he) hn hdb he hpl) (ha μ h σ H _ s (Po.mono (Po.bind p) fun x h1 μ1 H1 _ s1 hr1 p1 u ru => by
    obtain ⟨z, hz, p2⟩ := p1.lift
    exact hg0 μ1 h1 H H1 x u _ z hr1 s1.th ru hz fun w H' e q => p2.last hr1 e w q))
theorem CallR.or {f : Value} {r r' : List V → Hp → VK → Prop} (h : CallR X f r) (h' : CallR X f r') : CallR X f (fun xs H Q => r xs H Q ∨ r' xs H Q) := by
  intro pins s σ H xs us Q I rx q
  rcases q with q | q
  · exact h pins s σ H xs us Q I rx q
  · exact h' pins s σ H xs us Q I rx q
theorem call_lenR : CallR X (.builtin "len") (fun xs H Q => ∃ a kvs, xs = [V.ref a] ∧ Rd H a (.dK kvs) ∧ Q (.int kvs.length) H) := by
  rintro pins s σ H _ us Q I r ⟨a, kvs, rfl, ha, q⟩
  obtain ⟨u, rfl, ru⟩ := vals1 r
  obtain rfl : u = Value.ref a := ru
  exact d_len I ha fun t s' I' => ⟨.int kvs.length, H, I', ⟨t, rfl⟩, q⟩
def gLen (x : RV) (h : FH) : Option RV := match x with
  | .v (.str z) => if z.length ≤ LIM then some (.v (.int z.length)) else none
  | x => match x.seq h, x.dict h with
    | some (_, ds), _ => some (.v (.int ds.length))
    | none, some kvs => some (.v (.int kvs.length))
    | none, none => none
theorem je_len (hm : X.mg "len" = none) (ha : JE X W E Γ e fa) (hg : Gl X "len" := by rfl)
    (he : starEach (e :: []) X.env = (false, eval e X.env) :: starEach [] X.env := by exact star1 rfl) (hpl : (backTo pos (starEach [] X.env)).any (·.1) = false := by rfl) : JE X W E Γ (.Call (.Name "len" p0) [e] [] pos) (bnd fa fun x => oU gLen x) :=
  je_b1 (id := "len") (CallR.or call_len_str (CallR.or call_len_seq call_lenR)) (fun μ h H0 H x u Q z hr th ru hz k => by
    unfold gLen at hz
    split at hz
    · split at hz
      · rename_i hl
        cases hz
        exact .inl ⟨_, by rw [rr_str ru], lim_le hl, k _ _ (Same.refl _) (.v (.int _))⟩
      · cases hz
    · split at hz
      · rename_i b ds _ e1
        cases hz
        obtain ⟨q, xs, rfl, h4, h5⟩ := seqE_ok hr ru e1
        refine .inr (.inl ⟨q, xs, rfl, h5, k _ _ (Same.refl _) ?_⟩)
        rw [h4.len]; exact .v (.int _)
      · rename_i kvs _ e1
        cases hz
        obtain ⟨q, ws, rfl, h4, h5⟩ := dict_ok hr ru e1
        refine .inr (.inr ⟨q, ws, rfl, h4, k _ _ (Same.refl _) ?_⟩)
        rw [h5.len]; exact .v (.int _)
      · cases hz) hm PySem.boot_len ha hg (by decide) (by decide) he hpl
def keyF : Key → FV
  | .inl i => .int i
  | .inr x => .str x
theorem KvR.keys {B : Bs} {H : Hp} {μ : Nat → Addr} {n : Nat} : ∀ {ds : List (Key × FV)} {ws : List (Key × V)}, KvR B H μ n ds ws → VRs B H μ n (ds.map fun kv => keyF kv.1) (ws.map fun kv => L2.kV kv.1)
  | _, _, .nil => .nil
  | (k, d) :: ds, (k', v) :: ws, .cons a b => by
    have h1' : k = k' := a.1
    subst h1'
    refine .cons ?_ (KvR.keys b)
    cases k with
    | inl i => exact .int i
    | inr x => exact .str x
def gList (x : RV) (h : FH) : Option RV := match x.seq h, x.dict h with
  | some (_, ds), _ => some (.l ds)
  | none, some kvs => some (.l (kvs.map fun kv => keyF kv.1))
  | none, none => none
theorem je_list (hcm : X.calm = true) (hm : X.mg "list" = none) (ha : JE X W E Γ e fa) (hg : Gl X "list" := by rfl)
    (he : starEach (e :: []) X.env = (false, eval e X.env) :: starEach [] X.env := by exact star1 rfl) (hpl : (backTo pos (starEach [] X.env)).any (·.1) = false := by rfl) : JE X W E Γ (.Call (.Name "list" p0) [e] [] pos) (bnd fa fun x => oU gList x) :=
  je_t1 (CallR.or call_list_of (call_listD hcm)) (fun μ h H0 H x u Q z hr th ru hz k => by
    unfold gList at hz
    split at hz
    · rename_i b ds _ e1
      cases hz
      obtain ⟨q, xs, rfl, h4, h5⟩ := seqE_ok hr ru e1
      exact .inl ⟨q, xs, rfl, h5, fun l hl => k _ _ (same_new hl) (rr_lst hr th hl h4)⟩
    · rename_i kvs _ e1
      cases hz
      obtain ⟨q, ws, rfl, h4, h5⟩ := dict_ok hr ru e1
      exact .inr ⟨q, ws, rfl, h4, fun l hl => k _ _ (same_new hl) (rr_lst hr th hl h5.keys)⟩
    · cases hz) hm (by decide +kernel) ha hg (by decide) (by decide) he hpl
def gTup (x : RV) (h : FH) : Option RV := match x.seq h with
  | some (_, ds) => some (.v (.tup ds))
  | none => none
theorem je_tuple (hm : X.mg "tuple" = none) (ha : JE X W E Γ e fa) (hg : Gl X "tuple" := by rfl)
    (he : starEach (e :: []) X.env = (false, eval e X.env) :: starEach [] X.env := by exact star1 rfl) (hpl : (backTo pos (starEach [] X.env)).any (·.1) = false := by rfl) : JE X W E Γ (.Call (.Name "tuple" p0) [e] [] pos) (bnd fa fun x => oU gTup x) :=
  je_t1 call_tuple_of (fun μ h H0 H x u Q z hr th ru hz k => by
    unfold gTup at hz
    split at hz
    · rename_i b ds e1
      cases hz
      cases b with
      | true =>
        obtain ⟨q, xs, rfl, h4, h5⟩ := seqT_ok hr ru e1
        exact ⟨q, xs, rfl, .inr ⟨h5, k _ _ (Same.refl _) (.v (.tup h5 h4))⟩⟩
      | false =>
        obtain ⟨q, xs, rfl, h4, h5⟩ := seqL_ok hr ru e1
        exact ⟨q, xs, rfl, .inl ⟨h5, fun l hl => k _ _ (same_new hl) (rr_tup hl h4)⟩⟩
    · cases hz) hm (by decide +kernel) ha hg (by decide) (by decide) he hpl
def gAbs : RV → FH → Option RV
  | .v (.int i), _ => some (.v (.int (if i < 0 then -i else i)))
  | _, _ => none
theorem je_abs (hm : X.mg "abs" = none) (ha : JE X W E Γ e fa) (hg : Gl X "abs" := by rfl)
    (he : starEach (e :: []) X.env = (false, eval e X.env) :: starEach [] X.env := by exact star1 rfl) (hpl : (backTo pos (starEach [] X.env)).any (·.1) = false := by rfl) : JE X W E Γ (.Call (.Name "abs" p0) [e] [] pos) (bnd fa fun x => oU gAbs x) :=
  je_b1 (id := "abs") call_abs (fun μ h H0 H x u Q z hr th ru hz k => by
    unfold gAbs at hz
    split at hz
    · cases hz; exact ⟨_, by rw [rr_int ru], k _ _ (Same.refl _) (.v (.int _))⟩
    · cases hz) hm (by decide +kernel) ha hg (by decide) (by decide) he hpl
def gInt : RV → FH → Option RV
  | .v (.int i), _ => some (.v (.int i))
  | .v (.bl k), _ => some (.v (.int (if k then 1 else 0)))
  | _, _ => none
theorem je_int1 (hm : X.mg "int" = none) (ha : JE X W E Γ e fa) (hg : Gl X "int" := by rfl)
    (he : starEach (e :: []) X.env = (false, eval e X.env) :: starEach [] X.env := by exact star1 rfl) (hpl : (backTo pos (starEach [] X.env)).any (·.1) = false := by rfl) : JE X W E Γ (.Call (.Name "int" p0) [e] [] pos) (bnd fa fun x => oU gInt x) :=
  je_t1 call_int1 (fun μ h H0 H x u Q z hr th ru hz k => by
    unfold gInt at hz
    split at hz
    · cases hz; exact .inl ⟨_, by rw [rr_int ru], k _ _ (Same.refl _) (.v (.int _))⟩
    · cases hz; exact .inr ⟨_, by rw [rr_bl ru], k _ _ (Same.refl _) (.v (.int _))⟩
    · cases hz) hm (by decide +kernel) ha hg (by decide) (by decide) he hpl
/-! ### isinstance -/
def tyR : RV → FH → Option String
  | .v .non, _ => some "NoneType"
  | .v (.bl _), _ => some "bool"
  | .v (.int _), _ => some "int"
  | .v (.str _), _ => some "str"
  | .v (.tup _), _ => some "tuple"
  | .v (.fl _), _ => some "list"
  | .v (.sl _), _ => some "list"
  | .v (.fd _ _), _ => some "dict"
  | .v (.ref m), h => match h[m]? with | some (.lst _) => some "list" | some (.dK _) => some "dict" | some (.dT _) => some "dict" | _ => none
  | .l _, _ => some "list"
  | .d _, _ => some "dict"
  | .t _, _ => some "dict"
  | .bl _, _ => some "list"
  | .bd _, _ => some "dict"
  | .bt _, _ => some "dict"
  | _, _ => none
theorem tyR_ok {B : Bs} {H H0 : Hp} {μ : Nat → Addr} {h : FH} {x : RV} {u : V} {T : String} (hr : HR B μ h H) (r : RR B H0 μ h.length H x u) (e : tyR x h = some T) : TyX B.K H u (.type T) := by
  cases r with
  | l f a b => cases e; exact .base (.lst a)
  | d f a b => cases e; exact .base (.dK a)
  | t f a b => cases e; exact .base (.dT a)
  | bl f a b => cases e; exact .base (.lst a)
  | bd f a b => cases e; exact .base (.dK a)
  | bt f a b => cases e; exact .base (.dT a)
  | o f z a b => cases e
  | bo f z a b => cases e
  | v q =>
    cases q with
    | non => cases e; exact .base .non
    | bl b => cases e; exact .base (.bl b)
    | int i => cases e; exact .base (.int i)
    | str y => cases e; exact .base (.str y)
    | tup a b =>
      cases e
      rcases a with (a | ⟨o, a⟩) | ⟨o, its, n, hk, hc, _⟩
      · exact .base (.tup a)
      · exact .fTuple a
      · exact .kTuple hk hc
    | fl a b => cases e; obtain ⟨o, a⟩ := a; exact .base (.frz a)
    | sl a b =>
      cases e
      rcases a with ⟨o, a⟩ | ⟨o, its, n, hk, hc, _⟩
      · exact .base (.frz a)
      · exact .kList hk hc
    | fd a b => cases e; obtain ⟨o, a⟩ := a; exact .fDict a
    | ft a b => cases e
    | fo z a b => cases e
    | ref l =>
      rename_i i
      have e' : (match h[i]? with | some (.lst _) => some "list" | some (.dK _) => some "dict" | some (.dT _) => some "dict" | _ => none) = some T := e
      split at e'
      · rename_i z zh
        cases e'
        obtain ⟨xs, h1, h2⟩ := hr.at' _ _ zh
        exact .base (.lst h1)
      · rename_i z zh
        cases e'
        obtain ⟨xs, h1, h2⟩ := hr.at' _ _ zh
        exact .base (.dK h1)
      · rename_i z zh
        cases e'
        obtain ⟨xs, h1, h2⟩ := hr.at' _ _ zh
        exact .base (.dT h1)
      · cases e'
def gIs (T : String) (x : RV) (h : FH) : Option RV := match tyR x h with
  | some t => (kitB t T).map fun k => .v (.bl k)
  | none => none
/-- isinstance(e, T), T a built-in class -/
theorem je_isi {x : Str} {T : String} (hm : X.mg "isinstance" = none) (hmT : X.mg x = none) (ha : JE X W E Γ e fa) (hv : bootBuiltins x = some (.type T) := by decide +kernel) (hg : Gl X "isinstance" := by rfl) (hgT : Gl X x := by rfl) (hn : x ≠ "__name__" := by decide) (hd : (x == ("__debug__" : Str)) = false := by decide)
    (h1 : starEach (e :: [.Name x p1]) X.env = (false, eval e X.env) :: starEach [.Name x p1] X.env := by exact star1 rfl) (h2 : starEach (.Name x p1 :: []) X.env = (false, eval (.Name x p1) X.env) :: starEach [] X.env := by exact star1 rfl) (hpl : (backTo pos (starEach [.Name x p1] X.env)).any (·.1) = false := by rfl) :
    JE X W E Γ (.Call (.Name "isinstance" p0) [e, .Name x p1] [] pos) (bnd fa fun x => oU (gIs T) x) := fun μ h σ H Q s p =>
  wE.of (pe_callB (id := "isinstance") call_isi hg hm (by decide +kernel) (pa_cons pe_w (pa_cons (pe_bltn (v := .ty T) hgT hmT hv rfl hn hd) pa_nil h2) h1) (by decide) (by decide) h1 hpl) (ha μ h σ H _ s (Po.mono (Po.bind p) fun x h1 μ1 H1 _ s1 hr1 p1 u ru => by
    obtain ⟨z, hz, p2⟩ := p1.lift
    unfold gIs at hz
    split at hz
    · rename_i t ht
      cases q : kitB t T with
      | none => rw [q] at hz; cases hz
      | some k =>
        rw [q] at hz
        cases hz
        exact ⟨u, .ty T, _, .type T, k, rfl, .ty T, tyR_ok hr1 ru ht, kit_ty q, p2.last hr1 (Same.refl _) _ (.v (.bl k))⟩
    · cases hz))
end
end P
/-! P: calls of one's own defs, statements. -/
namespace P
open PySem PySem.Spec PyProof.Rows L2 G
/-! ### calls of one's own defs -/
abbrev FDef := List FV → M RV
def spP (B : Bs) (f : FDef) : Sp := fun vs H Q E => ∃ μ h ds, HR B μ h H ∧ VRs B H μ h.length ds vs ∧ Po B μ h.length H (fun r h' μ' H' => ∀ u, RR B H μ' h'.length H' r u → Q u H') E (f ds h)
structure HasF (P : Program) (w : World) (K : PySem.W.Frag) (mg : Str → Option Value) (base : Heap) (n : Nat) (x : Str) (ps : List Str) (f : FDef) : Prop where
  ex : ∃ a fd, FnOk P w K mg base (L2.CX P w) n a fd ps (spP ⟨K, mg⟩ f) ∧ mg x = some (.ref a) ∧ PySem.W.keepIn K (.ref a) = true ∧ Binds K fd ps []
abbrev wNo : WX := fun _ _ _ _ => False
/-- what is raised leaves the def -/
def TkE (X : Cx) (W : WX) : Prop := ∃ E : XK, (∀ c d σ H, W c d σ H → E c d H) ∧ Passes (L2.CX X.prog X.w) X E
def Tk (X : Cx) (W : WX) : Prop := Takes X W ∨ W = wNo
section
variable {X : Cx} {W : WX} {E : Ent} {Γ : Sl} {e a b c : Expr} {es : List Expr} {pos p0 : Pos} {fa fb fc : M RV} {k : Nat}
theorem je_call {x : Str} {ps : List Str} {f : FDef} {c : (List FV → M RV) → M RV} {n : Nat} (tk : Tk X W) (h : HasF X.prog X.w X.K X.mg X.base n x ps f) (hr : Room k X.A) (hk : n ≤ k) (ha : JA X W E Γ (e :: es) c)
    (hg : Gl X x := by rfl) (hdb : (x == ("__debug__" : Str)) = false := by decide) (he : starEach (e :: es) X.env = (false, eval e X.env) :: starEach es X.env := by exact star1 rfl) (hpl : (backTo pos (starEach es X.env)).any (·.1) = false := by rfl) :
    JE X W E Γ (.Call (.Name x p0) (e :: es) [] pos) (c f) := fun μ h0 σ H Q s p => by
  obtain ⟨fa, fd, F, hm, hk', hb⟩ := h.ex
  have args := ha f μ h0 σ H _ _ s (fun _ _ _ z => z) p
  rcases tk with tk | rfl
  · exact wE.of (pe_callS (E := WE W) F (hr.mono hk) hg hm hk' hb (fun σ => passAt tk σ) pa_w hdb he hpl) (wA.mono args fun us H1 ⟨vs, μ1, h1, s1, hr1, rus, p1⟩ => ⟨μ1, h1, vs, hr1, rus, p1.since s1.th⟩)
  · refine wE.of (pe_call (E := E0) F (hr.mono hk) hg hm hk' hb .nil passL pa_w hdb he hpl) (wA.mono args fun us H1 ⟨vs, μ1, h1, s1, hr1, rus, p1⟩ => ?_)
    rw [List.append_nil]
    exact ⟨μ1, h1, vs, hr1, rus, p1.since s1.th⟩
end
/-! ### statements -/
/-- how a block ends: it goes on, returns, leaves its loop, goes to the next turn -/
inductive Fl (α β : Type) where
  | nx (a : α) | rt (r : RV) | bk (b : β) | ct (b : β)
/-- what a statement leaves of what was known -/
structure StW (μ : Nat → Addr) (n : Nat) (H : Hp) (μ' : Nat → Addr) (n' : Nat) (H' : Hp) : Prop where
  le : n ≤ n'
  ext : ∀ i, i < n → μ' i = μ i
  gw : Gw H H'
theorem StW.refl (μ : Nat → Addr) (n : Nat) (H : Hp) : StW μ n H μ n H := ⟨Nat.le_refl _, fun _ _ => rfl, Gw.refl H⟩
section
variable {μ μ1 μ2 : Nat → Addr} {n n1 n2 : Nat} {H H1 H2 : Hp}
theorem StW.trans (a : StW μ n H μ1 n1 H1) (b : StW μ1 n1 H1 μ2 n2 H2) : StW μ n H μ2 n2 H2 :=
  ⟨Nat.le_trans a.le b.le, fun i h => (b.ext i (Nat.lt_of_lt_of_le h a.le)).trans (a.ext i h), a.gw.trans b.gw⟩
theorem Step.w (s : Step μ n H μ1 n1 H1) : StW μ n H μ1 n1 H1 := ⟨s.le, s.ext, s.gw⟩
theorem StW.of (g : Gw H H1) : StW μ n H μ n H1 := ⟨Nat.le_refl _, fun _ _ => rfl, g⟩
theorem StW.vr {B : Bs} {d : FV} {v : V} (s : StW μ n H μ1 n1 H1) (h : VR B H μ n d v) : VR B H1 μ1 n1 d v := VR.mono s.gw s.ext s.le d v h
theorem StW.vrs {B : Bs} {d : List FV} {v : List V} (s : StW μ n H μ1 n1 H1) (h : VRs B H μ n d v) : VRs B H1 μ1 n1 d v := VRs.mono s.gw s.ext s.le d v h
end
/-- what is known where an error is caught: nothing of the slots, or some -/
def SX (B : Bs) (E : Ent) (μ : Nat → Addr) (Γx : Option Sl) (h : FH) (σ : St) (H : Hp) : Prop := match Γx with
  | none => Step E.μ E.n E.H μ h.length H ∧ HR B μ h H
  | some Γ => SR B E μ Γ h σ H
def SubX (Γx : Option Sl) (Γ : Sl) : Prop := match Γx with
  | none => True
  | some Γ' => Sub Γ' Γ
theorem SubX.none {Γ : Sl} : SubX none Γ := trivial
theorem SR.x {B : Bs} {E : Ent} {μ : Nat → Addr} {Γ : Sl} {Γx : Option Sl} {h : FH} {σ : St} {H : Hp} (s : SR B E μ Γ h σ H) (w : SubX Γx Γ) : SX B E μ Γx h σ H := by
  cases Γx with
  | none => exact ⟨s.st, s.hr⟩
  | some Γ' => exact s.sub w
variable {α β γ : Type}
def PoN (B : Bs) (E : Ent) (μ : Nat → Addr) (n : Nat) (H : Hp) (D : Ends) (W : WX) (Γx : Option Sl) (eα : α → Sl) (eβ : β → Sl) : Rs (Fl α β) → Prop
  | .ok (.nx a) h' => ∀ μ' σ' H', StW μ n H μ' h'.length H' → SR B E μ' (eα a) h' σ' H' → D.nx σ' H'
  | .ok (.bk b) h' => ∀ μ' σ' H', StW μ n H μ' h'.length H' → SR B E μ' (eβ b) h' σ' H' → D.bk σ' H'
  | .ok (.ct b) h' => ∀ μ' σ' H', StW μ n H μ' h'.length H' → SR B E μ' (eβ b) h' σ' H' → D.ct σ' H'
  | .ok (.rt r) h' => ∀ μ' H' u, StW μ n H μ' h'.length H' → Step E.μ E.n E.H μ' h'.length H' → HR B μ' h' H' → RR B E.H μ' h'.length H' r u → D.rt u H'
  | .ex x h' => ∀ μ' σ' H' c d, StW μ n H μ' h'.length H' → SX B E μ' Γx h' σ' H' → XR B μ' h'.length H' x c d → W c d σ' H'
  | .no => False
/-- f says what the block does from the slots Γ -/
def JB (X : Cx) (W : WX) (E : Ent) (Γx : Option Sl) (eα : α → Sl) (eβ : β → Sl) (Γ : Sl) (sts : List Stmt) (f : M (Fl α β)) : Prop :=
  ∀ μ h σ H D, SR (bs X) E μ Γ h σ H → PoN (bs X) E μ h.length H D W Γx eα eβ (f h) → wSs X sts D σ H
section
variable {B : Bs} {E : Ent} {μ μ1 : Nat → Addr} {n n1 : Nat} {H H1 : Hp} {D : Ends} {W : WX} {Γx : Option Sl} {eα : α → Sl} {eβ : β → Sl} {eγ : γ → Sl} {r : Rs (Fl α β)} {h : FH} {σ : St} {Γ : Sl}
theorem PoN.at' (p : PoN B E μ n H D W Γx eα eβ r) (s : StW μ n H μ1 n1 H1) : PoN B E μ1 n1 H1 D W Γx eα eβ r := by
  cases r with
  | no => exact p
  | ex x h => exact fun μ' σ' H' c d s' => p μ' σ' H' c d (s.trans s')
  | ok f h =>
    cases f with
    | nx a => exact fun μ' σ' H' s' => p μ' σ' H' (s.trans s')
    | bk a => exact fun μ' σ' H' s' => p μ' σ' H' (s.trans s')
    | ct a => exact fun μ' σ' H' s' => p μ' σ' H' (s.trans s')
    | rt a => exact fun μ' H' u s' => p μ' H' u (s.trans s')
/-- an expression in a statement -/
theorem PoN.bnd {δ : Type} {m : M δ} {k : δ → M (Fl α β)} (s : SR B E μ Γ h σ H) (w : SubX Γx Γ) (p : PoN B E μ h.length H D W Γx eα eβ (bnd m k h)) :
    Po B μ h.length H (fun a h' μ' H' => SR B E μ' Γ h' σ H' ∧ PoN B E μ' h'.length H' D W Γx eα eβ (k a h')) (fun c d H' => W c d σ H') (m h) := by
  unfold P.bnd at p
  cases q : m h with
  | no => rw [q] at p; exact p
  | ex x h' =>
    rw [q] at p
    exact fun μ' H' c d s' hr x' => (show ∀ μ' σ' H' c d, _ → _ → _ → W c d σ' H' from p) μ' σ H' c d s'.w ((s.step s' hr).x w) x'
  | ok a h' =>
    rw [q] at p
    exact fun μ' H' s' hr => ⟨s.step s' hr, PoN.at' (show PoN B E μ h.length H D W Γx eα eβ (k a h') from p) s'.w⟩
/-- .. its value: what is new is frozen -/
theorem PoN.val {X : Cx} {e : Expr} {fe : M RV} {k : FV → M (Fl α β)} {Q : VK} (he : JE X W E Γ e fe) (s : SR (bs X) E μ Γ h σ H) (w : SubX Γx Γ) (p : PoN (bs X) E μ h.length H D W Γx eα eβ (P.bnd (mV fe) k h))
    (q : ∀ d h' μ' H' u, StW μ h.length H μ' h'.length H' → SR (bs X) E μ' Γ h' σ H' → VR (bs X) H' μ' h'.length d u → PoN (bs X) E μ' h'.length H' D W Γx eα eβ (k d h') → Q u H') : wE X e σ H Q :=
  he.val s (Po.mono (PoN.bnd s w p) fun d h1 μ1 H1 _ s1 hr1 p1 u vu => q d h1 μ1 H1 u s1.w p1.1 vu p1.2)
end
def seqN (m : M (Fl α β)) (k : α → M (Fl γ β)) : M (Fl γ β) := bnd m fun f => match f with
  | .nx a => k a
  | .rt r => pur (.rt r)
  | .bk b => pur (.bk b)
  | .ct b => pur (.ct b)
/-- a block that does not go on -/
def up (m : M (Fl Empty β)) : M (Fl α β) := bnd m fun f => match f with
  | .nx a => nomatch a
  | .rt r => pur (.rt r)
  | .bk b => pur (.bk b)
  | .ct b => pur (.ct b)
section
variable {B : Bs} {E : Ent} {μ μ1 : Nat → Addr} {n n1 : Nat} {H H1 : Hp} {D : Ends} {W : WX} {Γx : Option Sl} {eα : α → Sl} {eβ : β → Sl} {eγ : γ → Sl} {h : FH} {σ : St} {Γ : Sl}
theorem PoN.seq {m : M (Fl α β)} {k : α → M (Fl γ β)} {N : St → Hp → Prop} (p : PoN B E μ n H D W Γx eγ eβ (seqN m k h))
    (q : ∀ a h' μ' σ' H', StW μ n H μ' h'.length H' → SR B E μ' (eα a) h' σ' H' → PoN B E μ' h'.length H' D W Γx eγ eβ (k a h') → N σ' H') : PoN B E μ n H { D with nx := N } W Γx eα eβ (m h) := by
  unfold seqN P.bnd at p
  cases z : m h with
  | no => rw [z] at p; exact p
  | ex x h' => rw [z] at p; exact p
  | ok f h' =>
    rw [z] at p
    cases f with
    | nx a => exact fun μ' σ' H' s sr => q a h' μ' σ' H' s sr (PoN.at' (show PoN B E μ n H D W Γx eγ eβ (k a h') from p) s)
    | bk b => exact p
    | ct b => exact p
    | rt r => exact p
theorem PoN.up {m : M (Fl Empty β)} {eE : Empty → Sl} {N : St → Hp → Prop} (p : PoN B E μ n H D W Γx eα eβ (up m h)) : PoN B E μ n H { D with nx := N } W Γx eE eβ (m h) := by
  unfold P.up P.bnd at p
  cases z : m h with
  | no => rw [z] at p; exact p
  | ex x h' => rw [z] at p; exact p
  | ok f h' =>
    rw [z] at p
    cases f with
    | nx a => cases a
    | bk b => exact p
    | ct b => exact p
    | rt r => exact p
end
section
variable {X : Cx} {W : WX} {E : Ent} {Γx : Option Sl} {eα : α → Sl} {eβ : β → Sl} {eγ : γ → Sl} {eE : Empty → Sl} {Γ Γ' : Sl} {e a b c o : Expr} {es : List Expr} {pos p0 p1 p2 : Pos} {fe fa fb fc : M RV} {st : Stmt} {rest body orelse sts : List Stmt} {f : M (Fl α β)} {n : Nat}
theorem wcons {D : Ends} {σ : L2.St} {H : Hp} (h : wS X st { D with nx := fun σ' H' => wSs X rest D σ' H' } σ H) : wSs X (st :: rest) D σ H := wSs.of (pss_cons ps_w pss_w) h
theorem wone {D : Ends} {σ : L2.St} {H : Hp} (h : wS X st D σ H) : wSs X [st] D σ H := wSs.of (pss_one ps_w) h
theorem jb_nil {a : α} (w : Sub (eα a) Γ) : JB X W E Γx eα eβ Γ [] (pur (.nx a)) := fun μ h σ H D s p =>
  wSs.of pss_nil ((show ∀ μ' σ' H', _ → _ → D.nx σ' H' from p) μ σ H (StW.refl _ _ _) (s.sub w))
/-- x = e -/
theorem jb_set (i : Nat) {x : Str} {px : Pos} {Γ' : FV → Sl} {k : FV → M (Fl α β)} (w : SubX Γx Γ) (hN : X.N.Nodup) (he : JE X W E Γ e fe) (hk : ∀ d, JB X W E Γx eα eβ (Γ' d) rest (k d)) (hΓ : ∀ d, Γ.set i (some (.v d)) = Γ' d := by intro _; rfl) (hi : X.N[i]? = some x := by rfl) (hx : Loc X.env.scope x := by first | exact Or.inl rfl | exact Or.inr rfl)
    (hs : swapsWith e (some (.Name x px)) pos.line X.env = pure false := by rfl) (hf : X.fn x = true ∨ X.env.scope.names.lookup x = some .local := by first | exact .inl rfl | exact .inr rfl | assumption) :
    JB X W E Γx eα eβ Γ (.Assign [.Name x px] e pos :: rest) (bnd (mV fe) k) := fun μ h σ H D s p =>
  wcons (wS.of (ps_set hN hi hx pe_w hs hf) (PoN.val he s w p fun d h1 μ1 H1 u _ s1 vu p1 => by
    have s2 := s1.putV (i := i) vu
    rw [hΓ d] at s2
    exact hk d μ1 h1 _ H1 D s2 p1))
/-- a new list as the slot's own -/
def mL (m : M RV) : M (List FV) := bnd m fun r => match r with | .l ds => pur ds | _ => fail
def mD (m : M RV) : M (List (Key × FV)) := bnd m fun r => match r with | .d ds => pur ds | _ => fail
theorem jb_setO {δ : Type} (i : Nat) (mk : δ → RV) (ob : ∀ d, (mk d).own = true) {m : M δ} {x : Str} {px : Pos} {Γ' : δ → Sl} {k : δ → M (Fl α β)} (w : SubX Γx Γ) (hN : X.N.Nodup) (he : JE X W E Γ e fe)
    (hm : ∀ h, ∀ (R : RV → FH → (Nat → Addr) → Hp → Prop) (μ : Nat → Addr) (n : Nat) (H : Hp) (E' : XK), Po (bs X) μ n H (fun d h' μ' H' => R (mk d) h' μ' H') E' (m h) → Po (bs X) μ n H R E' (fe h))
    (hk : ∀ d, JB X W E Γx eα eβ (Γ' d) rest (k d)) (hΓ : ∀ d, Γ.set i (some (mk d)) = Γ' d) (hi : X.N[i]? = some x) (hx : Loc X.env.scope x)
    (hs : swapsWith e (some (.Name x px)) pos.line X.env = pure false) (hf : X.fn x = true ∨ X.env.scope.names.lookup x = some .local) :
    JB X W E Γx eα eβ Γ (.Assign [.Name x px] e pos :: rest) (bnd m k) := fun μ h σ H D s p =>
  wcons (wS.of (ps_set hN hi hx pe_w hs hf) (he μ h σ H _ s (hm h _ _ _ _ _ (Po.mono (PoN.bnd s w p) fun d h1 μ1 H1 _ s1 hr1 p1 u ru => by
    obtain ⟨s2, p2⟩ := p1
    have s3 := s2.put (i := i) (ru.since s.st.th) fun _ j r' q e1 o1 e2 => s.fresh ru (ob d) j r' q e1 o1 e2
    rw [hΓ d] at s3
    exact hk d μ1 h1 _ H1 D s3 p2))))
theorem mL_ok {B : Bs} {fe : M RV} (h : FH) (R : RV → FH → (Nat → Addr) → Hp → Prop) (μ : Nat → Addr) (n : Nat) (H : Hp) (E' : XK) (p : Po B μ n H (fun d h' μ' H' => R (.l d) h' μ' H') E' (mL fe h)) : Po B μ n H R E' (fe h) := by
  unfold mL bnd at p
  cases q : fe h with
  | no => rw [q] at p; exact p
  | ex x h' => rw [q] at p; exact p
  | ok r h' =>
    rw [q] at p
    cases r with
    | l ds => exact p
    | _ => exact False.elim p
theorem mD_ok {B : Bs} {fe : M RV} (h : FH) (R : RV → FH → (Nat → Addr) → Hp → Prop) (μ : Nat → Addr) (n : Nat) (H : Hp) (E' : XK) (p : Po B μ n H (fun d h' μ' H' => R (.d d) h' μ' H') E' (mD fe h)) : Po B μ n H R E' (fe h) := by
  unfold mD bnd at p
  cases q : fe h with
  | no => rw [q] at p; exact p
  | ex x h' => rw [q] at p; exact p
  | ok r h' =>
    rw [q] at p
    cases r with
    | d ds => exact p
    | _ => exact False.elim p
theorem jb_setL (i : Nat) {x : Str} {px : Pos} {Γ' : List FV → Sl} {k : List FV → M (Fl α β)} (w : SubX Γx Γ) (hN : X.N.Nodup) (he : JE X W E Γ e fe) (hk : ∀ d, JB X W E Γx eα eβ (Γ' d) rest (k d)) (hΓ : ∀ d, Γ.set i (some (.l d)) = Γ' d := by intro _; rfl) (hi : X.N[i]? = some x := by rfl) (hx : Loc X.env.scope x := by first | exact Or.inl rfl | exact Or.inr rfl)
    (hs : swapsWith e (some (.Name x px)) pos.line X.env = pure false := by rfl) (hf : X.fn x = true ∨ X.env.scope.names.lookup x = some .local := by first | exact .inl rfl | exact .inr rfl | assumption) :
    JB X W E Γx eα eβ Γ (.Assign [.Name x px] e pos :: rest) (bnd (mL fe) k) := jb_setO i RV.l (fun _ => rfl) w hN he (fun h R μ n H E' p => mL_ok h R μ n H E' p) hk hΓ hi hx hs hf
theorem jb_setD (i : Nat) {x : Str} {px : Pos} {Γ' : List (Key × FV) → Sl} {k : List (Key × FV) → M (Fl α β)} (w : SubX Γx Γ) (hN : X.N.Nodup) (he : JE X W E Γ e fe) (hk : ∀ d, JB X W E Γx eα eβ (Γ' d) rest (k d)) (hΓ : ∀ d, Γ.set i (some (.d d)) = Γ' d := by intro _; rfl) (hi : X.N[i]? = some x := by rfl) (hx : Loc X.env.scope x := by first | exact Or.inl rfl | exact Or.inr rfl)
    (hs : swapsWith e (some (.Name x px)) pos.line X.env = pure false := by rfl) (hf : X.fn x = true ∨ X.env.scope.names.lookup x = some .local := by first | exact .inl rfl | exact .inr rfl | assumption) :
    JB X W E Γx eα eβ Γ (.Assign [.Name x px] e pos :: rest) (bnd (mD fe) k) := jb_setO i RV.d (fun _ => rfl) w hN he (fun h R μ n H E' p => mD_ok h R μ n H E' p) hk hΓ hi hx hs hf
/-- x = e, a new object gets a number -/
theorem jb_setT (i : Nat) {x : Str} {px : Pos} {Γ' : FV → Sl} {k : FV → M (Fl α β)} (w : SubX Γx Γ) (hN : X.N.Nodup) (he : JE X W E Γ e fe) (hk : ∀ d, JB X W E Γx eα eβ (Γ' d) rest (k d)) (hΓ : ∀ d, Γ.set i (some (.v d)) = Γ' d := by intro _; rfl) (hi : X.N[i]? = some x := by rfl) (hx : Loc X.env.scope x := by first | exact Or.inl rfl | exact Or.inr rfl)
    (hs : swapsWith e (some (.Name x px)) pos.line X.env = pure false := by rfl) (hf : X.fn x = true ∨ X.env.scope.names.lookup x = some .local := by first | exact .inl rfl | exact .inr rfl | assumption) :
    JB X W E Γx eα eβ Γ (.Assign [.Name x px] e pos :: rest) (bnd (mT fe) k) := fun μ h σ H D s p =>
  wcons (wS.of (ps_set hN hi hx pe_w hs hf) (he μ h σ H _ s (Po.mono (Po.vT (PoN.bnd s w p)) fun r h1 μ1 H1 _ s1 hr1 p1 u ru => by
    obtain ⟨d, h2, μ2, s2, hr2, v2, s3, p2⟩ := p1 u ru
    have s4 := s3.putV (i := i) v2
    rw [hΓ d] at s4
    exact hk d μ2 h2 _ H1 D s4 p2)))
/-- return e -/
def ret (m : M RV) : M (Fl α β) := bnd m fun r => pur (.rt r)
theorem jb_ret (w : SubX Γx Γ) (he : JE X W E Γ e fe) : JB X W E Γx eα eβ Γ [.Return (some e) pos] (ret fe) := fun μ h σ H D s p =>
  wone (wS.of (ps_ret pe_w) (he μ h σ H _ s (Po.mono (PoN.bnd s w p) fun r h1 μ1 H1 _ s1 hr1 p1 u ru =>
    (show ∀ μ' H' u, _ → _ → _ → _ → D.rt u H' from p1.2) μ1 H1 u (StW.refl _ _ _) p1.1.st hr1 (ru.since s.st.th))))
/-- return x: what the slot holds goes out -/
theorem jb_retS (i : Nat) {r : RV} (q : sg Γ i = some r := by rfl) {x : Str} (hN : X.N[i]? = some x := by rfl) (hv : Vis X.env.scope x := by first | exact Or.inl rfl | exact Or.inr (Or.inl rfl) | exact Or.inr (Or.inr rfl)) (hd : (x == ("__debug__" : Str)) = false := by decide)
    (hcd : (x == ("__classdict__" : Str)) = false := by decide) : JB X W E Γx eα eβ Γ [.Return (some (.Name x p0)) pos] (pur (.rt r)) := fun μ h σ H D s p => by
  obtain ⟨u, h1, h2⟩ := s.sl i r (sg_get q)
  exact wone (wS.of (ps_ret (pe_var hN hv hd hcd)) ⟨u, h1, (show ∀ μ' H' u, _ → _ → _ → _ → D.rt u H' from p) μ H u (StW.refl _ _ _) s.st s.hr h2⟩)
/-- if, where both branches go on -/
theorem jb_if {t : M Bool} {A B : M (Fl α β)} {k : α → M (Fl γ β)} (w : SubX Γx Γ) (hc : JT X W E Γ c t) (hA : JB X W E Γx eα eβ Γ body A) (hB : JB X W E Γx eα eβ Γ orelse B) (hk : ∀ a, JB X W E Γx eγ eβ (eα a) rest (k a)) :
    JB X W E Γx eγ eβ Γ (.If c body orelse pos :: rest) (bnd t fun b => seqN (if b = true then A else B) k) := fun μ h σ H D s p =>
  wcons (wS.of (ps_if pt_w pss_w pss_w) (hc μ h σ H _ s (Po.mono (PoN.bnd s w p) fun b h1 μ1 H1 _ s1 hr1 p1 => by
    obtain ⟨s2, p2⟩ := p1
    have p3 := PoN.seq (N := fun σ' H' => wSs X rest D σ' H') p2 fun a h' μ' σ' H' _ sr q => hk a μ' h' σ' H' D sr q
    cases b with
    | true => rw [if_pos rfl] at p3; rw [if_pos rfl]; exact hA μ1 h1 σ H1 _ s2 p3
    | false => rw [if_neg (by decide)] at p3; rw [if_neg (by decide)]; exact hB μ1 h1 σ H1 _ s2 p3)))
/-- if, the last statement of its block -/
theorem jb_ifE {t : M Bool} {A B : M (Fl α β)} (w : SubX Γx Γ) (hc : JT X W E Γ c t) (hA : JB X W E Γx eα eβ Γ body A) (hB : JB X W E Γx eα eβ Γ orelse B) :
    JB X W E Γx eα eβ Γ [.If c body orelse pos] (bnd t fun b => if b = true then A else B) := fun μ h σ H D s p =>
  wone (wS.of (ps_if pt_w pss_w pss_w) (hc μ h σ H _ s (Po.mono (PoN.bnd s w p) fun b h1 μ1 H1 _ s1 hr1 p1 => by
    obtain ⟨s2, p2⟩ := p1
    cases b with
    | true => rw [if_pos rfl] at p2 ⊢; exact hA μ1 h1 σ H1 _ s2 p2
    | false => rw [if_neg (by decide)] at p2 ⊢; exact hB μ1 h1 σ H1 _ s2 p2)))
/-- if, whose first branch does not go on -/
theorem jb_ifL {t : M Bool} {A : M (Fl Empty β)} {k : M (Fl α β)} (w : SubX Γx Γ) (hc : JT X W E Γ c t) (hA : JB X W E Γx eE eβ Γ body A) (hk : JB X W E Γx eα eβ Γ rest k) :
    JB X W E Γx eα eβ Γ (.If c body [] pos :: rest) (bnd t fun b => if b = true then up A else k) := fun μ h σ H D s p =>
  wcons (wS.of (ps_if pt_w pss_w pss_w) (hc μ h σ H _ s (Po.mono (PoN.bnd s w p) fun b h1 μ1 H1 _ s1 hr1 p1 => by
    obtain ⟨s2, p2⟩ := p1
    cases b with
    | true => rw [if_pos rfl] at p2 ⊢; exact hA μ1 h1 σ H1 _ s2 p2.up
    | false => rw [if_neg (by decide)] at p2 ⊢; exact wSs.of pss_nil (hk μ1 h1 σ H1 D s2 p2))))
/-- if c: return e -/
theorem jb_ifR {t : M Bool} {k : M (Fl α β)} (w : SubX Γx Γ) (hc : JT X W E Γ c t) (he : JE X W E Γ e fe) (hk : JB X W E Γx eα eβ Γ rest k) :
    JB X W E Γx eα eβ Γ (.If c [.Return (some e) p1] [] pos :: rest) (bnd t fun b => if b = true then ret fe else k) := fun μ h σ H D s p =>
  wcons (wS.of (ps_if pt_w pss_w pss_w) (hc μ h σ H _ s (Po.mono (PoN.bnd s w p) fun b h1 μ1 H1 _ s1 hr1 p1 => by
    obtain ⟨s2, p2⟩ := p1
    cases b with
    | true =>
      rw [if_pos rfl] at p2 ⊢
      exact wone (wS.of (ps_ret pe_w) (he μ1 h1 σ H1 _ s2 (Po.mono (PoN.bnd s2 w p2) fun r h2 μ2 H2 _ s3 hr3 p3 u ru =>
        (show ∀ μ' H' u, _ → _ → _ → _ → D.rt u H' from p3.2) μ2 H2 u (StW.refl _ _ _) p3.1.st hr3 (ru.since s2.st.th))))
    | false => rw [if_neg (by decide)] at p2 ⊢; exact wSs.of pss_nil (hk μ1 h1 σ H1 D s2 p2))))
end
end P
/-! P: targets, what is walked, loops. -/
namespace P
open PySem PySem.Spec PyProof.Rows L2 G
/-! ### targets -/
/-- only the slots os change -/
def Ch (os : List Nat) (σ σ' : St) : Prop := σ'.length = σ.length ∧ ∀ j, j ∉ os → σ'[j]? = σ[j]?
theorem Ch.trans {os os' : List Nat} {σ σ1 σ2 : St} (a : Ch os σ σ1) (b : Ch os' σ1 σ2) : Ch (os ++ os') σ σ2 :=
  ⟨b.1.trans a.1, fun j hj => (b.2 j fun z => hj (List.mem_append_right _ z)).trans (a.2 j fun z => hj (List.mem_append_left _ z))⟩
/-- a target's reading: the parts of the value, and the slots behind -/
def JGw (B : Bs) (g : TG) (os : List Nat) {δ : Type} (b : FV → Option δ) (put : Sl → δ → Sl) : Prop :=
  ∀ E μ Γ h σ H v d x (Q : St → Hp → Prop), SR B E μ Γ h σ H → VR B H μ h.length d v → b d = some x → (∀ σ', SR B E μ (put Γ x) h σ' H → Ch os σ σ' → Q σ' H) → g v σ H Q
def JGws (B : Bs) (g : List V → St → Hp → (St → Hp → Prop) → Prop) (os : List Nat) (n : Nat) {δ : Type} (b : List FV → Option δ) (put : Sl → δ → Sl) : Prop :=
  (∀ ds x, b ds = some x → ds.length = n) ∧ ∀ E μ Γ h σ H vs ds x (Q : St → Hp → Prop), SR B E μ Γ h σ H → VRs B H μ h.length ds vs → b ds = some x → (∀ σ', SR B E μ (put Γ x) h σ' H → Ch os σ σ' → Q σ' H) → g vs σ H Q
section
variable {B : Bs} {δ δ' : Type} {os os' : List Nat} {n : Nat}
def putN (i : Nat) (Γ : Sl) (d : FV) : Sl := Γ.set i (some (.v d))
theorem jgw_name (i : Nat) : JGw B (gName i) [i] (some : FV → Option FV) (putN i) := fun E μ Γ h σ H v d x Q s r e q => by
  cases e
  exact q _ (s.putV r) ⟨by rw [List.length_set], fun j hj => by rw [List.getElem?_set_ne (fun z => hj (by rw [z]; exact List.mem_cons_self))]⟩
def bNil (ds : List FV) : Option Unit := match ds with | [] => some () | _ => none
def bCons (f : FV → Option δ) (g : List FV → Option δ') (ds : List FV) : Option (δ × δ') := match ds with
  | d :: ds => match f d with
    | some x => match g ds with
      | some y => some (x, y)
      | none => none
    | none => none
  | [] => none
def bTup (g : List FV → Option δ) (d : FV) : Option δ := match d with | .tup ds => g ds | .fl ds => g ds | .sl ds => g ds | _ => none
/-- a tuple's parts, a list's items -/
def gTL (K : PySem.W.Frag) (n : Nat) (t : List V → St → Hp → (St → Hp → Prop) → Prop) : TG := fun v σ H Q => L2.gTup K n t v σ H Q ∨ L2.gUnl K n t v σ H Q
theorem pg_tl {X : Cx} {es : List Expr} {k n : Nat} {t : List V → St → Hp → (St → Hp → Prop) → Prop} {pos : Pos} (hc : X.calm = true) (h : PGs X es t) (hn : (assignEach es X.env).length = n) (hst : (assignEach es X.env).findIdx? (·.1) = none) : PG X (.Tuple es k pos) (gTL X.K n t) := ⟨fun pins s σ H v u Q I r w => by
  rcases w with w | w
  · exact (pg_tup hc h hn hst).run pins s σ H v u Q I r w
  · exact (pg_unl hc h hn hst).run pins s σ H v u Q I r w⟩
def putCons (f : Sl → δ → Sl) (g : Sl → δ' → Sl) (Γ : Sl) (x : δ × δ') : Sl := g (f Γ x.1) x.2
theorem jgws_nil : JGws B gNil [] 0 bNil (fun Γ _ => Γ) := by
  refine ⟨fun ds x e => ?_, fun E μ Γ h σ H vs ds x Q s r e q => ?_⟩
  · cases ds with
    | nil => rfl
    | cons d ds => cases e
  · cases r with
    | nil => exact ⟨rfl, q _ s ⟨rfl, fun _ _ => rfl⟩⟩
    | cons a b => cases e
theorem bCons_inv {f : FV → Option δ} {g : List FV → Option δ'} {ds : List FV} {z : δ × δ'} (e : bCons f g ds = some z) : ∃ d es, ds = d :: es ∧ f d = some z.1 ∧ g es = some z.2 := by
  unfold bCons at e
  split at e
  · rename_i d es
    split at e
    · rename_i x hx
      split at e
      · rename_i y hy
        cases e
        exact ⟨d, es, rfl, hx, hy⟩
      · cases e
    · cases e
  · cases e
theorem jgws_cons {t1 : TG} {t2 : List V → St → Hp → (St → Hp → Prop) → Prop} {f : FV → Option δ} {g : List FV → Option δ'} {p1 : Sl → δ → Sl} {p2 : Sl → δ' → Sl} (h1 : JGw B t1 os f p1) (h2 : JGws B t2 os' n g p2) : JGws B (gCons t1 t2) (os ++ os') (n + 1) (bCons f g) (putCons p1 p2) := by
  refine ⟨fun ds x e => ?_, fun E μ Γ h σ H vs ds x Q s r e q => ?_⟩
  · obtain ⟨d, es, rfl, _, e2⟩ := bCons_inv e
    exact congrArg (· + 1) (h2.1 es _ e2)
  · obtain ⟨d, es, rfl, e1, e2⟩ := bCons_inv e
    cases r with
    | cons a b => exact ⟨_, _, rfl, h1 E μ Γ h σ H _ d x.1 _ s a e1 fun σ1 s1 c1 => h2.2 E μ _ h σ1 H _ es x.2 Q s1 b e2 fun σ2 s2 c2 => q σ2 s2 (c1.trans c2)⟩
theorem jgw_tup {t : List V → St → Hp → (St → Hp → Prop) → Prop} {g : List FV → Option δ} {p : Sl → δ → Sl} (h : JGws B t os n g p) : JGw B (gTL B.K n t) os (bTup g) p := fun E μ Γ h0 σ H v d x Q s r e q => by
  unfold bTup at e
  split at e
  · cases r with
    | tup r1 r2 => exact .inl ⟨_, _, rfl, r1, by rw [r2.len]; exact h.1 _ _ e, h.2 E μ Γ h0 σ H _ _ x Q s r2 e q⟩
  · cases r with
    | fl r1 r2 => exact .inr ⟨_, _, rfl, .inl r1.rd, by rw [r2.len]; exact h.1 _ _ e, h.2 E μ Γ h0 σ H _ _ x Q s r2 e q⟩
  · cases r with
    | sl r1 r2 => exact .inr ⟨_, _, rfl, r1.sqL, by rw [r2.len]; exact h.1 _ _ e, h.2 E μ Γ h0 σ H _ _ x Q s r2 e q⟩
  · cases e
end
def bindT {δ : Type} {γ : Type} (b : FV → Option δ) (d : FV) (k : δ → M γ) : M γ := match b d with | some x => k x | none => fail
/-! ### what is walked -/
def FWalk (B : Bs) (μ1 : Nat → Addr) (n1 : Nat) (H1 : Hp) (J : It) (ds : List FV) : Prop :=
  Walk J ds.length (fun H' => ∃ μ' n', StW μ1 n1 H1 μ' n' H')
    (fun i H x H' => Same H H' ∧ ∀ μ' n', StW μ1 n1 H1 μ' n' H → ∃ d, ds[i]? = some d ∧ VR B H' μ' n' d x)
theorem PI.or {X : Cx} {tg iter : Expr} {w1 w2 : TI} (h1 : PI X tg iter w1) (h2 : PI X tg iter w2) : PI X tg iter (fun σ H R => w1 σ H R ∨ w2 σ H R) := ⟨fun pins s σ H R I h => by
  rcases h with h | h
  · exact h1.run pins s σ H R I h
  · exact h2.run pins s σ H R I h⟩
/-- f gives the items that are walked -/
def JIw (X : Cx) (W : WX) (E : Ent) (Γ : Sl) (wi : TI) (f : M (List FV)) : Prop := ∀ μ h σ H R, SR (bs X) E μ Γ h σ H →
  Po (bs X) μ h.length H (fun ds h1 μ1 H1 => ∀ J, FWalk (bs X) μ1 h1.length H1 J ds → R J H1) (fun c d H' => W c d σ H') (f h) → wi σ H R
def JI (X : Cx) (W : WX) (E : Ent) (Γ : Sl) (tg iter : Expr) (f : M (List FV)) : Prop := ∃ wi, PI X tg iter wi ∧ JIw X W E Γ wi f
theorem JI.to {X : Cx} {W : WX} {E : Ent} {Γ : Sl} {tg e : Expr} {f g : M (List FV)} (p : JI X W E Γ tg e f) (q : ∀ h, f h = g h) : JI X W E Γ tg e g := by
  have : f = g := funext q
  exact this ▸ p
section
variable {B : Bs} {μ1 : Nat → Addr} {n1 : Nat} {H0 H1 : Hp} {a b : Addr} {xs ys : List V} {ds es : List FV} {x : RV} {u : V}
theorem fw_tup (hq : SqT B.K H1 a xs) (r : VRs B H1 μ1 n1 ds xs) : FWalk B μ1 n1 H1 (Itt B.K a) ds := by
  have w := walk_tup (K := B.K) (a := a) (xs := xs)
  rw [r.len] at w
  refine w.mono (fun H' ⟨μ', n', s⟩ => s.gw.sqt hq) fun i H x H' hi g y => ?_
  obtain ⟨rfl, y⟩ := y
  obtain ⟨d, hd, md⟩ := r.get' y
  exact ⟨Same.refl _, fun μ' n' s => ⟨d, hd, s.vr md⟩⟩
/-- a list that stays -/
def LstAt (B : Bs) (H1 : Hp) (a : Addr) (xs : List V) : Prop := ∀ H', Gw H1 H' → SqL B.K H' a xs
theorem fw_lst (hq : LstAt B H1 a xs) (r : VRs B H1 μ1 n1 ds xs) : FWalk B μ1 n1 H1 (Itl B.K a) ds where
  goes i H hi g := by
    obtain ⟨μ', n', s⟩ := g
    have hi' : i < xs.length := by rw [r.len]; exact hi
    exact ⟨xs, xs[i], hq H s.gw, List.getElem?_eq_getElem hi'⟩
  stops H g := by
    obtain ⟨μ', n', s⟩ := g
    exact ⟨xs, hq H s.gw, by rw [r.len]; exact Nat.le_refl _⟩
  yields i H x H' hi g y := by
    obtain ⟨rfl, y⟩ := y
    refine ⟨Same.refl _, fun μ' n' s => ?_⟩
    exact (s.vrs r).get' (y xs (hq H' s.gw))
end
theorem key_vr {B : Bs} {H : Hp} {μ : Nat → Addr} {n : Nat} (k : Key) : VR B H μ n (keyF k) (kV k) := by
  cases k with
  | inl i => exact .int i
  | inr x => exact .str x
def chars (x : Str) : List FV := x.cps.toList.map fun c => .str ⟨#[c]⟩
theorem fw_str {B : Bs} {μ1 : Nat → Addr} {n1 : Nat} {H1 : Hp} {x : Str} : FWalk B μ1 n1 H1 (Its x) (chars x) := by
  have w := walk_str (z := x)
  have e : (chars x).length = x.cps.size := by simp [chars]
  unfold FWalk
  rw [e]
  refine w.mono (fun _ _ => trivial) fun i H v H' hi g y => ?_
  obtain ⟨rfl, c, y1, y2⟩ := y
  subst y2
  refine ⟨Same.refl _, fun μ' n' s => ⟨_, ?_, .str _⟩⟩
  unfold chars
  rw [List.getElem?_map, Array.getElem?_toList, y1]
  rfl
theorem KvR.get' {κ : Type} {B : Bs} {H : Hp} {μ : Nat → Addr} {n : Nat} : ∀ {ds : List (κ × FV)} {vs : List (κ × V)} {i : Nat} {k : κ} {v : V}, KvR B H μ n ds vs → vs[i]? = some (k, v) → ∃ x, ds[i]? = some (k, x) ∧ VR B H μ n x v
  | _, _, i, k, v, .nil, e => by simp at e
  | d :: ds, w :: vs, 0, k, v, .cons a b, e => by
    have e' : w = (k, v) := Option.some.inj e
    subst e'
    have h1 : d.1 = k := a.1
    exact ⟨d.2, by rw [← h1]; rfl, a.2⟩
  | _ :: ds, _ :: vs, i + 1, k, v, .cons a b, e => KvR.get' (i := i) b (by simpa using e)
def keysF {κ : Type} (f : κ → FV) (kvs : List (κ × FV)) : List FV := kvs.map fun kv => f kv.1
section
variable {B : Bs} {μ1 : Nat → Addr} {n1 : Nat} {H1 : Hp} {d : Addr} {od : Obj} {ws : List (Key × V)} {kvs : List (Key × FV)}
theorem fw_keys (e : H1 d = some (.frz od (.dK ws))) (r : KvR B H1 μ1 n1 kvs ws) : FWalk B μ1 n1 H1 (Itk d od ws) (keysF keyF kvs) := by
  have w := walk_keys (d := d) (o := od) (kvs := ws)
  have l : (keysF keyF kvs).length = ws.length := by rw [r.len]; simp [keysF]
  unfold FWalk
  rw [l]
  refine w.mono (fun H' ⟨μ', n', s⟩ => s.gw.2 _ _ _ e) fun i H x H' hi g y => ?_
  obtain ⟨rfl, k, v, y1, y2⟩ := y
  subst y2
  obtain ⟨x, a1, a2⟩ := r.get' y1
  exact ⟨Same.refl _, fun μ' n' s => ⟨keyF k, by unfold keysF; rw [List.getElem?_map, a1]; rfl, key_vr k⟩⟩
end
/-- the items of what is walked -/
def oW (d : FV) : M (List FV) := match d with
  | .tup ds => pur ds
  | .fl ds => pur ds
  | .sl ds => pur ds
  | .str x => pur (chars x)
  | .fd ks vs => pur (keysF keyF (ks.zip vs))
  | _ => fail
section
variable {X : Cx} {W : WX} {E : Ent} {Γ : Sl} {tg iter e f a b o : Expr} {pos apos p0 p1 : Pos} {fe ff fa fb : M RV}
theorem fz_at {B : Bs} {H : Hp} {a : Addr} {xs : List V} (z : Fz H a (.lst xs)) : LstAt B H a xs := fun H' g => .inl (z.gw g).rd
theorem fzl_at {B : Bs} {H : Hp} {a : Addr} {xs : List V} (z : FzL B.K H a xs) : LstAt B H a xs := fun H' g => (z.gw g).sqL
theorem ji_seq (he : JE X W E Γ iter fe) : JI X W E Γ tg iter (bnd (mV fe) oW) := by
  refine ⟨_, PI.or (pi_tup pe_w) (PI.or (pi_list pe_w) (PI.or (pi_str pe_w) (pi_keys pe_w))), fun μ h σ H R s p => ?_⟩
  cases q : mV fe h with
  | no => unfold bnd at p; rw [q] at p; exact p.elim
  | ex x h1 => unfold bnd at p; rw [q] at p; exact .inl (he.val s (by rw [q]; exact p))
  | ok d h1 =>
    unfold bnd at p
    rw [q] at p
    have go : ∀ {Q : VK}, (∀ μ1 H1 u, Step μ h.length H μ1 h1.length H1 → HR (bs X) μ1 h1 H1 → VR (bs X) H1 μ1 h1.length d u → Q u H1) → wE X iter σ H Q := fun {Q} g => he.val s (by rw [q]; exact fun μ1 H1 s1 hr1 u vu => g μ1 H1 u s1 hr1 vu)
    cases d with
    | tup ds =>
      refine .inl (go fun μ1 H1 u s1 hr1 vu => ?_)
      cases vu with
      | tup a b => exact ⟨_, rfl, ⟨_, a⟩, p μ1 H1 s1 hr1 _ (fw_tup a b)⟩
    | fl ds =>
      refine .inr (.inl (go fun μ1 H1 u s1 hr1 vu => ?_))
      cases vu with
      | fl a b => exact ⟨_, rfl, ⟨_, .inl a.rd⟩, p μ1 H1 s1 hr1 _ (fw_lst (fz_at a) b)⟩
    | sl ds =>
      refine .inr (.inl (go fun μ1 H1 u s1 hr1 vu => ?_))
      cases vu with
      | sl a b => exact ⟨_, rfl, ⟨_, a.sqL⟩, p μ1 H1 s1 hr1 _ (fw_lst (fzl_at a) b)⟩
    | str x =>
      refine .inr (.inr (.inl (go fun μ1 H1 u s1 hr1 vu => ?_)))
      cases vu with
      | str => exact ⟨_, rfl, p μ1 H1 s1 hr1 _ fw_str⟩
    | fd ks ds =>
      refine .inr (.inr (.inr (go fun μ1 H1 u s1 hr1 vu => ?_)))
      cases vu with
      | fd a b =>
        obtain ⟨od, a⟩ := a
        exact ⟨_, od, rfl, .inl ⟨_, a, p μ1 H1 s1 hr1 _ (fw_keys a (KvR.zip b))⟩⟩
    | _ => exact p.elim
/-! range(..) -/
def rngL (lo : Int) : Nat → List FV
  | 0 => []
  | n + 1 => .int lo :: rngL (lo + 1) n
theorem rngL_len : ∀ (n : Nat) (lo : Int), (rngL lo n).length = n
  | 0, _ => rfl
  | n + 1, lo => congrArg (· + 1) (rngL_len n (lo + 1))
theorem rngL_at : ∀ (n : Nat) (lo : Int) (i : Nat), i < n → (rngL lo n)[i]? = some (.int (lo + i))
  | 0, _, _, h => absurd h (Nat.not_lt_zero _)
  | n + 1, lo, 0, _ => by show some (FV.int lo) = _; simp
  | n + 1, lo, i + 1, h => by
    show (rngL (lo + 1) n)[i]? = _
    rw [rngL_at n (lo + 1) i (Nat.lt_of_succ_lt_succ h)]
    congr 2
    omega
theorem fw_rng {B : Bs} {μ1 : Nat → Addr} {n1 : Nat} {H1 : Hp} {lo : Int} {n : Nat} : FWalk B μ1 n1 H1 (Itr lo n) (rngL lo n) := by
  have w := walk_range (lo := lo) (n := n)
  unfold FWalk
  rw [rngL_len]
  refine w.mono (fun _ _ => trivial) fun i H x H' hi g y => ?_
  obtain ⟨rfl, y⟩ := y
  exact ⟨Same.refl _, fun μ' n' s => ⟨_, rngL_at n lo i hi, by rw [y]; exact .int _⟩⟩
def oR1 (x : RV) : M (List FV) := match x with
  | .v (.int n) => if -(2 ^ 62) ≤ n ∧ n < 2 ^ 62 then pur (rngL 0 n.toNat) else fail
  | _ => fail
theorem ji_range1 (hm : X.mg "range" = none) (ha : JE X W E Γ a fa) (hg : Gl X "range" := by rfl) (hs1 : starEach [a] X.env = [(false, eval a X.env)] := by rfl) : JI X W E Γ tg (.Call (.Name "range" p1) [a] [] p0) (bnd fa oR1) := by
  refine ⟨_, pi_range1 hg hm (pa_cons pe_w pa_nil hs1) hs1, fun μ h σ H R s p => ?_⟩
  refine ha μ h σ H _ s (Po.mono (Po.bind p) fun x h1 μ1 H1 eq1 s1 hr1 p1 u ru => ?_)
  unfold oR1 at p1
  split at p1
  · rename_i n
    split at p1
    · rename_i hn
      exact ⟨n, by rw [rr_int ru], hn.1, hn.2, Po.last p1 hr1 (Same.refl _) _ fw_rng⟩
    · exact p1.elim
  · exact p1.elim
/-! enumerate, zip, reversed -/
def oSq (d : FV) : M (List FV) := match d with
  | .tup ds => pur ds
  | .fl ds => pur ds
  | .sl ds => pur ds
  | _ => fail
section
variable {B : Bs} {μ1 : Nat → Addr} {n1 : Nat} {H1 : Hp} {a b : Addr} {xs ys : List V} {ds es : List FV}
def zipF (ds es : List FV) : List FV := List.zipWith (fun x y => .tup [x, y]) ds es
end
def oLs (d : FV) : M (List FV) := match d with
  | .fl ds => pur ds
  | .sl ds => pur ds
  | _ => fail
def oZip (d e : FV) : M (List FV) := match d, e with
  | .tup ds, .tup es => pur (zipF ds es)
  | .fl ds, .fl es => pur (zipF ds es)
  | _, _ => fail
end
end P
/-! P: for, while, comprehensions. -/
namespace P
open PySem PySem.Spec PyProof.Rows L2 G
def forN {A β : Type} (F : A → FV → M (Fl A A)) : List FV → A → M (Fl A β)
  | [], a => pur (.nx a)
  | d :: ds, a => bnd (F a d) fun r => match r with
    | .nx a' => forN F ds a'
    | .ct a' => forN F ds a'
    | .bk a' => pur (.nx a')
    | .rt r => pur (.rt r)
def whileN {A β : Type} (t : A → M Bool) (F : A → M (Fl A A)) : Nat → A → M (Fl A β)
  | 0, _ => fail
  | n + 1, a => bnd (t a) fun b => if b = true then bnd (F a) fun r => match r with
    | .nx a' => whileN t F n a'
    | .ct a' => whileN t F n a'
    | .bk a' => pur (.nx a')
    | .rt r => pur (.rt r) else pur (.nx a)
section
variable {α β A : Type} {B : Bs} {E : Ent} {μ : Nat → Addr} {n : Nat} {H : Hp} {D : Ends} {W : WX} {Γx : Option Sl} {eA : A → Sl} {eβ : β → Sl} {h : FH}
theorem PoN.turn {m : M (Fl A A)} {g : A → M (Fl A β)} {N : St → Hp → Prop} (p : PoN B E μ n H D W Γx eA eβ (P.bnd m (fun r : Fl A A => match r with | .nx a' => g a' | .ct a' => g a' | .bk a' => pur (.nx a') | .rt r => pur (.rt r)) h))
    (q : ∀ a h' μ' σ' H', StW μ n H μ' h'.length H' → SR B E μ' (eA a) h' σ' H' → PoN B E μ' h'.length H' D W Γx eA eβ (g a h') → N σ' H') : PoN B E μ n H { D with nx := N, ct := N, bk := D.nx } W Γx eA eA (m h) := by
  unfold P.bnd at p
  cases z : m h with
  | no => rw [z] at p; exact p
  | ex x h' => rw [z] at p; exact p
  | ok f h' =>
    rw [z] at p
    cases f with
    | nx a => exact fun μ' σ' H' s sr => q a h' μ' σ' H' s sr (PoN.at' (show PoN B E μ n H D W Γx eA eβ (g a h') from p) s)
    | ct a => exact fun μ' σ' H' s sr => q a h' μ' σ' H' s sr (PoN.at' (show PoN B E μ n H D W Γx eA eβ (g a h') from p) s)
    | bk b => exact p
    | rt r => exact p
end
/-- a target -/
def JGt (X : Cx) (tg : Expr) (os : List Nat) {δ : Type} (b : FV → Option δ) (put : Sl → δ → Sl) : Prop := ∃ g, PG X tg g ∧ JGw (bs X) g os b put
def JGts (X : Cx) (tgs : List Expr) (os : List Nat) (n : Nat) {δ : Type} (b : List FV → Option δ) (put : Sl → δ → Sl) : Prop := ∃ g, PGs X tgs g ∧ JGws (bs X) g os n b put
section
variable {α β γ A δ δ' : Type} {X : Cx} {W : WX} {E : Ent} {Γx : Option Sl} {eα : α → Sl} {eβ : β → Sl} {Γ Γ' : Sl} {e a b c o tg iter : Expr} {es : List Expr} {pos p0 p1 p2 : Pos} {fe fa fb fc : M RV} {rest body : List Stmt} {os os' : List Nat} {n : Nat}
theorem jg_name (i : Nat) {x : Str} (hN : X.N.Nodup) (hi : X.N[i]? = some x := by rfl) (hx : Loc X.env.scope x := by first | exact Or.inl rfl | exact Or.inr rfl)
    (hf : X.fn x = true ∨ X.env.scope.names.lookup x = some .local := by first | exact .inl rfl | exact .inr rfl | assumption) : JGt X (.Name x pos) [i] (some : FV → Option FV) (putN i) := ⟨_, pg_name hN hi hx hf, jgw_name i⟩
theorem jg_nil : JGts X [] [] 0 bNil (fun Γ _ => Γ) := ⟨_, pgs_nil, jgws_nil⟩
theorem jg_cons {f : FV → Option δ} {g : List FV → Option δ'} {q1 : Sl → δ → Sl} {q2 : Sl → δ' → Sl} (h1 : JGt X e os f q1) (h2 : JGts X es os' n g q2) (hs : (assignEach (e :: es) X.env).map (·.2) = assign e X.env :: (assignEach es X.env).map (·.2) := by rfl) : JGts X (e :: es) (os ++ os') (n + 1) (bCons f g) (putCons q1 q2) := by
  obtain ⟨t1, g1, w1⟩ := h1
  obtain ⟨t2, g2, w2⟩ := h2
  exact ⟨_, pgs_cons g1 g2 hs, jgws_cons w1 w2⟩
theorem jg_tup {g : List FV → Option δ} {kk : Nat} {q : Sl → δ → Sl} (hc : X.calm = true) (h : JGts X es os n g q) (hn : (assignEach es X.env).length = n := by rfl) (hst : (assignEach es X.env).findIdx? (·.1) = none := by rfl) : JGt X (.Tuple es kk pos) os (bTup g) q := by
  obtain ⟨t, p, w⟩ := h
  exact ⟨_, pg_tl hc p hn hst, jgw_tup w⟩
/-- target = e, the target written as a tuple -/
theorem jb_asgT {b : FV → Option δ} {put : Sl → δ → Sl} {Γ' : δ → Sl} {k : δ → M (Fl α β)} (w : SubX Γx Γ) (ht : JGt X tg os b put) (ha : JE X W E Γ a fa) (hk : ∀ x, JB X W E Γx eα eβ (Γ' x) rest (k x)) (hΓ : ∀ x, put Γ x = Γ' x := by intro _; rfl) (hs : swapsWithSole [tg] a pos.line X.env = pure false := by rfl) (hw : swappedStores [tg] a X.env = pure none := by rfl)
    (h1 : (assignEach [tg] X.env).map (·.2) = [assign tg X.env] := by rfl) : JB X W E Γx eα eβ Γ (.Assign [tg] a pos :: rest) (bnd (mV fa) fun d => bindT b d k) := fun μ h σ H D s p => by
  obtain ⟨t, pg, q⟩ := ht
  refine wcons (wS.of (ps_asg pe_w pg hs hw h1) (PoN.val ha s w p fun d h2 μ2 H2 u _ s2 v2 p2 => ?_))
  unfold bindT at p2
  cases z : b d with
  | none => rw [z] at p2; exact p2.elim
  | some x =>
    rw [z] at p2
    refine q E μ2 Γ h2 σ H2 u d x _ s2 v2 z fun σ' s' _ => ?_
    rw [hΓ x] at s'
    exact hk x μ2 h2 σ' H2 D s' p2
theorem jb_for (eA : A → Sl) (a0 : A) {b : FV → Option δ} {put : Sl → δ → Sl} {Γb : A → δ → Sl} {f : A → δ → M (Fl A A)} {src : M (List FV)} {k : A → M (Fl α β)} (w : SubX Γx Γ) (hp : PassesOwn (model X.prog X.w) X.A X.env X.xe) (hc : X.calm = true) (hi : JI X W E Γ tg iter src) (ht : JGt X tg os b put)
    (hb : ∀ a x, JB X W E Γx eA eA (Γb a x) body (f a x)) (h0 : Sub (eA a0) Γ) (hk : ∀ a, JB X W E Γx eα eβ (eA a) rest (k a)) (hΓ : ∀ a x, put (eA a) x = Γb a x := by intro _ _; rfl) (hs : ∀ x, foldedSetIterable iter X.env x = pure x := by intro _; rfl) :
    JB X W E Γx eα eβ Γ (.For tg iter body [] pos :: rest) (bnd src fun xs => seqN (forN (fun a d => bindT b d (f a)) xs a0) k) := fun μ h σ H D s p => by
  obtain ⟨wi, pi, q⟩ := hi
  obtain ⟨gt, pg, qg⟩ := ht
  refine wcons (wS.of (ps_for hp hc pi pg pss_w hs) (q μ h σ H _ s (Po.mono (PoN.bnd s w p) fun xs h1 μ1 H1 _ s1 hr1 p1 J fw => ?_)))
  obtain ⟨sr, p2⟩ := p1
  have p3 := PoN.seq (N := fun σ' H' => wSs X rest D σ' H') p2 fun a h' μ' σ' H' _ sr q => hk a μ' h' σ' H' D sr q
  refine for_it fw (fun i σ' H' => ∃ μ' a h', StW μ1 h1.length H1 μ' h'.length H' ∧ SR (bs X) E μ' (eA a) h' σ' H' ∧ PoN (bs X) E μ' h'.length H' { D with nx := fun σ' H' => wSs X rest D σ' H' } W Γx eA eβ (forN (fun a d => bindT b d (f a)) (xs.drop i) a h'))
    ⟨μ1, a0, h1, StW.refl _ _ _, sr.sub h0, p3⟩ (fun i σ' H' _ z => ?_) (fun i x σ' H2 H3 hi z y => ?_) (fun σ' H' z => ?_)
  · obtain ⟨μ', a, h', s', _, _⟩ := z
    exact ⟨μ', h'.length, s'⟩
  · obtain ⟨μ', a, h', s', sr', p'⟩ := z
    obtain ⟨sm, y⟩ := y
    obtain ⟨d, hd, vd⟩ := y μ' h'.length s'
    have e : xs.drop i = d :: xs.drop (i + 1) := by
      have hlt : i < xs.length := hi
      rw [List.drop_eq_getElem_cons hlt]
      congr 1
      rw [List.getElem?_eq_getElem hlt] at hd
      exact Option.some.inj hd
    rw [e] at p'
    unfold forN at p'
    have s3 : Step μ' h'.length H2 μ' h'.length H3 := Step.same sm
    have sr3 := sr'.step s3 (sr'.hr.same sm)
    have p4 := PoN.turn (N := fun σ4 H4 => ∃ μ' a h', StW μ1 h1.length H1 μ' h'.length H4 ∧ SR (bs X) E μ' (eA a) h' σ4 H4 ∧ PoN (bs X) E μ' h'.length H4 { D with nx := fun σ' H' => wSs X rest D σ' H' } W Γx eA eβ (forN (fun a d => bindT b d (f a)) (xs.drop (i + 1)) a h')) (p'.at' s3.w)
      fun a4 h4 μ4 σ4 H4 s4 sr4 p4 => ⟨μ4, a4, h4, (s'.trans s3.w).trans s4, sr4, p4⟩
    unfold bindT at p4
    cases z : b d with
    | none => rw [z] at p4; exact p4.elim
    | some x0 =>
      rw [z] at p4
      refine qg E μ' (eA a) h' σ' H3 x d x0 _ sr3 vd z fun σ2 sr2 _ => ?_
      rw [hΓ a x0] at sr2
      exact hb a x0 μ' h' σ2 H3 _ sr2 p4
  · obtain ⟨μ', a, h', s', sr', p'⟩ := z
    rw [List.drop_length] at p'
    unfold forN at p'
    exact (show ∀ μ2 σ2 H2, _ → _ → wSs X rest D σ2 H2 from p') μ' σ' H' (StW.refl _ _ _) sr'
theorem jb_while (eA : A → Sl) (a0 : A) (m : Nat) {t : A → M Bool} {f : A → M (Fl A A)} {k : A → M (Fl α β)} (hp : PassesOwn (model X.prog X.w) X.A X.env X.xe) (wA : ∀ a, SubX Γx (eA a)) (hc : ∀ a, JT X W E (eA a) c (t a)) (hb : ∀ a, JB X W E Γx eA eA (eA a) body (f a)) (h0 : Sub (eA a0) Γ) (hk : ∀ a, JB X W E Γx eα eβ (eA a) rest (k a)) :
    JB X W E Γx eα eβ Γ (.While c body [] pos :: rest) (seqN (whileN t f m a0) k) := fun μ h σ H D s p => by
  have p3 := PoN.seq (N := fun σ' H' => wSs X rest D σ' H') p fun a h' μ' σ' H' _ sr q => hk a μ' h' σ' H' D sr q
  refine wcons (wS.of (ps_while hp pt_w pss_w) ⟨fun m σ' H' => ∃ μ' a h', SR (bs X) E μ' (eA a) h' σ' H' ∧ PoN (bs X) E μ' h'.length H' { D with nx := fun σ' H' => wSs X rest D σ' H' } W Γx eA eβ (whileN t f m a h'), ⟨m, μ, a0, h, s.sub h0, p3⟩, fun m σ1 H1 z => ?_⟩)
  obtain ⟨μ1, a, h1, sr, p1⟩ := z
  cases m with
  | zero => exact p1.elim
  | succ m =>
    unfold whileN at p1
    refine hc a μ1 h1 σ1 H1 _ sr (Po.mono (PoN.bnd sr (wA a) p1) fun b h2 μ2 H2 _ s2 hr2 p2 => ?_)
    obtain ⟨sr2, p3⟩ := p2
    cases b with
    | false =>
      rw [if_neg (by decide)] at p3 ⊢
      exact (show ∀ μ' σ' H', _ → _ → wSs X rest D σ' H' from p3) μ2 _ H2 (StW.refl _ _ _) sr2
    | true =>
      rw [if_pos rfl] at p3 ⊢
      refine ⟨fun σ' H' => ∃ μ' a h', SR (bs X) E μ' (eA a) h' σ' H' ∧ PoN (bs X) E μ' h'.length H' { D with nx := fun σ' H' => wSs X rest D σ' H' } W Γx eA eβ (whileN t f m a h'), fun σ' H' z => ⟨m, Nat.lt_succ_self m, z⟩, ?_⟩
      exact hb a μ2 h2 σ1 H2 _ sr2 (PoN.turn p3 fun a4 h4 μ4 σ4 H4 s4 sr4 p4 => ⟨μ4, a4, h4, sr4, p4⟩)
end
end P
/-! P: comprehensions. -/
namespace P
open PySem PySem.Spec PyProof.Rows L2 G
/-- no error leaves -/
def noEx {α : Type} (m : M α) : M α := fun h => match m h with
  | .ok a h' => .ok a h'
  | _ => .no
/-- the values of the items that have one -/
def filN (g : FV → M (Option FV)) : List FV → M (List FV)
  | [] => pur []
  | d :: ds => bnd (noEx (g d)) fun o => bnd (filN g ds) fun vs => pur (match o with | some v => v :: vs | none => vs)
def filL (g : FV → M (Option FV)) (xs : List FV) : M RV := if xs.length ≤ LIM then bnd (filN g xs) fun es => pur (.l es) else fail
theorem bind_assoc {α β γ : Type} (r : Rs α) (f : α → FH → Rs β) (g : β → FH → Rs γ) : (r.bind f).bind g = r.bind fun a h => (f a h).bind g := by
  cases r <;> rfl
theorem wipe_get : ∀ (vs : List Nat) (σ : St) (j : Nat), (wipe σ vs)[j]? = if j ∈ vs then (σ[j]?).map (fun _ => none) else σ[j]?
  | [], σ, j => by simp [wipe]
  | v :: vs, σ, j => by
    show ((wipe σ vs).set v none)[j]? = _
    rw [List.getElem?_set]
    have ih := wipe_get vs σ j
    by_cases e : v = j
    · subst e
      rw [if_pos rfl, if_pos List.mem_cons_self]
      by_cases l : v < (wipe σ vs).length
      · rw [if_pos l]
        have : (wipe σ vs)[v]? = some ((wipe σ vs)[v]) := List.getElem?_eq_getElem l
        rw [this] at ih
        by_cases m : v ∈ vs
        · rw [if_pos m] at ih
          cases q : σ[v]? with
          | none => rw [q] at ih; cases ih
          | some x => rfl
        · rw [if_neg m] at ih
          rw [← ih]; rfl
      · rw [if_neg l]
        have : (wipe σ vs)[v]? = none := List.getElem?_eq_none (Nat.le_of_not_lt l)
        rw [this] at ih
        by_cases m : v ∈ vs
        · rw [if_pos m] at ih
          cases q : σ[v]? with
          | none => rfl
          | some x => rw [q] at ih; cases ih
        · rw [if_neg m] at ih
          rw [← ih]; rfl
    · rw [if_neg e, ih]
      simp only [List.mem_cons, Ne.symm e, false_or]
theorem wipe_ch {os vs : List Nat} {σ σ' : St} (c : Ch os (wipe σ vs) σ') (h : ∀ j, j ∈ os → j ∈ vs) : wipe σ' vs = wipe σ vs := by
  apply List.ext_getElem?
  intro j
  rw [wipe_get vs σ' j]
  by_cases m : j ∈ vs
  · rw [if_pos m]
    have e1 := wipe_get vs σ j
    rw [if_pos m] at e1
    rw [e1]
    have l : σ'.length = (wipe σ vs).length := c.1
    cases q : σ[j]? with
    | none =>
      rw [q] at e1
      have : j ≥ (wipe σ vs).length := List.getElem?_eq_none_iff.mp e1
      rw [List.getElem?_eq_none (by omega)]
    | some x =>
      rw [q] at e1
      have : j < (wipe σ vs).length := (List.getElem?_eq_some_iff.mp e1).1
      rw [List.getElem?_eq_getElem (by omega)]; rfl
  · rw [if_neg m]
    exact c.2 j fun z => m (h j z)
def wipeF (Γ : Sl) : List Nat → Sl
  | [] => Γ
  | v :: vs => (wipeF Γ vs).set v none
theorem SR.wipe {B : Bs} {E : Ent} {μ : Nat → Addr} {Γ : Sl} {h : FH} {σ : St} {H : Hp} (r : SR B E μ Γ h σ H) : ∀ vs : List Nat, SR B E μ (wipeF Γ vs) h (L2.wipe σ vs) H
  | [] => r
  | v :: vs => (r.wipe vs).drop none
abbrev Blk (X : Cx) (scope : Scope) (φ : Cx → Prop) : Prop := ∀ (s : Shared) (H : Hp) (C : Addr) (cl : List (Str × Addr)) (fp : List Addr), φ (X.blk s H scope (compEnvC scope cl C X.env) fp)
def wEB (X : Cx) (scope : Scope) (e : Expr) : TE := fun σ H Q => Blk X scope fun Y => wE Y e σ H Q
structure wPT (Y : Cx) (ifs : List Expr) (σ : L2.St) (H : Hp) (Q : Bool → Hp → Prop) : Prop where
  go : ∀ pins s, Inv Y pins σ H s → wpAny (model Y.prog Y.w) Y.A (forIn ifs true fun c r => if r = true then do let ok ← isTrue c Y.env (eval c Y.env); pure (ForInStep.yield ok) else pure (ForInStep.yield r)) (TP Y pins σ Q) Y.xe s
def wTB (X : Cx) (scope : Scope) (ifs : List Expr) : TT := fun σ H Q => Blk X scope fun Y => wPT Y ifs σ H Q
/-- the tests of a comprehension -/
def JTs (Y : Cx) (W : WX) (E : Ent) (Γ : Sl) (ifs : List Expr) (f : M Bool) : Prop :=
  ∀ μ h σ H Q, SR (bs Y) E μ Γ h σ H → Po (bs Y) μ h.length H (fun b h' μ' H' => Q b H') (fun c d H' => W c d σ H') (f h) → wPT Y ifs σ H Q
theorem jts_nil {X : Cx} {W : WX} {E : Ent} {Γ : Sl} : JTs X W E Γ [] (pur true) := fun μ h σ H Q s p => ⟨fun pins s' I => pts_nil.run pins s' σ H Q I (Po.last p s.hr (Same.refl _))⟩
theorem Po.noEx {α : Type} {B : Bs} {μ : Nat → Addr} {n : Nat} {H : Hp} {R : α → FH → (Nat → Addr) → Hp → Prop} {E E' : XK} {m : M α} {h : FH} (p : Po B μ n H R E (P.noEx m h)) : Po B μ n H R E' (m h) := by
  unfold P.noEx at p
  cases q : m h with
  | no => rw [q] at p; exact p
  | ex x h => rw [q] at p; exact p.elim
  | ok a h => rw [q] at p; exact p
/-- a target in a comprehension -/
def JGtB (X : Cx) (scope : Scope) (tg : Expr) (os : List Nat) {δ : Type} (b : FV → Option δ) (put : Sl → δ → Sl) : Prop := ∃ g, (Blk X scope fun Y => PG Y tg g) ∧ JGw (bs X) g os b put
section
variable {δ δ' : Type} {X : Cx} {W : WX} {E : Ent} {Γ : Sl} {e elt iter tg c : Expr} {es : List Expr} {pos p0 : Pos} {scope : Scope} {os os' vs : List Nat} {n : Nat} {src : M (List FV)}
theorem jgb_name (i : Nat) {x : Str} (hN : Blk X scope fun Y => Y.N.Nodup) (hi : Blk X scope fun Y => Y.N[i]? = some x := by intro _ _ _ _ _; rfl) (hx : Blk X scope fun Y => Loc Y.env.scope x := by first | (intro _ _ _ _ _; exact Or.inl rfl) | (intro _ _ _ _ _; exact Or.inr rfl))
    (hf : Blk X scope fun Y => Y.fn x = true ∨ Y.env.scope.names.lookup x = some .local := by first | (intro _ _ _ _ _; exact .inl rfl) | (intro _ _ _ _ _; exact .inr rfl)) : JGtB X scope (.Name x pos) [i] (some : FV → Option FV) (putN i) := ⟨_, fun a b c d e => pg_name (hN a b c d e) (hi a b c d e) (hx a b c d e) (hf a b c d e), jgw_name i⟩
theorem Fre.keep {μ μ' : Nat → Addr} {n n' : Nat} {H H' : Hp} {p : Addr} {o : HO} (s : Step μ n H μ' n' H') (e : H p = some o) (nd : Nd μ n p) : H' p = some o ∧ Nd μ' n' p := ⟨s.fr _ _ e nd, nd.step (sn e) s⟩
/-- one item of a comprehension -/
def item {δ : Type} (b : FV → Option δ) (t : δ → M Bool) (fe : δ → M RV) (d : FV) : M (Option FV) := bindT b d fun x => bnd (t x) fun c => if c = true then bnd (mV (fe x)) fun v => pur (some v) else pur none
theorem comp_w {ifs : List Expr} {g : TG} {wi : TI} {b : FV → Option δ} {put : Sl → δ → Sl} {t : δ → M Bool} {fe : δ → M RV} {Γc : δ → Sl} (hsrc : JIw X W E Γ wi src) (ht : JGw (bs X) g os b put) (hos : ∀ j, j ∈ os → j ∈ vs) (hΓ : ∀ x, put (wipeF Γ vs) x = Γc x)
    (hts : ∀ x, Blk X scope fun Y => JTs Y wNo E (Γc x) ifs (t x)) (he : ∀ x, Blk X scope fun Y => JE Y wNo E (Γc x) elt (fe x))
    {μ : Nat → Addr} {h : FH} {σ : St} {H : Hp} {Q : VK} (s : SR (bs X) E μ Γ h σ H) (p : Po (bs X) μ h.length H (fun r h' μ' H' => ∀ u, RR (bs X) H μ' h'.length H' r u → Q u H') (fun c d H' => W c d σ H') (bnd src (filL (item b t fe)) h)) :
    tLc wi g (wTB X scope ifs) (wEB X scope elt) vs σ H Q := by
  refine hsrc μ h σ H _ s (Po.mono (Po.bind p) fun xs h1 μ1 H1 _ s1 hr1 p1 J fw => ?_)
  intro Dd hD
  unfold filL at p1
  split at p1
  rotate_left
  · exact p1.elim
  rename_i hlim
  have sD : Same H1 (upd H1 Dd (.lst [])) := same_new hD
  refine lc_it fw (fun i H' => ∃ μ' h' acc xs', Step μ1 h1.length H1 μ' h'.length H' ∧ HR (bs X) μ' h' H' ∧ H' Dd = some (.lst xs') ∧ Nd μ' h'.length Dd ∧ VRs (bs X) H' μ' h'.length acc xs' ∧ xs'.length ≤ i ∧
      Po (bs X) μ1 h1.length H1 (fun r h'' μ'' H'' => ∀ u, RR (bs X) H μ'' h''.length H'' r u → Q u H'') (fun c d H' => W c d σ H') ((filN (item b t fe) (xs.drop i) h').bind fun es h2 => .ok (.l (acc ++ es)) h2))
    ⟨μ1, h1, [], [], Step.same sD, hr1.same sD, upd_same, fun j hj z => hr1.cls hj (by rw [z]; exact hD), .nil, Nat.le_refl _, p1⟩ (fun i H' _ z => ?_) (fun i x H2 H3 hi z y => ?_) (fun H' z => ?_)
  · obtain ⟨μ', h', acc, xs', s', _⟩ := z
    exact ⟨μ', h'.length, s'.w⟩
  · obtain ⟨μ', h', acc, xs', s', hr', eD, nD, racc, lacc, p'⟩ := z
    obtain ⟨sm, y⟩ := y
    obtain ⟨d, hd, vd⟩ := y μ' h'.length s'.w
    have e : xs.drop i = d :: xs.drop (i + 1) := by
      have hlt : i < xs.length := hi
      rw [List.drop_eq_getElem_cons hlt]
      congr 1
      rw [List.getElem?_eq_getElem hlt] at hd
      exact Option.some.inj hd
    rw [e, filN, bnd, bind_assoc] at p'
    have s3 : Step μ' h'.length H2 μ' h'.length H3 := Step.same sm
    have hr3 := hr'.same sm
    obtain ⟨eD3, nD3⟩ := Fre.keep s3 eD nD
    have t3 := s'.trans s3
    have sw : SR (bs X) E μ' (wipeF Γ vs) h' (L2.wipe σ vs) H3 := (s.wipe vs).step (s1.trans t3) hr3
    have p3 := Po.noEx (E' := fun c d H' => wNo c d [] H') (p'.bindAt t3)
    unfold item bindT at p3
    cases z : b d with
    | none => rw [z] at p3; exact p3.elim
    | some x0 =>
      rw [z] at p3
      dsimp only at p3
      refine ht E μ' (wipeF Γ vs) h' _ H3 x d x0 _ sw vd z fun σ2 sr2 ch => ⟨wipe_ch ch hos, ?_⟩
      rw [hΓ x0] at sr2
      intro ss HH C cl fp
      refine hts x0 ss HH C cl fp μ' h' σ2 H3 _ sr2 (Po.mono (Po.bind p3) fun bb h4 μ4 H4 _ s4 hr4 p4 => ?_)
      obtain ⟨eD4, nD4⟩ := Fre.keep s4 eD3 nD3
      have racc4 := s4.vrs (s3.vrs racc)
      have t4 := t3.trans s4
      cases bb with
      | false =>
        rw [if_neg (by decide)] at p4 ⊢
        have p5 := Po.here rfl hr4 p4
        refine ⟨μ4, h4, acc, xs', t4, hr4, eD4, nD4, racc4, Nat.le_succ_of_le lacc, ?_⟩
        rw [bnd, bind_assoc] at p5
        exact p5
      | true =>
        rw [if_pos rfl] at p4 ⊢
        intro ss HH C cl fp
        refine (he x0 ss HH C cl fp).val (sr2.step s4 hr4) (Po.mono (Po.bind p4) fun dv h6 μ6 H5 _ s6 hr6 p6 u v6 => ?_)
        have p7 := Po.here rfl hr6 p6
        rw [bnd, bind_assoc] at p7
        obtain ⟨eD6, nD6⟩ := Fre.keep s6 eD4 nD4
        have racc6 := s6.vrs racc4
        have t6 := t4.trans s6
        have mu : Mut (H5 Dd) := by rw [eD6]; trivial
        have gw := gw_mut (o := .lst (xs' ++ [u])) mu
        have hi' : i < xs.length := hi
        refine ⟨xs', eD6, lim_lt (Nat.lt_of_lt_of_le (Nat.lt_of_le_of_lt lacc hi') hlim), μ6, h6, acc ++ [dv], xs' ++ [u], ?_, ?_, upd_same, nD6, ?_, by rw [List.length_append]; exact Nat.succ_le_succ lacc, ?_⟩
        · refine ⟨t6.le, t6.ext, t6.new, fun a o ha hk => ?_, fun a ha => ?_, t6.gw.trans gw⟩
          · rw [upd_ne (fun z => by rw [z, hD] at ha; cases ha)]; exact t6.fr a o ha hk
          · by_cases z : a = Dd
            · rw [z, upd_same]; exact fun z => nomatch z
            · rw [upd_ne z]; exact t6.th a ha
        · exact ⟨fun j o hj => (hr6.at' j o hj).mono gw (fun _ _ => rfl) (Nat.le_refl _) (upd_ne (nD6 j (List.getElem?_eq_some_iff.mp hj).1)), hr6.inj⟩
        · exact VRs.mono gw (fun _ _ => rfl) (Nat.le_refl _) _ _ (racc6.append (.cons v6 .nil))
        · have : (fun (es : List FV) (h2 : FH) => Rs.ok (RV.l (acc ++ [dv] ++ es)) h2) = fun es h2 => Rs.ok (RV.l (acc ++ (dv :: es))) h2 := by
            funext es h2
            rw [List.append_assoc]; rfl
          rw [this]
          exact p7
  · obtain ⟨μ', h', acc, xs', s', hr', eD, nD, racc, lacc, p'⟩ := z
    rw [List.drop_length] at p'
    have p2 : Po (bs X) μ1 h1.length H1 _ _ (Rs.ok (RV.l (acc ++ [])) h') := p'
    rw [List.append_nil] at p2
    refine p2 μ' H' s' hr' _ (.l ⟨?_, nD⟩ eD racc)
    exact no_th s1.th hD
theorem je_lc (own : List (Str × Nat)) {ifs : List Expr} {b : FV → Option δ} {put : Sl → δ → Sl} {t : δ → M Bool} {fe : δ → M RV} {Γc : δ → Sl} (hc : X.calm = true) (hN : X.N.Nodup) (hi : JI X W E Γ tg iter src) (ok : BlkOk X.N X.env.scope scope own)
    (ht : JGtB X scope tg os b put) (hos : ∀ j, j ∈ os → j ∈ own.map (·.2)) (hts : ∀ x, Blk X scope fun Y => JTs Y wNo E (Γc x) ifs (t x)) (he : ∀ x, Blk X scope fun Y => JE Y wNo E (Γc x) elt (fe x)) (hΓ : ∀ x, put (wipeF Γ (own.map (·.2))) x = Γc x := by intro _; rfl)
    (hs : ∀ x, foldedSetIterable iter X.env x = pure x := by intro _; rfl) : JE X W E Γ (.ListComp elt [⟨tg, iter, ifs, 0⟩] scope pos) (bnd src (filL (item b t fe))) := fun μ h σ H Q s p => by
  obtain ⟨wi, pi, q⟩ := hi
  obtain ⟨gt, pg, qg⟩ := ht
  exact wE.of (pe_lc (te := wEB X scope elt) (tt := wTB X scope ifs) hc hN pi ok pg (fun s H C cl fp => ⟨fun pins s' σ' H' Q' I q => (q s H C cl fp).go pins s' I⟩) (fun s H C cl fp => ⟨fun pins s' σ' H' Q' I q => (q s H C cl fp).go pins s' I⟩) hs) (comp_w q qg hos hΓ hts he s p)
end
end P
/-! P: what a slot alone holds is changed; objects with numbers are changed; freezing. -/
namespace P
open PySem PySem.Spec PyProof.Rows L2 G
section
variable {α β γ δ : Type} {X : Cx} {W : WX} {E : Ent} {Γx : Option Sl} {eα : α → Sl} {eβ : β → Sl} {Γ Γ' : Sl} {e a b c o i tg iter elt : Expr} {es : List Expr} {pos apos p0 p1 p2 px : Pos} {fe fo fi fa fb fc : M RV} {rest body : List Stmt} {os : List Nat} {n k : Nat} {scope : Scope} {src : M (List FV)}
/-! ### y = [..] on one line -/
theorem jb_setLC (j : Nat) {ifs : List Expr} {y : Str} {py : Pos} (own : List (Str × Nat)) {b : FV → Option δ} {put : Sl → δ → Sl} {t : δ → M Bool} {fe : δ → M RV} {Γc : δ → Sl} {Γ' : FV → Sl} {kk : FV → M (Fl α β)} (w : SubX Γx Γ) (hc : X.calm = true) (hN : X.N.Nodup) (hi : JI X W E Γ tg iter src) (ok : BlkOk X.N X.env.scope scope own)
    (ht : JGtB X scope tg os b put) (hos : ∀ j, j ∈ os → j ∈ own.map (·.2)) (hts : ∀ x, Blk X scope fun Y => JTs Y wNo E (Γc x) ifs (t x)) (he : ∀ x, Blk X scope fun Y => JE Y wNo E (Γc x) elt (fe x)) (hk : ∀ d, JB X W E Γx eα eβ (Γ' d) rest (kk d)) (hΓ : ∀ x, put (wipeF Γ (own.map (·.2))) x = Γc x := by intro _; rfl) (hΓ' : ∀ d, Γ.set j (some (.v d)) = Γ' d := by intro _; rfl)
    (hj : X.N[j]? = some y := by rfl) (hyl : X.env.scope.names.lookup y = some .local := by rfl) (hkd : X.env.scope.kind = .function := by rfl) (hpl : (py.line == p0.line) = true := by rfl) (hyn : (scope.names.any fun (n, k) => n == y && (k == .local || k == .cell)) = false := by decide +kernel)
    (hs : ∀ x, foldedSetIterable iter X.env x = pure x := by intro _; rfl) : JB X W E Γx eα eβ Γ (.Assign [.Name y py] (.ListComp elt [⟨tg, iter, ifs, 0⟩] scope p0) pos :: rest) (bnd (mV (bnd src (filL (item b t fe)))) kk) := fun μ h σ H D s p => by
  obtain ⟨wi, pi, q⟩ := hi
  obtain ⟨gt, pg, qg⟩ := ht
  refine wcons (wS.of (ps_setLc (te := wEB X scope elt) (tt := wTB X scope ifs) hc hN hj hyl (sw_true hkd hyl hpl hyn) pi ok pg (fun s H C cl fp => ⟨fun pins s' σ' H' Q' I q => (q s H C cl fp).go pins s' I⟩) (fun s H C cl fp => ⟨fun pins s' σ' H' Q' I q => (q s H C cl fp).go pins s' I⟩) hs)
    (comp_w (Q := fun x H1 => gName j x σ H1 fun σ' H' => wSs X rest D σ' H') q qg hos hΓ hts he s (Po.mono (Po.vF (PoN.bnd s w p)) fun x h1 μ1 H1 _ s1 hr1 p1 u ru => ?_)))
  obtain ⟨d, _, g⟩ := p1 u ru
  refine wSs.gh (g.mono fun H2 ⟨z1, z2, z3, z4, z5, s2, p2⟩ => ?_)
  have s3 := s2.putV (i := j) z3
  rw [hΓ' d] at s3
  exact hk d μ1 h1 _ H2 D s3 p2
/-! ### what slot j holds is frozen -/
theorem jb_frz (j : Nat) {r : RV} {d : FV} (q : sg Γ j = some r) (f : r.frz = some d) {Γ' : Sl} {kk : M (Fl α β)} {sts : List Stmt} (hk : JB X W E Γx eα eβ Γ' sts kk) (hΓ : Γ.set j (some (.v d)) = Γ' := by rfl) : JB X W E Γx eα eβ Γ sts kk := fun μ h σ H D s p => by
  have e := sg_get q
  obtain ⟨u, h1, h2⟩ := s.sl j r e
  refine wSs.gh ?_
  cases ho : r.obj with
  | false =>
    cases r with
    | v x =>
      have xd : x = d := Option.some.inj f
      subst xd
      have : Γ.set j (some (.v x)) = Γ := by
        apply List.ext_getElem?
        intro m
        by_cases z : j = m
        · subst z
          rw [List.getElem?_set_self (List.getElem?_eq_some_iff.mp e).1, e]
        · rw [List.getElem?_set_ne z]
      rw [← hΓ, this] at hk
      exact .inl (hk μ h σ H D s p)
    | _ => cases ho
  | true =>
    have g := frz_ok s.hr h2 f s.st
    have key : ∀ H2, Step E.μ E.n E.H μ h.length H2 ∧ HR (bs X) μ h H2 ∧ VR (bs X) H2 μ h.length d u ∧ Gw H H2 ∧ (∀ p, u ≠ .ref p → H2 p = H p) → Mut (match u with | .ref p => H p | _ => none) → wSs X sts D σ H2 := fun H2 ⟨z1, z2, z3, z4, z5⟩ mu => by
      have sr : SR (bs X) E μ Γ' h σ H2 := by
        rw [← hΓ]
        refine ⟨z1, z2, by rw [List.length_set]; exact s.len, fun m w q => ?_, fun m1 m2 w1 w2 a e1 e2 o1 o2 e3 e4 => ?_⟩
        · rcases set_get q with ⟨rfl, q', l⟩ | ⟨nj, q'⟩
          · cases q'
            exact ⟨u, h1, .v z3⟩
          · obtain ⟨u', k1, k2⟩ := s.sl m w q'
            refine ⟨u', k1, ?_⟩
            cases how : w.obj with
            | false =>
              cases w with
              | v x =>
                cases k2 with
                | v k2 => exact .v (VR.mono z4 (fun _ _ => rfl) (Nat.le_refl _) _ _ k2)
              | _ => cases how
            | true =>
              have ne : ∀ q, u' = .ref q → u ≠ .ref q := fun q eq z => nj (s.inj j m r w q e q' ho how (by rw [h1, z]) (by rw [k1, eq]))
              have st : ∀ q, u' = .ref q → H2 q = H q := fun q eq => z5 q (ne q eq)
              cases k2 with
              | v k2 => cases how
              | l f a b => exact .l f (by rw [st _ rfl]; exact a) (VRs.mono z4 (fun _ _ => rfl) (Nat.le_refl _) _ _ b)
              | d f a b => exact .d f (by rw [st _ rfl]; exact a) (b.mono z4 (fun _ _ => rfl) (Nat.le_refl _))
              | t f a b => exact .t f (by rw [st _ rfl]; exact a) (b.mono z4 (fun _ _ => rfl) (Nat.le_refl _))
              | o f z a b => exact .o f z (by rw [st _ rfl]; exact a) (b.mono z4 (fun _ _ => rfl) (Nat.le_refl _))
              | bl f a b => exact .bl f (by rw [st _ rfl]; exact a) (VRs.mono z4 (fun _ _ => rfl) (Nat.le_refl _) _ _ b)
              | bd f a b => exact .bd f (by rw [st _ rfl]; exact a) (b.mono z4 (fun _ _ => rfl) (Nat.le_refl _))
              | bt f a b => exact .bt f (by rw [st _ rfl]; exact a) (b.mono z4 (fun _ _ => rfl) (Nat.le_refl _))
              | bo f z a b => exact .bo f z (by rw [st _ rfl]; exact a) (b.mono z4 (fun _ _ => rfl) (Nat.le_refl _))
        · rcases set_get e1 with ⟨rfl, e1', l1⟩ | ⟨ne1, e1'⟩
          · cases e1'; cases o1
          · rcases set_get e2 with ⟨rfl, e2', l2⟩ | ⟨ne2, e2'⟩
            · cases e2'; cases o2
            · exact s.inj m1 m2 w1 w2 a e1' e2' o1 o2 e3 e4
      exact hk μ h σ H2 D sr (p.at' (StW.of z4))
    rcases g with g | ⟨q, w, a, b, g⟩
    · obtain ⟨p', rfl, _, mu⟩ : ∃ p', u = .ref p' ∧ True ∧ Mut (H p') := by
        cases h2 with
        | v x => cases ho
        | l f a b => exact ⟨_, rfl, trivial, by rw [a]; trivial⟩
        | d f a b => exact ⟨_, rfl, trivial, by rw [a]; trivial⟩
        | t f a b => exact ⟨_, rfl, trivial, by rw [a]; trivial⟩
        | o f z a b => exact ⟨_, rfl, trivial, by rw [a]; trivial⟩
        | bl f a b => exact ⟨_, rfl, trivial, by rw [a]; trivial⟩
        | bd f a b => exact ⟨_, rfl, trivial, by rw [a]; trivial⟩
        | bt f a b => exact ⟨_, rfl, trivial, by rw [a]; trivial⟩
        | bo f z a b => exact ⟨_, rfl, trivial, by rw [a]; trivial⟩
      exact .inl (key H g mu)
    · refine .inr ⟨q, w, a, b, fun od => key _ (g od) ?_⟩
      cases h2 with
      | v x => cases ho
      | l f a b => show Mut (H _); rw [a]; trivial
      | d f a b => show Mut (H _); rw [a]; trivial
      | t f a b => show Mut (H _); rw [a]; trivial
      | o f z a b => show Mut (H _); rw [a]; trivial
      | bl f a b => show Mut (H _); rw [a]; trivial
      | bd f a b => show Mut (H _); rw [a]; trivial
      | bt f a b => show Mut (H _); rw [a]; trivial
      | bo f z a b => show Mut (H _); rw [a]; trivial
/-! ### xs.append(e), xs.extend(e), the slot's own list -/
def oApp (ds : List FV) (d : FV) : M (List FV) := if ds.length < LIM then pur (ds ++ [d]) else fail
def oExt (ds es : List FV) : M (List FV) := if ds.length + es.length ≤ LIM then pur (ds ++ es) else fail
theorem own_l {B : Bs} {H0 H : Hp} {μ : Nat → Addr} {n : Nat} {ds : List FV} {u : V} (r : RR B H0 μ n H (.l ds) u) : ∃ p xs, u = .ref p ∧ Fre H0 μ n p ∧ H p = some (.lst xs) ∧ VRs B H μ n ds xs := by
  cases r with | l f a b => exact ⟨_, _, rfl, f, a, b⟩
theorem own_d {B : Bs} {H0 H : Hp} {μ : Nat → Addr} {n : Nat} {ds : List (Key × FV)} {u : V} (r : RR B H0 μ n H (.d ds) u) : ∃ p xs, u = .ref p ∧ Fre H0 μ n p ∧ H p = some (.dK xs) ∧ KvR B H μ n ds xs := by
  cases r with | d f a b => exact ⟨_, _, rfl, f, a, b⟩
theorem jb_append (j : Nat) {ds : List FV} {x : Str} {Γ' : List FV → Sl} {kk : List FV → M (Fl α β)} (w : SubX Γx Γ) (he : JE X W E Γ e fe) (hk : ∀ d, JB X W E Γx eα eβ (Γ' d) rest (kk d)) (q : sg Γ j = some (.l ds) := by rfl) (hΓ : ∀ d, Γ.set j (some (.l d)) = Γ' d := by intro _; rfl)
    (hN : X.N[j]? = some x := by rfl) (hv : Vis X.env.scope x := by first | exact Or.inl rfl | exact Or.inr (Or.inl rfl) | exact Or.inr (Or.inr rfl)) (hd : (x == ("__debug__" : Str)) = false := by decide) (hcd : (x == ("__classdict__" : Str)) = false := by decide)
    (pe : ∀ {to : TE} {t : TA}, PE X (.Name x px) to → PA X [e] t → PE X (.Call (.Attribute (.Name x px) "append" apos) [e] [] p0) (tBM X.K "list" rAppend to t) := by intro to t h1 h2; exact pe_bm PySem.F.plainAttrs_list PySem.F.slot_list_append PySem.F.type_list_append mt_append h1 h2)
    (hs : swapsWith (.Call (.Attribute (.Name x px) "append" apos) [e] [] p0) none pos.line X.env = pure false := by rfl) (h1 : starEach (e :: []) X.env = (false, eval e X.env) :: starEach [] X.env := by exact star1 rfl) :
    JB X W E Γx eα eβ Γ (.Expr (.Call (.Attribute (.Name x px) "append" apos) [e] [] p0) pos :: rest) (bnd (mV fe) fun d => bnd (oApp ds d) kk) := fun μ h σ H D s p => by
  have eq := sg_get q
  obtain ⟨u, h1', h2⟩ := s.sl j _ eq
  obtain ⟨p', xs, rfl, f, a, b⟩ := own_l h2
  refine wcons (wS.of (ps_expr (pe (pe_var hN hv hd hcd) (pa_cons pe_w pa_nil h1)) hs) ⟨.ref p', h1', .inl ⟨rfl, xs, SqL.of a⟩, PoN.val he s w p fun d h3 μ3 H3 u3 sw s3 v3 p3 => ?_⟩)
  obtain ⟨u', k1, k2⟩ := s3.sl j _ eq
  rw [h1'] at k1; cases k1
  obtain ⟨p'', ys, e', f', a', b'⟩ := own_l k2
  cases e'
  unfold oApp at p3
  by_cases hl : ds.length < LIM
  · rw [if_pos hl] at p3
    refine ⟨p', ys, u3, rfl, rfl, a', by rw [b'.len]; exact lim_lt hl, ?_⟩
    have mu : Mut (H3 p') := by rw [a']; trivial
    have g := gw_mut (o := .lst (ys ++ [u3])) mu
    have s4 := s3.chg (o := .lst (ys ++ [u3])) (r' := .l (ds ++ [d])) rfl eq h1' f'.1 f'.2 mu (.l f' upd_same (VRs.mono g (fun _ _ => rfl) (Nat.le_refl _) _ _ (b'.append (.cons v3 .nil))))
    rw [hΓ] at s4
    exact hk (ds ++ [d]) μ3 h3 σ _ D s4 (PoN.at' p3 (StW.of g))
  · rw [if_neg hl] at p3; exact p3.elim
/-- .. of any list -/
def rExtR : V → List V → Hp → VK → Prop := fun x vs H Q => ∃ l b xs zs, x = .ref l ∧ vs = [.ref b] ∧ H l = some (.lst xs) ∧ Rd H b (.lst zs) ∧ xs.length + zs.length ≤ sizeLine ∧ Q .non (upd H l (.lst (xs ++ zs)))
theorem mt_extR : MtM X "list.extend" rExtR := by
  rintro pins s σ H _ _ v us Q I rx rv ⟨l, b, xs, zs, rfl, rfl, hH, hB, hz, q⟩
  obtain rfl : v = .ref l := rx
  obtain ⟨u, rfl, ru⟩ := rv.one
  obtain rfl : u = .ref b := ru
  obtain ⟨_, ia, na, wa, ea⟩ := (Rd.of hH).ok I.hok
  obtain ⟨_, ib, nb, wb, eb⟩ := hB.ok I.hok
  have l1 := wa.length
  have l2 := wb.length
  have small : ia.toArray.size + ib.toArray.size ≤ sizeLine := by simp only [List.size_toArray]; omega
  have room : ¬ (!ia.toArray.isEmpty && Builtin.List.listTooLong (ia.toArray.size + ib.toArray.size)) = true := by
    rw [notLongL small, Bool.and_false]; decide
  have one : ia.toArray.size ≤ sizeLine := by omega
  have two : ia.toArray.size + ib.toArray.size ≤ sizeLine + 1 := by omega
  refine call_meets PySem.F.slot_list_extend ⟨_, ea, rfl⟩ PySem.F.entry_list_extend (PySem.F.args_list_extend_2 _ _) (AutoSeq1.list_extend_list_list_0 l ia.toArray na b ib.toArray nb room one two) ⟨ea, eb, ?_⟩
  have len : (xs ++ zs).length ≤ sizeLine := by rw [List.length_append]; exact hz
  exact ⟨.non, _, I.lset (its' := ia ++ ib) hH ea (by simp) (wa.append wb) len, rfl, q⟩
def oL (d : FV) : M (List FV) := match d with | .fl ds => pur ds | _ => fail
theorem jb_extend (j : Nat) {ds : List FV} {x : Str} {Γ' : List FV → Sl} {kk : List FV → M (Fl α β)} (w : SubX Γx Γ) (he : JE X W E Γ e fe) (hk : ∀ d, JB X W E Γx eα eβ (Γ' d) rest (kk d)) (q : sg Γ j = some (.l ds) := by rfl) (hΓ : ∀ d, Γ.set j (some (.l d)) = Γ' d := by intro _; rfl)
    (hN : X.N[j]? = some x := by rfl) (hv : Vis X.env.scope x := by first | exact Or.inl rfl | exact Or.inr (Or.inl rfl) | exact Or.inr (Or.inr rfl)) (hd : (x == ("__debug__" : Str)) = false := by decide) (hcd : (x == ("__classdict__" : Str)) = false := by decide)
    (pe : ∀ {to : TE} {t : TA}, PE X (.Name x px) to → PA X [e] t → PE X (.Call (.Attribute (.Name x px) "extend" apos) [e] [] p0) (tBM X.K "list" rExtR to t) := by intro to t h1 h2; exact pe_bm PySem.F.plainAttrs_list PySem.F.slot_list_extend PySem.F.type_list_extend mt_extR h1 h2)
    (hs : swapsWith (.Call (.Attribute (.Name x px) "extend" apos) [e] [] p0) none pos.line X.env = pure false := by rfl) (h1 : starEach (e :: []) X.env = (false, eval e X.env) :: starEach [] X.env := by exact star1 rfl) :
    JB X W E Γx eα eβ Γ (.Expr (.Call (.Attribute (.Name x px) "extend" apos) [e] [] p0) pos :: rest) (bnd (mV fe) fun d => bnd (oL d) fun es => bnd (oExt ds es) kk) := fun μ h σ H D s p => by
  have eq := sg_get q
  obtain ⟨u, h1', h2⟩ := s.sl j _ eq
  obtain ⟨p', xs, rfl, f, a, b⟩ := own_l h2
  refine wcons (wS.of (ps_expr (pe (pe_var hN hv hd hcd) (pa_cons pe_w pa_nil h1)) hs) ⟨.ref p', h1', .inl ⟨rfl, xs, SqL.of a⟩, PoN.val he s w p fun d h3 μ3 H3 u3 sw s3 v3 p3 => ?_⟩)
  obtain ⟨u', k1, k2⟩ := s3.sl j _ eq
  rw [h1'] at k1; cases k1
  obtain ⟨p'', ys, e', f', a', b'⟩ := own_l k2
  cases e'
  unfold oL at p3
  split at p3
  · rename_i es
    cases v3 with
    | fl z1 z2 =>
      rename_i pa zs
      have p4 : PoN (bs X) E μ3 h3.length H3 D W Γx eα eβ (bnd (oExt ds es) kk h3) := p3
      unfold oExt at p4
      by_cases hl : ds.length + es.length ≤ LIM
      · rw [if_pos hl] at p4
        refine ⟨p', _, ys, _, rfl, rfl, a', z1.rd, by rw [b'.len, z2.len]; exact lim_le hl, ?_⟩
        have mu : Mut (H3 p') := by rw [a']; trivial
        have g := gw_mut (o := .lst (ys ++ zs)) mu
        have s4 := s3.chg (o := .lst (ys ++ zs)) (r' := .l (ds ++ es)) rfl eq h1' f'.1 f'.2 mu (.l f' upd_same (VRs.mono g (fun _ _ => rfl) (Nat.le_refl _) _ _ (b'.append z2)))
        rw [hΓ] at s4
        exact hk (ds ++ es) μ3 h3 σ _ D s4 (PoN.at' p4 (StW.of g))
      · rw [if_neg hl] at p4; exact p4.elim
  · exact p3.elim
end
end P
/-! P: stores into lists and dicts, built-ins, dicts. -/
namespace P
open PySem PySem.Spec PyProof.Rows L2 G
section
variable {α β γ δ : Type} {X : Cx} {W : WX} {E : Ent} {Γx : Option Sl} {eα : α → Sl} {eβ : β → Sl} {Γ Γ' : Sl} {e a b c o i f tg iter elt : Expr} {es : List Expr} {pos apos p0 p1 p2 px : Pos} {fe fo fi fa fb fc ff : M RV} {rest body : List Stmt} {os : List Nat} {n k : Nat} {scope : Scope} {src : M (List FV)}
/-! ### xs[i] = e, d[k] = e -/
def rSetG : TSet := fun o i v H Q => rSetL o i v H Q ∨ ∃ a H', o = .ref a ∧ DPut H a i v H' ∧ Q H'
theorem set_g (hu : X.A.units + 1 < cLine) : PSet X rSetG := by
  intro pins s σ H o i v ov iv u Q I ro ri rv h
  rcases h with h | ⟨a, H', rfl, g, q⟩
  · exact set_list pins s σ H o i v ov iv u Q I ro ri rv h
  · obtain rfl : ov = Value.ref a := ro
    exact d_setItem hu I g ri rv fun s' I' => ⟨H', I', q⟩
def putF (kvs : List (Key × FV)) (k : Key) (v : FV) : List (Key × FV) :=
  if (kvs.any fun kv => decide (kv.1 = k)) = true then kvs.map (fun kv => if kv.1 = k then (kv.1, v) else kv) else kvs ++ [(k, v)]
theorem KvR.any {κ : Type} [DecidableEq κ] {B : Bs} {H : Hp} {μ : Nat → Addr} {n : Nat} (k : κ) : ∀ {ds : List (κ × FV)} {ws : List (κ × V)}, KvR B H μ n ds ws → (ws.any fun kv => decide (kv.1 = k)) = (ds.any fun kv => decide (kv.1 = k))
  | _, _, .nil => rfl
  | _, _, .cons a b => by rw [List.any_cons, List.any_cons, KvR.any k b, a.1]
theorem KvR.map {B : Bs} {H : Hp} {μ : Nat → Addr} {n : Nat} {k : Key} {v : V} {d : FV} (m : VR B H μ n d v) : ∀ {ds : List (Key × FV)} {ws : List (Key × V)}, KvR B H μ n ds ws → KvR B H μ n (ds.map fun kv => if kv.1 = k then (kv.1, d) else kv) (ws.map fun kv => if kv.1 = k then (kv.1, v) else kv)
  | _, _, .nil => .nil
  | p :: _, q :: _, .cons h t => by
    refine .cons ?_ (KvR.map m t)
    by_cases e : p.1 = k
    · dsimp only; rw [if_pos e, if_pos (h.1 ▸ e)]; exact ⟨h.1, m⟩
    · dsimp only; rw [if_neg e, if_neg (h.1 ▸ e)]; exact h
theorem KvR.app {κ : Type} {B : Bs} {H : Hp} {μ : Nat → Addr} {n : Nat} {k : κ} {v : V} {d : FV} (m : VR B H μ n d v) : ∀ {ds : List (κ × FV)} {ws : List (κ × V)}, KvR B H μ n ds ws → KvR B H μ n (ds ++ [(k, d)]) (ws ++ [(k, v)])
  | _, _, .nil => .cons ⟨rfl, m⟩ .nil
  | _, _, .cons h t => .cons h (KvR.app m t)
theorem KvR.put {B : Bs} {H : Hp} {μ : Nat → Addr} {n : Nat} {k : Key} {v : V} {d : FV} {ds : List (Key × FV)} {ws : List (Key × V)} (m : VR B H μ n d v) (h : KvR B H μ n ds ws) : KvR B H μ n (putF ds k d) (putK ws k v) := by
  unfold putK putF
  rw [h.any k]
  split
  · exact h.map m
  · exact h.app m
/-- d[k] = e, the slot's own dict -/
def gPutK (kvs : List (Key × FV)) (k : RV) (v : FV) : Option (List (Key × FV)) := match k with
  | .v d => match d.key with
    | some kk => if kvs.length < LIM then some (putF kvs kk v) else none
    | none => none
  | _ => none
def oPut (kvs : List (Key × FV)) (k : RV) (v : FV) : M (List (Key × FV)) := lift fun _ => gPutK kvs k v
theorem PoN.lift {δ : Type} {B : Bs} {μ : Nat → Addr} {n : Nat} {H : Hp} {D : Ends} {o : FH → Option δ} {h : FH} {k : δ → M (Fl α β)} (p : PoN B E μ n H D W Γx eα eβ (P.bnd (P.lift o) k h)) : ∃ d, o h = some d ∧ PoN B E μ n H D W Γx eα eβ (k d h) := by
  unfold P.bnd P.lift at p
  cases q : o h with
  | none => rw [q] at p; exact p.elim
  | some d => rw [q] at p; exact ⟨d, rfl, p⟩
theorem jb_dput (j : Nat) {kvs : List (Key × FV)} {x : Str} {ppos : Pos} {Γ' : List (Key × FV) → Sl} {kk : List (Key × FV) → M (Fl α β)} (hr : Room k X.A) (w : SubX Γx Γ) (he : JE X W E Γ e fe) (hi : JE X W E Γ i fi) (hk : ∀ d, JB X W E Γx eα eβ (Γ' d) rest (kk d)) (q : sg Γ j = some (.d kvs) := by rfl) (hΓ : ∀ d, Γ.set j (some (.d d)) = Γ' d := by intro _; rfl)
    (hN : X.N[j]? = some x := by rfl) (hv : Vis X.env.scope x := by first | exact Or.inl rfl | exact Or.inr (Or.inl rfl) | exact Or.inr (Or.inr rfl)) (hd : (x == ("__debug__" : Str)) = false := by decide) (hcd : (x == ("__classdict__" : Str)) = false := by decide)
    (hp : ∀ {to ti te : TE}, PE X (.Name x px) to → PE X i ti → PE X e te → PS X (.Assign [.Subscript (.Name x px) i ppos] e pos) (tAsg te (gSub to ti rSetG)) := by
      intro to ti te h1 h2 h3; exact ps_asg h3 (pg_sub h1 h2 (set_g (hu_of (by assumption))))) :
    JB X W E Γx eα eβ Γ (.Assign [.Subscript (.Name x px) i ppos] e pos :: rest) (bnd (mV fe) fun v => bnd fi fun k => bnd (oPut kvs k v) kk) := fun μ h σ H D s p =>
  wcons (wS.of (hp (pe_var hN hv hd hcd) pe_w pe_w) (PoN.val he s w p fun v h1 μ1 H1 u sw s1 v1 p1 => by
    have eq := sg_get q
    obtain ⟨u0, h1', _⟩ := s1.sl j _ eq
    refine ⟨u0, h1', hi μ1 h1 σ H1 _ s1 (Po.mono (PoN.bnd s1 w p1) fun iv h2 μ2 H2 eq2 s2 hr2 p2 ui rui => ?_)⟩
    obtain ⟨s3, p3⟩ := p2
    obtain ⟨u', k1, k2⟩ := s3.sl j _ eq
    rw [h1'] at k1; cases k1
    obtain ⟨p', ws, rfl, f', a', b'⟩ := own_d k2
    have v3 := s2.vr v1
    obtain ⟨kv, z, p4⟩ := p3.lift
    unfold gPutK at z
    split at z
    · rename_i d
      split at z
      · rename_i kk0 qk
        split at z
        · rename_i hl
          cases z
          have eu := key_ok rui qk
          subst eu
          refine .inr ⟨p', _, rfl, DPut.k a' (by rw [b'.len]; exact lim_lt hl), ?_⟩
          have mu : Mut (H2 p') := by rw [a']; trivial
          have g := gw_mut (o := .dK (putK ws kk0 u)) mu
          have s4 := s3.chg (o := .dK (putK ws kk0 u)) (r' := .d (putF kvs kk0 v)) rfl eq h1' f'.1 f'.2 mu (.d f' upd_same ((b'.put v3).mono g (fun _ _ => rfl) (Nat.le_refl _)))
          rw [hΓ] at s4
          exact hk (putF kvs kk0 v) μ2 _ σ _ D s4 (PoN.at' p4 (StW.of g))
        · cases z
      · cases z
    · cases z))
/-! ### .. of objects with numbers -/
def gSet (v : FV) (x i : RV) (h : FH) : Option FH := match x, i with
  | .v (.ref m), .v d => match h[m]? with
    | some (.lst ds) => match d with
      | .int j => (ixN ds.length j).map fun n => h.set m (.lst (ds.set n v))
      | _ => none
    | some (.dK kvs) => match d.key with
      | some kk => if kvs.length < LIM then some (h.set m (.dK (putF kvs kk v))) else none
      | none => none
    | _ => none
  | _, _ => none
def oSet (v : FV) (x i : RV) : M Unit := fun h => match gSet v x i h with
  | some h' => .ok () h'
  | none => .no
theorem jb_put {ppos : Pos} {kk : M (Fl α β)} (hr : Room k X.A) (w : SubX Γx Γ) (he : JE X W E Γ e fe) (ho : JE X W E Γ o fo) (hi : JE X W E Γ i fi) (hk : JB X W E Γx eα eβ Γ rest kk)
    (hp : ∀ {to ti te : TE}, PE X o to → PE X i ti → PE X e te → PS X (.Assign [.Subscript o i ppos] e pos) (tAsg te (gSub to ti rSetG)) := by
      intro to ti te h1 h2 h3; exact ps_asg h3 (pg_sub h1 h2 (set_g (hu_of (by assumption))))) :
    JB X W E Γx eα eβ Γ (.Assign [.Subscript o i ppos] e pos :: rest) (bnd (mV fe) fun v => bnd fo fun x => bnd fi fun y => bnd (oSet v x y) fun _ => kk) := fun μ h σ H D s p =>
  wcons (wS.of (hp pe_w pe_w pe_w) (PoN.val he s w p fun v h1 μ1 H1 u sw s1 v1 p1 => by
    refine ho μ1 h1 σ H1 _ s1 (Po.mono (PoN.bnd s1 w p1) fun x h3 μ3 H3 eq3 s3 hr3 p3 ux rux => ?_)
    obtain ⟨sr3, p3⟩ := p3
    refine hi μ3 h3 σ H3 _ sr3 (Po.mono (PoN.bnd sr3 w p3) fun iv h4 μ4 H4 eq4 s4 hr4 p4 ui rui => ?_)
    obtain ⟨sr4, p4⟩ := p4
    have v4 := s4.vr (s3.vr v1)
    have rx4 := rux.step s4
    unfold P.bnd oSet at p4
    cases z : gSet v x iv h4 with
    | none => rw [z] at p4; exact p4.elim
    | some h5 =>
      rw [z] at p4
      unfold gSet at z
      split at z
      · rename_i m dd
        obtain ⟨rfl, lm⟩ := ref_inv rx4
        split at z
        · rename_i ds q
          split at z
          · rename_i j
            cases qj : ixN ds.length j with
            | none => rw [qj] at z; cases z
            | some n =>
              rw [qj] at z
              cases z
              obtain ⟨xs, h6, h7⟩ := hr4.lst q
              have mu : Mut (H4 (μ4 m)) := by rw [h6]; trivial
              refine .inl ⟨μ4 m, xs, j, n, rfl, rr_int rui, h6, by rw [h7.len]; exact qj, ?_⟩
              have st : Step μ4 h4.length H4 μ4 (h4.set m (.lst (ds.set n v))).length (upd H4 (μ4 m) (.lst (xs.set n u))) := by rw [List.length_set]; exact Step.mut lm mu
              have hr5 := hr4.set (o := .lst (ds.set n v)) (u := .lst (xs.set n u)) lm ⟨_, upd_same, VRs.mono (gw_mut mu) (fun _ _ => rfl) (Nat.le_refl _) _ _ (h7.set n v4)⟩
              exact hk μ4 _ σ _ D (sr4.step st hr5) (PoN.at' p4 st.w)
          · cases z
        · rename_i kvs q
          split at z
          · rename_i kk qk
            split at z
            · rename_i hl
              cases z
              obtain ⟨ws, h6, h7⟩ := hr4.at' m _ q
              have mu : Mut (H4 (μ4 m)) := by rw [h6]; trivial
              have eu := key_ok rui qk
              subst eu
              refine .inr ⟨μ4 m, _, rfl, DPut.k h6 (by rw [h7.len]; exact lim_lt hl), ?_⟩
              have st : Step μ4 h4.length H4 μ4 (h4.set m (.dK (putF kvs kk v))).length (upd H4 (μ4 m) (.dK (putK ws kk u))) := by rw [List.length_set]; exact Step.mut lm mu
              have hr5 := hr4.set (o := .dK (putF kvs kk v)) (u := .dK (putK ws kk u)) lm ⟨_, upd_same, (h7.put v4).mono (gw_mut mu) (fun _ _ => rfl) (Nat.le_refl _)⟩
              exact hk μ4 _ σ _ D (sr4.step st hr5) (PoN.at' p4 st.w)
            · cases z
          · cases z
        · cases z
      · cases z))
/-! ### all, any, sum of lists -/
/-! ### dict(d), {k: v, ..} -/
def gDict (x : RV) (h : FH) : Option RV := match x.dict h with
  | some kvs => some (.d kvs)
  | none => none
def keyOf {β : Type} (d : FV) (k : Key → M β) : M β := match d.key with
  | some kk => k kk
  | none => fail
def JPs (X : Cx) (W : WX) (E : Ent) (Γ : Sl) (pos : Pos) (keys : List (Option Expr)) (values : List Expr) (c : (List (Key × FV) → M RV) → M RV) : Prop := ∃ trs, PPs X pos keys values trs ∧ ∀ (k : List (Key × FV) → M RV) μ0 n0 H0 μ h σ H (R : RV → FH → (Nat → Addr) → Hp → Prop) (Q : List (V × V) → Hp → Prop), SR (bs X) E μ Γ h σ H → Step μ0 n0 H0 μ h.length H →
  Po (bs X) μ0 n0 H0 R (fun c d H' => W c d σ H') (c k h) → (∀ kvs h' μ' H' ws, Step μ h.length H μ' h'.length H' → HR (bs X) μ' h' H' → KvR (bs X) H' μ' h'.length kvs ws → Po (bs X) μ0 n0 H0 R (fun c d H' => W c d σ H') (k kvs h') → Q (ws.map fun kv => (L2.kV kv.1, kv.2)) H') → tPairs trs σ H Q
theorem jps_nil : JPs X W E Γ pos [] [] (fun k => k []) := ⟨_, pps_nil, fun k μ0 n0 H0 μ h σ H R Q s _ p q => q [] h μ H [] (Step.refl _ _ _) s.hr .nil p⟩
theorem key_ok' {B : Bs} {H : Hp} {μ : Nat → Addr} {n : Nat} {d : FV} {u : V} {k : Key} (q : VR B H μ n d u) (e : d.key = some k) : u = L2.kV k := by
  cases q with
  | int i => cases e; rfl
  | str x => cases e; rfl
  | _ => cases e
theorem jps_cons {keys : List (Option Expr)} {values : List Expr} {f : (List (Key × FV) → M RV) → M RV} (ha : JE X W E Γ a fa) (hb : JE X W E Γ b fb) (h : JPs X W E Γ pos keys values f) : JPs X W E Γ pos (some a :: keys) (b :: values) (fun k => bnd (mV fa) fun x => bnd (mV fb) fun y => keyOf x fun kk => f fun r => k ((kk, y) :: r)) := by
  obtain ⟨trs, pp, q⟩ := h
  refine ⟨_, pps_cons pe_w pe_w pp, fun k μ0 n0 H0 μ h σ H R Q s s0 p qk => ?_⟩
  refine ha.val s (Po.mono (Po.bindAt p s0) fun d h1 μ1 H1 _ s1 hr1 p1 u v1 => hb.val (s.step s1 hr1) (Po.mono (Po.bindAt p1 (s0.trans s1)) fun d' h2 μ2 H2 _ s2 hr2 p2 v v2 => ?_))
  unfold keyOf at p2
  cases z : d.key with
  | none => rw [z] at p2; exact p2.elim
  | some kk =>
    rw [z] at p2
    have eu := key_ok' v1 z
    subst eu
    refine q (fun r => k ((kk, d') :: r)) μ0 n0 H0 μ2 h2 σ H2 R _ ((s.step s1 hr1).step s2 hr2) ((s0.trans s1).trans s2) p2 fun kvs h5 μ5 H5 ws s5 hr5 rws p5 => ?_
    exact qk ((kk, d') :: kvs) h5 μ5 H5 ((kk, v) :: ws) ((s1.trans s2).trans s5) hr5 (.cons ⟨rfl, s5.vr v2⟩ rws) p5
def mergeF (kvs more : List (Key × FV)) : List (Key × FV) := more.foldl (fun acc kv => putF acc kv.1 kv.2) kvs
theorem KvR.merge {B : Bs} {H : Hp} {μ : Nat → Addr} {n : Nat} {more : List (Key × FV)} {ws : List (Key × V)} (h : KvR B H μ n more ws) : ∀ {kvs : List (Key × FV)} {us : List (Key × V)}, KvR B H μ n kvs us → KvR B H μ n (mergeF kvs more) (mergeK us ws) := by
  unfold KvR at h
  induction h with
  | nil => exact fun q => q
  | @cons p q ps qs h t ih =>
    intro kvs us r
    have e : KvR B H μ n (putF kvs p.1 p.2) (putK us q.1 q.2) := by
      rw [← h.1]
      exact KvR.put h.2 r
    exact ih e
def oDis (kvs : List (Key × FV)) : M RV := if kvs.length ≤ 15 then pur (.d (mergeF [] kvs)) else fail
theorem je_dis {keys : List (Option Expr)} {values : List Expr} {f : (List (Key × FV) → M RV) → M RV} (h : JPs X W E Γ pos keys values f) (hall : keys.all (·.isSome) = true := by rfl) (hl : keys.length = values.length := by rfl) (h0 : keys ≠ [] := by exact fun z => nomatch z)
    (h15 : keys.length ≤ 15 := by decide) : JE X W E Γ (.Dict keys values pos) (f oDis) := fun μ h0' σ H Q s p => by
  obtain ⟨trs, pp, q⟩ := h
  refine wE.of (pe_disp pp hall hl h0 h15) (fun dp hp => ?_)
  have sn : Same H (upd H dp (.dK [])) := same_new hp
  have nd : ∀ i, i < h0'.length → μ i ≠ dp := fun i hi z => s.hr.cls hi (by rw [z]; exact hp)
  have s0 : Step μ h0'.length H μ h0'.length (upd H dp (.dK [])) := Step.same sn
  refine q oDis μ h0'.length H μ h0' σ _ _ _ (s.step s0 (s.hr.same sn)) s0 p fun kvs h1 μ1 H1 ws s1 hr1 rws p1 => ?_
  obtain ⟨e1, nd1⟩ := Fre.keep s1 upd_same nd
  have t1 := s0.trans s1
  unfold oDis at p1
  split at p1
  · rename_i hl15
    have mu : Mut (H1 dp) := by rw [e1]; trivial
    refine ⟨e1, ws, rfl, by rw [rws.len]; exact hl15, ?_⟩
    have p2 : Po (bs X) μ h0'.length H _ _ (Rs.ok (RV.d (mergeF [] kvs)) h1) := p1
    refine p2 μ1 _ (t1.own hp mu) (hr1.own mu nd1) _ (.d ⟨hp, nd1⟩ upd_same ?_)
    exact (KvR.merge rws .nil).mono (gw_mut mu) (fun _ _ => rfl) (Nat.le_refl _)
  · exact p1.elim
/-! ### the module's tuples of texts, dicts of texts -/
def tupOf (o : Obj) (xs : List Str) : Bool := (o.cls == .type "tuple") && match o.data with
  | .seq its _ => decide (its.size ≤ 100) && (its.toList.length == xs.length) && (its.toList.zip xs).all fun p => Value.isStrOf p.2 p.1
  | _ => false
theorem gc_tup {K : PySem.W.Frag} {mg : Str → Option Value} {x : Str} {a : Addr} {o : Obj} {xs : List Str} (hm : mg x = some (.ref a)) (hl : K.lookup a = some o) (ht : tupOf o xs = true) : GC K mg x (.tup (xs.map .str)) := by
  obtain ⟨cls, dd, data, sl⟩ := o
  unfold tupOf at ht
  rw [Bool.and_eq_true] at ht
  obtain ⟨hc, hd⟩ := ht
  have hc' : cls = .type "tuple" := by simpa using hc
  cases data with
  | seq its n =>
    simp only [Bool.and_eq_true] at hd
    obtain ⟨⟨h1, h2⟩, h3⟩ := hd
    have h1' : its.size ≤ 100 := by simpa using h1
    have key : ∀ (us : List Value) (xs : List Str), us.length = xs.length → ((us.zip xs).all fun p => Value.isStrOf p.2 p.1) = true → Vals (xs.map V.str) us := by
      intro us
      induction us with
      | nil => intro xs e _; cases xs with
        | nil => exact .nil
        | cons _ _ => cases e
      | cons u us ih =>
        intro xs e f
        cases xs with
        | nil => cases e
        | cons x xs =>
          rw [List.zip_cons_cons, List.all_cons, Bool.and_eq_true] at f
          obtain ⟨t, e1⟩ := Value.isStrOf_shape (x := x) (v := u) f.1
          exact .cons ⟨t, e1⟩ (ih xs (Nat.succ.inj e) f.2)
    have vs := key its.toList xs (by simpa using h2) h3
    refine ⟨.ref a, .ref a, hm, rfl, fun B H μ n' hB => .tup (xs := xs.map V.str) (.inr ⟨_, its, n, by rw [hB]; exact hl, hc', rfl, Nat.le_trans h1' (by decide), vs⟩) ?_⟩
    clear key vs h1 h2 h3 h1' hl hm
    induction xs with
    | nil => exact .nil
    | cons x xs ih => exact .cons (.str x) ih
  | _ => cases hd
/-! ### the module's dicts of texts -/
/-! ### a.join(xs) -/
def txts : List FV → Option (List Str)
  | [] => some []
  | .str x :: r => (txts r).map (x :: ·)
  | _ => none
theorem txts_ok {B : Bs} {H : Hp} {μ : Nat → Addr} {n : Nat} : ∀ {ds : List FV} {xs : List V} {ys : List Str}, VRs B H μ n ds xs → txts ds = some ys → xs = ys.map V.str
  | [], _, _, r, e => by cases r; cases e; rfl
  | .str x :: ds, _, ys, r, e => by
    cases r with
    | cons a b =>
      cases a
      rw [txts] at e
      cases q : txts ds with
      | none => rw [q] at e; cases e
      | some zs => rw [q] at e; cases e; rw [txts_ok b q]; rfl
  | .non :: ds, _, _, r, e => by simp [txts] at e
  | .bl _ :: ds, _, _, r, e => by simp [txts] at e
  | .int _ :: ds, _, _, r, e => by simp [txts] at e
  | .tup _ :: ds, _, _, r, e => by simp [txts] at e
  | .ref _ :: ds, _, _, r, e => by simp [txts] at e
  | .fl _ :: ds, _, _, r, e => by simp [txts] at e
  | .sl _ :: ds, _, _, r, e => by simp [txts] at e
  | .fd _ _ :: ds, _, _, r, e => by simp [txts] at e
  | .ft _ _ :: ds, _, _, r, e => by simp [txts] at e
  | .fo _ _ _ :: ds, _, _, r, e => by simp [txts] at e
def gJoin (x : RV) (y : RV) (h : FH) : Option RV := match x, y.seq h with
  | .v (.str a), some (_, ds) => match txts ds with
    | some ys => if (ys.map (·.length)).sum + ys.length * a.length ≤ LIM then some (.v (.str (Txt.join a ys))) else none
    | none => none
  | _, _ => none
def oStr (x : RV) : M Unit := match x with | .v (.str _) => pur () | _ => fail
theorem je_join (ho : JE X W E Γ o fo) (he : JE X W E Γ e fe) (h1 : starEach [e] X.env = [(false, eval e X.env)] := by rfl) (h2 : attributeBase o "join" X.env (eval o X.env) = eval o X.env := by rfl) (h3 : (apos.endLine == pos.line) = true := by rfl) :
    JE X W E Γ (.Call (.Attribute o "join" apos) [e] [] pos) (bnd fo fun x => bnd (oStr x) fun _ => bnd fe fun y => oB gJoin x y) := fun μ h σ H Q s p =>
  wE.of (pe_join pe_w pe_w h1 h2 h3) (ho μ h σ H _ s (Po.mono (Po.bind p) fun x h1 μ1 H1 eq1 s1 hr1 p1 u ru => by
    cases x with
    | v d =>
      cases d with
      | str a =>
        obtain rfl := rr_str ru
        have p1' : Po (bs X) μ1 h1.length H1 _ _ ((bnd fe fun y => oB gJoin (.v (.str a)) y) h1) := p1
        refine ⟨⟨a, rfl⟩, he μ1 h1 σ H1 _ (s.step s1 hr1) (Po.mono (Po.bind p1') fun y h2 μ2 H2 _ s2 hr2 p2 v rv => ?_)⟩
        obtain ⟨z, hz, p3⟩ := p2.lift
        unfold gJoin at hz
        split at hz
        · rename_i a' bb ds q1 q2
          cases q1
          split at hz
          · rename_i ys q3
            split at hz
            · rename_i hl
              cases hz
              obtain ⟨a', xs, rfl, h4, h5⟩ := seqE_ok hr2 rv q2
              obtain rfl := txts_ok h4 q3
              exact ⟨a, a', ys, rfl, rfl, h5, Nat.le_trans hl (by decide), p3.last hr2 (Same.refl _) _ (.v (.str _))⟩
            · cases hz
          · cases hz
        · cases hz
      | _ => exact p1.elim
    | _ => exact p1.elim))
/-! ### d.get(k, e) -/
def isDk (x : RV) (h : FH) : Bool := (x.dict h).isSome
def oDk (x : RV) : M Unit := fun h => if isDk x h = true then .ok () h else .no
def gGet (x : RV) (y z : FV) (h : FH) : Option FV := match x.dict h, y.key with
  | some kvs, some k => some ((lookK kvs k).getD z)
  | _, _ => none
def oGet (x : RV) (y z : FV) : M RV := lift fun h => (gGet x y z h).map .v
theorem rd_isD {H : Hp} {a : Addr} {ws : List (Key × V)} (h : Rd H a (.dK ws)) : IsD H a := .inl ⟨ws, h⟩
/-- what stands behind a result stays readable -/
theorem RR.dict_step {B : Bs} {H0 H1 H2 : Hp} {μ1 μ2 : Nat → Addr} {h1 h2 : FH} {x : RV} {u : V} {kvs : List (Key × FV)} (hr2 : HR B μ2 h2 H2) (r : RR B H0 μ1 h1.length H1 x u) (s : Step μ1 h1.length H1 μ2 h2.length H2) (e : x.dict h2 = some kvs) : ∃ a ws, u = .ref a ∧ Rd H2 a (.dK ws) ∧ KvR B H2 μ2 h2.length kvs ws := dict_ok hr2 (r.step s) e
theorem je_get (hr : Room k X.A) (ho : JE X W E Γ o fo) (he : JE X W E Γ e fe) (hf : JE X W E Γ f ff) (m : M2 X o "get" apos e f pos := by exact ⟨rfl, rfl, rfl, rfl⟩) : JE X W E Γ (.Call (.Attribute o "get" apos) [e, f] [] pos) (bnd fo fun x => bnd (oDk x) fun _ => bnd (mV fe) fun y => bnd (mV ff) fun z => oGet x y z) := fun μ h σ H Q s p =>
  wE.of (pe_dget2 (hu_of hr) pe_w pe_w pe_w m) (ho μ h σ H _ s (Po.mono (Po.bind p) fun x h1 μ1 H1 eq1 s1 hr1 p1 u ru => by
    unfold P.bnd oDk at p1
    by_cases ht : isDk x h1 = true
    · rw [if_pos ht] at p1
      cases z0 : x.dict h1 with
      | none => unfold isDk at ht; rw [z0] at ht; cases ht
      | some kvs =>
        obtain ⟨a, ws, rfl, e1, e2⟩ := dict_ok hr1 ru z0
        have p1' : Po (bs X) μ1 h1.length H1 _ _ ((bnd (mV fe) fun y => bnd (mV ff) fun z => oGet x y z) h1) := p1
        refine ⟨a, rfl, rd_isD e1, he.val (s.step s1 hr1) (Po.mono (Po.bind p1') fun y h2 μ2 H2 _ s2 hr2 p2 v v2 => hf.val ((s.step s1 hr1).step s2 hr2) (Po.mono (Po.bind p2) fun z h3 μ3 H3 _ s3 hr3 p3 w v3 => ?_))⟩
        obtain ⟨r, hz, p6⟩ := p3.lift
        cases g : gGet x y z h3 with
        | none => rw [g] at hz; cases hz
        | some fr =>
          rw [g] at hz
          cases hz
          unfold gGet at g
          split at g
          · rename_i kvs' kk g1 g2
            cases g
            obtain ⟨a', ws', ea, a1, a2⟩ := RR.dict_step hr3 ru (s2.trans s3) g1
            cases ea
            have ky : v = kV kk := key_ok' v2 g2
            subst ky
            refine ⟨_, .inl ⟨ws', kk, a1, rfl, rfl⟩, p6.last hr3 (Same.refl _) _ (.v ?_)⟩
            have lk := a2.look kk
            cases q' : lookK kvs' kk with
            | some dd =>
              rw [q'] at lk
              obtain ⟨vv, b1, b2⟩ := lk
              rw [b1]; exact b2
            | none =>
              rw [q'] at lk
              rw [lk]; exact v3
          · cases g
    · rw [if_neg ht] at p1; exact p1.elim))
/-! ### x += e -/
/-! ### default values -/
/-- a def called without its last arguments, whose values are ds -/
structure HasD (P : Program) (w : World) (K : PySem.W.Frag) (mg : Str → Option Value) (base : Heap) (n : Nat) (x : Str) (ps : List Str) (ds : List FV) (f : FDef) : Prop where
  ex : ∃ a fd dvs us, FnOk P w K mg base (L2.CX P w) n a fd ps (spP ⟨K, mg⟩ f) ∧ mg x = some (.ref a) ∧ PySem.W.keepIn K (.ref a) = true ∧ Binds K fd ps us ∧ Vals dvs us ∧ ∀ B H μ n, B.K = K → VRs B H μ n ds dvs
end
end P
/-! P: defs, the end of a law. -/
namespace P
open PySem PySem.Spec PyProof.Rows L2 G
/-! ### defs -/
theorem Sub.rep : ∀ {Γ : Sl} {n : Nat}, Γ.length = n → Sub (List.replicate n none) Γ
  | [], _, e => by cases e; exact .nil
  | x :: Γ, _, e => by cases e; exact .drop (Sub.rep rfl)
abbrev eU (n : Nat) : Unit → Sl := fun _ => List.replicate n none
abbrev eN : Empty → Sl := fun _ => []
/-- a def by its body -/
def toF (m : M (Fl Unit Empty)) : M RV := bnd m fun f => match f with
  | .nx _ => pur (.v .non)
  | .rt r => pur r
  | .bk b => nomatch b
  | .ct b => nomatch b
def gam (ds : List FV) (nL : Nat) : Sl := ds.map (fun d => some (.v d)) ++ List.replicate nL none
theorem SR.start {B : Bs} {H : Hp} {μ : Nat → Addr} {h : FH} {ds : List FV} {vs : List V} {N : List Str} {nL : Nat} (hr : HR B μ h H) (r : VRs B H μ h.length ds vs) (hN : N.length - vs.length = nL) : SR B ⟨μ, h.length, H⟩ μ (gam ds nL) h (L2.start N vs) H := by
  have key : ∀ {ds : List FV} {vs : List V}, VRs B H μ h.length ds vs → ∀ (i : Nat) (r : RV), (gam ds nL)[i]? = some (some r) → ∃ v, r = .v v ∧ ∃ u, (vs.map some ++ List.replicate nL none)[i]? = some (some u) ∧ VR B H μ h.length v u := by
    intro ds
    induction ds with
    | nil =>
      intro vs r i v e
      cases r
      unfold gam at e
      rw [List.map_nil, List.nil_append, List.getElem?_replicate] at e
      split at e <;> cases e
    | cons d ds ih =>
      intro vs r i v e
      cases r with
      | cons a b =>
        cases i with
        | zero =>
          have e' : RV.v d = v := Option.some.inj (Option.some.inj e)
          subst e'
          exact ⟨d, rfl, _, rfl, a⟩
        | succ i => exact ih b i v e
  refine ⟨Step.refl _ _ _, hr, ?_, fun i r' e => ?_, fun i j r1 r2 p e1 e2 o1 => ?_⟩
  · unfold L2.start gam
    have := r.len
    simp only [List.length_append, List.length_map, List.length_replicate]
    omega
  · obtain ⟨v, rfl, u, h1, h2⟩ := key r i r' e
    unfold L2.start
    rw [hN]
    exact ⟨u, h1, .v h2⟩
  · obtain ⟨v, rfl, _⟩ := key r i r1 e1
    cases o1
section
variable {P : Program} {w : World} {K : PySem.W.Frag} {mg : Str → Option Value} {base : Heap} {x qual : Str} {st : Stmt} {a : Addr} {fd : FuncData} {N ps : List Str} {k n : Nat} {f : FDef} {b : List FV → M (Fl Unit Empty)} {params : Arguments} {body : List Stmt} {scope : Scope} {dvs : List V} {kws : List (Str × V)}
abbrev CxP (P : Program) (w : World) (K : PySem.W.Frag) (mg : Str → Option Value) (base : Heap) (N : List Str) (qual : Str) (scope : Scope) (f : Addr) (cdv : Value) (A : Around) (outer : List Env) (s : Shared) (H : Hp) (E : XK) : Cx :=
  cxOf (L2.CX P w) P w K mg base N qual scope f cdv A outer s H E
/-- f on ds is the body's block, or nothing is said -/
def ArgOk (f : FDef) (b : List FV → M (Fl Unit Empty)) (nP : Nat) (φ : List FV → Prop) : Prop := ∀ ds, f ds = fail ∨ (ds.length = nP ∧ f ds = toF (b ds) ∧ φ ds)
theorem spP_len {nP : Nat} {φ : List FV → Prop} (ao : ArgOk f b nP φ) {vs : List V} {H : Hp} {Q : VK} {E : XK} (q : spP ⟨K, mg⟩ f vs H Q E) : vs.length = nP := by
  obtain ⟨μ, h, ds, hr, r, p⟩ := q
  rcases ao ds with z | ⟨z, _, _⟩
  · rw [z] at p; exact p.elim
  · rw [r.len, z]
theorem fn_run {X : Cx} {nP nL : Nat} {W : WX} {outW : XK} (hK : X.K = K) (hmg : X.mg = mg) (hW : W = fun cls d _ H => outW cls d H) {sts : List Stmt} {vs : List V} {H : Hp} {Q : VK} {E : XK} (hE : outW = E) (ao : ArgOk f b nP fun ds => ∀ E : Ent, JB X W E none (eU (nP + nL)) eN (gam ds nL) sts (b ds)) (hN : X.N.length - nP = nL)
    (q : spP ⟨K, mg⟩ f vs H Q E) : wSs X sts { nx := fun _ H' => Q .non H', rt := Q, bk := fun _ _ => False, ct := fun _ _ => False } (L2.start X.N vs) H := by
  have hl := spP_len ao q
  subst hK hmg hW hE
  obtain ⟨μ, h, ds, hh, r, p⟩ := q
  rcases ao ds with z | ⟨hd, z, jb⟩
  · rw [z] at p; exact p.elim
  · rw [z] at p
    refine jb ⟨μ, h.length, H⟩ μ h _ H _ (SR.start hh r (by rw [hl]; exact hN)) ?_
    unfold toF P.bnd at p
    cases y : b ds h with
    | no => rw [y] at p; exact p
    | ex e h' =>
      rw [y] at p
      exact fun μ' σ' H' c d _ s' x' => p μ' H' c d s'.1 s'.2 x'
    | ok fl h' =>
      rw [y] at p
      cases fl with
      | nx u => exact fun μ' σ' H' _ s' => p μ' H' s'.st s'.hr .non (.v .non)
      | rt rv => exact fun μ' H' u _ s' hr' ru => p μ' H' s' hr' u ru
      | bk e => cases e
      | ct e => cases e
def b0 (g : M (Fl Unit Empty)) : List FV → M (Fl Unit Empty) := fun vs => match vs with | [] => g  | _ => fail
def f1 (g : FV → M RV) : FDef := fun vs => match vs with | [a0] => g a0 | _ => fail
def b1 (g : FV → M (Fl Unit Empty)) : List FV → M (Fl Unit Empty) := fun vs => match vs with | [a0] => g a0 | _ => fail
theorem arg1 {g : FV → M (Fl Unit Empty)} {φ : List FV → Prop} (h : ∀ a0, φ [a0]) : ArgOk (f1 (fun a0 => toF (g a0))) (b1 g) 1 φ := fun ds => by
  cases ds with
  | nil => exact .inl rfl
  | cons a0 ds0 =>
    cases ds0 with
    | nil => exact .inr ⟨rfl, rfl, h a0⟩
    | cons _ _ => exact .inl rfl
def f2 (g : FV → FV → M RV) : FDef := fun vs => match vs with | [a0, a1] => g a0 a1 | _ => fail
def b2 (g : FV → FV → M (Fl Unit Empty)) : List FV → M (Fl Unit Empty) := fun vs => match vs with | [a0, a1] => g a0 a1 | _ => fail
theorem arg2 {g : FV → FV → M (Fl Unit Empty)} {φ : List FV → Prop} (h : ∀ a0 a1, φ [a0, a1]) : ArgOk (f2 (fun a0 a1 => toF (g a0 a1))) (b2 g) 2 φ := fun ds => by
  cases ds with
  | nil => exact .inl rfl
  | cons a0 ds0 =>
    cases ds0 with
    | nil => exact .inl rfl
    | cons a1 ds1 =>
      cases ds1 with
      | nil => exact .inr ⟨rfl, rfl, h a0 a1⟩
      | cons _ _ => exact .inl rfl
def f3 (g : FV → FV → FV → M RV) : FDef := fun vs => match vs with | [a0, a1, a2] => g a0 a1 a2 | _ => fail
def b3 (g : FV → FV → FV → M (Fl Unit Empty)) : List FV → M (Fl Unit Empty) := fun vs => match vs with | [a0, a1, a2] => g a0 a1 a2 | _ => fail
theorem arg3 {g : FV → FV → FV → M (Fl Unit Empty)} {φ : List FV → Prop} (h : ∀ a0 a1 a2, φ [a0, a1, a2]) : ArgOk (f3 (fun a0 a1 a2 => toF (g a0 a1 a2))) (b3 g) 3 φ := fun ds => by
  cases ds with
  | nil => exact .inl rfl
  | cons a0 ds0 =>
    cases ds0 with
    | nil => exact .inl rfl
    | cons a1 ds1 =>
      cases ds1 with
      | nil => exact .inl rfl
      | cons a2 ds2 =>
        cases ds2 with
        | nil => exact .inr ⟨rfl, rfl, h a0 a1 a2⟩
        | cons _ _ => exact .inl rfl
def f4 (g : FV → FV → FV → FV → M RV) : FDef := fun vs => match vs with | [a0, a1, a2, a3] => g a0 a1 a2 a3 | _ => fail
def b4 (g : FV → FV → FV → FV → M (Fl Unit Empty)) : List FV → M (Fl Unit Empty) := fun vs => match vs with | [a0, a1, a2, a3] => g a0 a1 a2 a3 | _ => fail
def f5 (g : FV → FV → FV → FV → FV → M RV) : FDef := fun vs => match vs with | [a0, a1, a2, a3, a4] => g a0 a1 a2 a3 a4 | _ => fail
def b5 (g : FV → FV → FV → FV → FV → M (Fl Unit Empty)) : List FV → M (Fl Unit Empty) := fun vs => match vs with | [a0, a1, a2, a3, a4] => g a0 a1 a2 a3 a4 | _ => fail
def f6 (g : FV → FV → FV → FV → FV → FV → M RV) : FDef := fun vs => match vs with | [a0, a1, a2, a3, a4, a5] => g a0 a1 a2 a3 a4 a5 | _ => fail
def b6 (g : FV → FV → FV → FV → FV → FV → M (Fl Unit Empty)) : List FV → M (Fl Unit Empty) := fun vs => match vs with | [a0, a1, a2, a3, a4, a5] => g a0 a1 a2 a3 a4 a5 | _ => fail
def f7 (g : FV → FV → FV → FV → FV → FV → FV → M RV) : FDef := fun vs => match vs with | [a0, a1, a2, a3, a4, a5, a6] => g a0 a1 a2 a3 a4 a5 a6 | _ => fail
def b7 (g : FV → FV → FV → FV → FV → FV → FV → M (Fl Unit Empty)) : List FV → M (Fl Unit Empty) := fun vs => match vs with | [a0, a1, a2, a3, a4, a5, a6] => g a0 a1 a2 a3 a4 a5 a6 | _ => fail
def f8 (g : FV → FV → FV → FV → FV → FV → FV → FV → M RV) : FDef := fun vs => match vs with | [a0, a1, a2, a3, a4, a5, a6, a7] => g a0 a1 a2 a3 a4 a5 a6 a7 | _ => fail
def b8 (g : FV → FV → FV → FV → FV → FV → FV → FV → M (Fl Unit Empty)) : List FV → M (Fl Unit Empty) := fun vs => match vs with | [a0, a1, a2, a3, a4, a5, a6, a7] => g a0 a1 a2 a3 a4 a5 a6 a7 | _ => fail
def f9 (g : FV → FV → FV → FV → FV → FV → FV → FV → FV → M RV) : FDef := fun vs => match vs with | [a0, a1, a2, a3, a4, a5, a6, a7, a8] => g a0 a1 a2 a3 a4 a5 a6 a7 a8 | _ => fail
def b9 (g : FV → FV → FV → FV → FV → FV → FV → FV → FV → M (Fl Unit Empty)) : List FV → M (Fl Unit Empty) := fun vs => match vs with | [a0, a1, a2, a3, a4, a5, a6, a7, a8] => g a0 a1 a2 a3 a4 a5 a6 a7 a8 | _ => fail
def f10 (g : FV → FV → FV → FV → FV → FV → FV → FV → FV → FV → M RV) : FDef := fun vs => match vs with | [a0, a1, a2, a3, a4, a5, a6, a7, a8, a9] => g a0 a1 a2 a3 a4 a5 a6 a7 a8 a9 | _ => fail
def b10 (g : FV → FV → FV → FV → FV → FV → FV → FV → FV → FV → M (Fl Unit Empty)) : List FV → M (Fl Unit Empty) := fun vs => match vs with | [a0, a1, a2, a3, a4, a5, a6, a7, a8, a9] => g a0 a1 a2 a3 a4 a5 a6 a7 a8 a9 | _ => fail
theorem mk_fnP {nP nL : Nat} (F : Fun K x qual st a fd) (S : FnScope N ps (defScope st)) (h1 : ps.length = nP) (h2 : N.length - nP = nL) (hn : ArgOk f b nP fun _ => True)
    (ao : ∀ cdv A outer s H E, Room k (A.deeper (envOfC qual (defScope st) s.heap.objs.size a cdv)) → ArgOk f b nP fun ds => ∀ E' : Ent, JB (CxP P w K mg base N qual (defScope st) a cdv A outer s H E) (fun cls d _ H => E cls d H) E' none (eU (nP + nL)) eN (gam ds nL) (defBody st) (b ds)) :
    FnOk P w K mg base (L2.CX P w) (k + 1) a fd ps (spP ⟨K, mg⟩ f) :=
  F.okX S (fun vs H Q E q => (spP_len hn q).trans h1.symm) fun cdv A outer s H vs Q E hr q => ⟨_, pss_w, fn_run rfl rfl rfl rfl (ao cdv A outer s H E hr) h2 q⟩
theorem mk_hasF (F : Fun K x qual st a fd) (G : FnOk P w K mg base (L2.CX P w) n a fd ps (spP ⟨K, mg⟩ f)) (hm : mg x = some (.ref a)) (b : L2.Binds K fd ps []) : HasF P w K mg base n x ps f := ⟨a, fd, G, hm, F.kp, b⟩
theorem HasF.mono (h : HasF P w K mg base k x ps f) (l : k ≤ n) : HasF P w K mg base n x ps f := by
  obtain ⟨a, fd, G, e⟩ := h.ex
  exact ⟨a, fd, G.mono l, e⟩
theorem HasD.mono {ds : List FV} (h : HasD P w K mg base k x ps ds f) (l : k ≤ n) : HasD P w K mg base n x ps ds f := by
  obtain ⟨a, fd, d, u, G, e⟩ := h.ex
  exact ⟨a, fd, d, u, G.mono l, e⟩
/-! no def: nothing is said -/
def fNo : FDef := fun _ => fail
theorem hasNo {a : Addr} {fd : FuncData} (hm : mg x = some (.ref a)) (k : PySem.W.keepIn K (.ref a) = true) (b : L2.Binds K fd ps []) : HasF P w K mg base n x ps fNo :=
  ⟨a, fd, ⟨fun vs H Q E ⟨_, _, _, _, _, p⟩ => p.elim, fun _ _ _ _ _ _ _ _ _ _ _ _ _ ⟨_, _, _, _, _, p⟩ => p.elim⟩, hm, k, b⟩
theorem te_own {X : Cx} {E : XK} (tk : Takes X (fun c d _ H => E c d H)) : TkE X (fun c d _ H => E c d H) := ⟨E, fun _ _ _ _ h => h, passes_call tk fun _ _ _ _ h => h⟩
end
/-! ### the end of a law -/
theorem vrs_ints {B : Bs} {H : Hp} {μ : Nat → Addr} {n : Nat} : ∀ ns : List Int, VRs B H μ n (ns.map FV.int) (ns.map V.int)
  | [] => .nil
  | i :: ns => .cons (.int i) (vrs_ints ns)
def spLaw (K : PySem.W.Frag) : Sp := fun vs H Q _ => ∃ (a : Addr) (ns : List Int), vs = [.ref a] ∧ ns.length ≤ 63 ∧ FzL K H a (ns.map V.int) ∧ ∀ H', Q (.bl true) H'
theorem spLaw_to {K : PySem.W.Frag} {mg : Str → Option Value} {f : FDef} (hf : ∀ ns : List Int, ns.length ≤ 63 → ∃ h', f [.sl (ns.map .int)] [] = .ok (.v (.bl true)) h') {vs : List V} {H : Hp} {Q : VK} {E : XK} (q : spLaw K vs H Q E) : spP ⟨K, mg⟩ f vs H Q E := by
  obtain ⟨a, ns, rfl, hl, hq, k⟩ := q
  obtain ⟨h', e⟩ := hf ns hl
  refine ⟨fun _ => 0, [], [.sl (ns.map .int)], ⟨(fun i o z => by cases z), fun i j z => absurd z (Nat.not_lt_zero _)⟩, .cons (.sl hq (vrs_ints ns)) .nil, ?_⟩
  rw [e]
  intro μ' H' s hr u ru
  cases ru with
  | v r => cases r; exact k H'
theorem walkP {l : PySem.W.OpenLaw} {q : Program} {loose : List Str} {XP : (Str → Option Value) → Heap → Prop} {YP : World → Heap → Prop} {d : DefRec} {K : Params → PySem.W.Frag} {k : Nat} {f : FDef} (hn : l.most = some 63) (hdf : d.params.defaults = [])
    (hY : ∀ (w : World) (h : Heap), YP w h → (K w.params).In h) (hr : Room k callerA)
    (F : ∀ (w : World) (mg : Str → Option Value) (fa : Addr) (h : Heap), (K w.params).In h → h.Ns mainGlobals mg → mg d.name = some (.ref fa) →
      ∃ fd : FuncData, (∀ (s : Shared) (u : Value), BindsTo s fd ⟨[u], []⟩ [("_law_script", u)]) ∧ ∀ base : Heap, (K w.params).In base → base.Ns mainGlobals mg → FnOk l.prog w (K w.params) mg base (L2.CX l.prog w) k fa fd ["_law_script"] (spP ⟨K w.params, mg⟩ f))
    (hf : ∀ ns : List Int, ns.length ≤ 63 → ∃ h', f [.sl (ns.map .int)] [] = .ok (.v (.bl true)) h') :
    PySem.W.WalkO q loose XP YP l.row.toRowW d [] (fun f vs => PySem.call f vs) :=
  L2.walk_of (n := 63) (k := k) (x := "_law_script") (CX := fun w => L2.CX l.prog w) (sp := fun w => spLaw (K w.params)) hn (by decide) hdf hr hY (fun w mg fa h a b c => by
    obtain ⟨fd, h1, h2⟩ := F w mg fa h a b c
    exact ⟨fd, h1, fun base x y => (h2 base x y).imp fun vs H Q E z => spLaw_to hf z⟩) (fun w H a ns hl ho hs => ⟨a, ns, rfl, hl, by
      rcases hs with (hs | hs) | hs
      · rcases ho a with z | ⟨o, xs, z⟩
        · rw [z] at hs; cases hs
        · rw [z] at hs; cases hs
      · exact .inl hs
      · exact .inr hs, fun _ => rfl⟩) fun w H s e s' h => by
    obtain ⟨_, _, _, _, _, _, _, _, _, _, _, _, z⟩ := h
    exact z.elim
end P
namespace P
open PySem PySem.Spec PyProof.Rows L2 G
theorem JTs.to {Y : Cx} {W : WX} {E : Ent} {Γ : Sl} {ifs : List Expr} {f g : M Bool} (p : JTs Y W E Γ ifs f) (q : ∀ h, f h = g h) : JTs Y W E Γ ifs g := by
  have : f = g := funext q
  exact this ▸ p
def FUEL : Nat := 1000000
section
variable {α β A : Type} {X : Cx} {W : WX} {E : Ent} {Γx : Option Sl} {eα : α → Sl} {eβ : β → Sl} {Γ Γ' : Sl} {tg iter : Expr} {pos : Pos} {rest body : List Stmt} {os : List Nat}
theorem jb_forS (eA : A → Sl) (a0 : A) {put : Sl → FV → Sl} {Γb : A → FV → Sl} {f : A → FV → M (Fl A A)} {src : M (List FV)} {k : A → M (Fl α β)} (w : SubX Γx Γ) (hp : PassesOwn (model X.prog X.w) X.A X.env X.xe) (hc : X.calm = true) (hi : JI X W E Γ tg iter src) (ht : JGt X tg os (some : FV → Option FV) put)
    (hb : ∀ a x, JB X W E Γx eA eA (Γb a x) body (f a x)) (h0 : Sub (eA a0) Γ) (hk : ∀ a, JB X W E Γx eα eβ (eA a) rest (k a)) (hΓ : ∀ a x, put (eA a) x = Γb a x := by intro _ _; rfl) (hs : ∀ x, foldedSetIterable iter X.env x = pure x := by intro _; rfl) :
    JB X W E Γx eα eβ Γ (.For tg iter body [] pos :: rest) (bnd src fun xs => seqN (forN f xs a0) k) := jb_for (b := some) (f := f) eA a0 w hp hc hi ht hb h0 hk hΓ hs
end
end P
/-! P: behind a call what it made is forgotten, but for its result. -/
namespace P
open PySem PySem.Spec PyProof.Rows L2 G
mutual
def FV.lowB (n : Nat) : FV → Bool
  | .ref i => decide (i < n)
  | .tup xs => FV.lowsB n xs
  | .fl xs => FV.lowsB n xs
  | .sl xs => FV.lowsB n xs
  | .fd _ xs => FV.lowsB n xs
  | .ft _ xs => FV.lowsB n xs
  | .fo _ _ xs => FV.lowsB n xs
  | .non => true
  | .bl _ => true
  | .int _ => true
  | .str _ => true
def FV.lowsB (n : Nat) : List FV → Bool
  | [] => true
  | x :: xs => x.lowB n && FV.lowsB n xs
end
mutual
theorem lowB_ok {n : Nat} : ∀ {d : FV}, d.lowB n = true → d.low n
  | .ref i, h => by simpa [FV.lowB, FV.low] using h
  | .tup xs, h => by simp only [FV.low]; exact lowsB_ok (by simpa [FV.lowB] using h)
  | .fl xs, h => by simp only [FV.low]; exact lowsB_ok (by simpa [FV.lowB] using h)
  | .sl xs, h => by simp only [FV.low]; exact lowsB_ok (by simpa [FV.lowB] using h)
  | .fd _ xs, h => by simp only [FV.low]; exact lowsB_ok (by simpa [FV.lowB] using h)
  | .ft _ xs, h => by simp only [FV.low]; exact lowsB_ok (by simpa [FV.lowB] using h)
  | .fo _ _ xs, h => by simp only [FV.low]; exact lowsB_ok (by simpa [FV.lowB] using h)
  | .non, _ => by simp [FV.low]
  | .bl _, _ => by simp [FV.low]
  | .int _, _ => by simp [FV.low]
  | .str _, _ => by simp [FV.low]
theorem lowsB_ok {n : Nat} : ∀ {ds : List FV}, FV.lowsB n ds = true → FV.lows n ds
  | [], _ => by simp [FV.lows]
  | d :: ds, h => by
    have h' : d.lowB n = true ∧ FV.lowsB n ds = true := by simpa [FV.lowsB] using h
    simp only [FV.lows]
    exact ⟨lowB_ok h'.1, lowsB_ok h'.2⟩
end
def lowKvB {κ : Type} (n : Nat) (kvs : List (κ × FV)) : Bool := FV.lowsB n (kvs.map (·.2))
def FO.lowB (n : Nat) : FO → Bool
  | .lst ds => FV.lowsB n ds
  | .dK kvs => lowKvB n kvs
  | .dT kvs => lowKvB n kvs
  | .ins _ fs => lowKvB n fs
  | .lk kvs => lowKvB n kvs
theorem FO.lowB_ok {n : Nat} {o : FO} (h : o.lowB n = true) : o.low n := by
  cases o <;> exact lowsB_ok h
/-- the result as it is when only the first n objects keep their numbers -/
def RV.cut (n : Nat) (h : FH) : RV → Option RV
  | .v (.ref i) => if i < n then some (.v (.ref i)) else match h[i]? with
    | some (.lst ds) => if FV.lowsB n ds = true then some (.l ds) else none
    | some (.dK kvs) => if lowKvB n kvs = true then some (.d kvs) else none
    | some (.dT kvs) => if lowKvB n kvs = true then some (.t kvs) else none
    | some (.ins c fs) => if lowKvB n fs = true then some (.o c fs) else none
    | _ => none
  | .v x => if x.lowB n = true then some (.v x) else none
  | .l ds => if FV.lowsB n ds = true then some (.l ds) else none
  | .d kvs => if lowKvB n kvs = true then some (.d kvs) else none
  | .t kvs => if lowKvB n kvs = true then some (.t kvs) else none
  | .o c fs => if lowKvB n fs = true then some (.o c fs) else none
  | _ => none
def cutR (n : Nat) (r : RV) (h : FH) : Rs RV :=
  if n < h.length ∧ (h.take n).all (·.lowB n) = true then match r.cut n h with
    | some r' => .ok r' (h.take n)
    | none => .ok r h
  else .ok r h
def gcM (m : M RV) : M RV := fun h => match m h with
  | .ok r h' => cutR h.length r h'
  | .ex x h' => .ex x h'
  | .no => .no
section
variable {B : Bs} {μ μ' : Nat → Addr} {n : Nat} {h h' : FH} {H H' : Hp} {r r' : RV} {u : V}
theorem cut_ok (s : Step μ n H μ' h'.length H') (hr : HR B μ' h' H') (m : RR B H μ' h'.length H' r u) (hn : n ≤ h'.length) (e : r.cut n h' = some r') : RR B H μ' n H' r' u := by
  have nd : ∀ {p : Addr}, Fre H μ' h'.length p → Fre H μ' n p := fun f => ⟨f.1, fun i hi => f.2 i (Nat.lt_of_lt_of_le hi hn)⟩
  have fr : ∀ {i : Nat}, i < h'.length → ¬ i < n → Fre H μ' n (μ' i) := fun {i} l z => ⟨s.new i (Nat.le_of_not_lt z) l, fun j hj q => z (hr.inj j i (Nat.lt_of_lt_of_le hj hn) l q ▸ hj)⟩
  unfold RV.cut at e
  split at e
  · rename_i i
    obtain ⟨rfl, lm⟩ := ref_inv m
    split at e
    · rename_i li
      cases e
      exact .v (.ref li)
    · rename_i li
      split at e
      · rename_i ds q
        split at e
        · rename_i hl
          cases e
          obtain ⟨xs, h1, h2⟩ := hr.at' i _ q
          exact .l (fr lm li) h1 (h2.low (lowsB_ok hl))
        · cases e
      · rename_i ds q
        split at e
        · rename_i hl
          cases e
          obtain ⟨xs, h1, h2⟩ := hr.at' i _ q
          exact .d (fr lm li) h1 (h2.low (lowsB_ok hl))
        · cases e
      · rename_i ds q
        split at e
        · rename_i hl
          cases e
          obtain ⟨xs, h1, h2⟩ := hr.at' i _ q
          exact .t (fr lm li) h1 (h2.low (lowsB_ok hl))
        · cases e
      · rename_i c ds q
        split at e
        · rename_i hl
          cases e
          obtain ⟨C, dx, xs, h0, h1, h2⟩ := hr.at' i _ q
          exact .o (fr lm li) h0 h1 (h2.low (lowsB_ok hl))
        · cases e
      · cases e
  · split at e
    · rename_i hl
      cases e
      cases m with
      | v q => exact .v (q.low (lowB_ok hl))
    · cases e
  · split at e
    · rename_i hl
      cases e
      cases m with
      | l f a b => exact .l (nd f) a (b.low (lowsB_ok hl))
    · cases e
  · split at e
    · rename_i hl
      cases e
      cases m with
      | d f a b => exact .d (nd f) a (b.low (lowsB_ok hl))
    · cases e
  · split at e
    · rename_i hl
      cases e
      cases m with
      | t f a b => exact .t (nd f) a (b.low (lowsB_ok hl))
    · cases e
  · split at e
    · rename_i hl
      cases e
      cases m with
      | o f z a b => exact .o (nd f) z a (b.low (lowsB_ok hl))
    · cases e
  · cases e
theorem gc_po {m : M RV} {Q : VK} {E : XK} (p : Po B μ h.length H (fun r h' μ' H' => ∀ u, RR B H μ' h'.length H' r u → Q u H') E (gcM m h)) :
    Po B μ h.length H (fun r h' μ' H' => ∀ u, RR B H μ' h'.length H' r u → Q u H') E (m h) := by
  unfold gcM at p
  cases q : m h with
  | no => rw [q] at p; exact p
  | ex x h' => rw [q] at p; exact p
  | ok r h' =>
    rw [q] at p
    dsimp only [] at p
    unfold cutR at p
    split at p
    · rename_i hc
      split at p
      · rename_i r' e
        intro μ' H' s hr u ru
        have hn : h.length ≤ h'.length := Nat.le_of_lt hc.1
        have l : (h'.take h.length).length = h.length := by rw [List.length_take, Nat.min_eq_left hn]
        have hr2 : HR B μ' (h'.take h.length) H' := hr.cut (fun o ho => FO.lowB_ok (List.all_eq_true.mp hc.2 o ho)) hn
        have s2 : Step μ h.length H μ' (h'.take h.length).length H' := by rw [l]; exact s.cut (Nat.le_refl _) hn
        refine (show ∀ μ' H', _ → _ → ∀ u, _ → Q u H' from p) μ' H' s2 hr2 u ?_
        rw [l]
        exact cut_ok s hr ru hn e
      · exact p
    · exact p
end
def gcF (f : FDef) : FDef := fun vs => gcM (f vs)
theorem gc_ok {B : Bs} {f : FDef} {vs : List V} {H : Hp} {Q : VK} {E : XK} (q : spP B (gcF f) vs H Q E) : spP B f vs H Q E := by
  obtain ⟨μ, h, ds, hr, r, p⟩ := q
  exact ⟨μ, h, ds, hr, r, gc_po p⟩
theorem gcM_pur (r : RV) : gcM (pur r) = pur r := by
  funext h
  show cutR h.length r h = _
  unfold cutR
  rw [if_neg (fun z => absurd z.1 (Nat.lt_irrefl _))]
  rfl
theorem gcF_eq {B : Bs} {f g : FDef} (e : ∀ ds, g ds = gcF f ds) {vs : List V} {H : Hp} {Q : VK} {E : XK} (q : spP B g vs H Q E) : spP B f vs H Q E := gc_ok (by have z : g = gcF f := funext e; exact z ▸ q)
theorem gc_f1 {B : Bs} {g : FV → M RV} {vs : List V} {H : Hp} {Q : VK} {E : XK} (q : spP B (f1 (fun a0 => gcM (g a0))) vs H Q E) : spP B (f1 g) vs H Q E := gcF_eq (f := f1 g) (g := f1 (fun a0 => gcM (g a0))) (fun ds => match ds with
  | [] => rfl
  | [_] => rfl
  | _ :: _ :: _ => rfl) q
theorem gc_f2 {B : Bs} {g : FV → FV → M RV} {vs : List V} {H : Hp} {Q : VK} {E : XK} (q : spP B (f2 (fun a0 a1 => gcM (g a0 a1))) vs H Q E) : spP B (f2 g) vs H Q E := gcF_eq (f := f2 g) (g := f2 (fun a0 a1 => gcM (g a0 a1))) (fun ds => match ds with
  | [] => rfl
  | [_] => rfl
  | [_, _] => rfl
  | _ :: _ :: _ :: _ => rfl) q
theorem gc_f3 {B : Bs} {g : FV → FV → FV → M RV} {vs : List V} {H : Hp} {Q : VK} {E : XK} (q : spP B (f3 (fun a0 a1 a2 => gcM (g a0 a1 a2))) vs H Q E) : spP B (f3 g) vs H Q E := gcF_eq (f := f3 g) (g := f3 (fun a0 a1 a2 => gcM (g a0 a1 a2))) (fun ds => match ds with
  | [] => rfl
  | [_] => rfl
  | [_, _] => rfl
  | [_, _, _] => rfl
  | _ :: _ :: _ :: _ :: _ => rfl) q
theorem fNo_f1 : f1 (fun _ => fail) = fNo := funext fun ds => match ds with
  | [] => rfl
  | [_] => rfl
  | _ :: _ :: _ => rfl
theorem fNo_f2 : f2 (fun _ _ => fail) = fNo := funext fun ds => match ds with
  | [] => rfl
  | [_] => rfl
  | [_, _] => rfl
  | _ :: _ :: _ :: _ => rfl
theorem fNo_f3 : f3 (fun _ _ _ => fail) = fNo := funext fun ds => match ds with
  | [] => rfl
  | [_] => rfl
  | [_, _] => rfl
  | [_, _, _] => rfl
  | _ :: _ :: _ :: _ :: _ => rfl
theorem hasNo_of {P : Program} {w : World} {K : PySem.W.Frag} {mg : Str → Option Value} {base : Heap} {n : Nat} {x : Str} {ps : List Str} {f : FDef} {a : Addr} {fd : FuncData} (e : f = fNo) (hm : mg x = some (.ref a)) (k : PySem.W.keepIn K (.ref a) = true) (b : L2.Binds K fd ps []) : HasF P w K mg base n x ps f := e ▸ hasNo hm k b
end P
/-! P: dict comprehensions. -/
namespace P
open PySem PySem.Spec PyProof.Rows L2 G
end P
/-! P: more expressions. -/
namespace P
open PySem PySem.Spec PyProof.Rows L2 G
end P
/-! P: ==, != and in where lists and dicts hold dicts. -/
namespace P.Q
open PySem PySem.SeqAt
open AutoSeq1 (wpAny_loadPart')
open MeetsSeq MeetsSeq2 MeetsSeq3 SeqRoads2
section
variable {prog : Program} {w : World}
/-- how a list's object stands -/
def At (s : Shared) (l : Addr) (dd : Option Addr) (its : Array Value) (n : Nat) (sl : Array (Option Value)) : Prop := s.heap.get? l = some { cls := .type "list", dict := dd, data := .seq its n, slots := sl }
theorem has_loop (l : Addr) (its : Array Value) (n : Nat) (dd : Option Addr) (sl : Array (Option Value)) (x : Value) (e : Nat → Bool) (k : Nat) :
    ∀ i : Nat, its.size - i = k → MeetsIn prog w (Builtin.«list.__contains__.loop» ⟨[.ref l, x, rawInt i], []⟩)
      (fun A R s => At s l dd its n sl ∧ (∀ j (h : j < its.size), EqP prog w A.in1 s its[j] x (e j)) ∧ R (.ok (.ret (.bool (((List.range its.size).drop i).any e)))) s) := by
  induction k with
  | zero =>
    intro i hk A R s ⟨hl, he, h⟩
    obtain ⟨hp, g, d, tk, os⟩ := s
    unfold At at hl
    wp_walk using (wpAny_loadPart' hl)
    rw [show its[((i : Nat) : Int).toNat]? = none by (simp; omega)]
    rw [show (List.range its.size).drop i = [] by (simp; omega)] at h
    wp_walk
    exact h
  | succ k ih =>
    intro i hk A R s ⟨hl, he, h⟩
    obtain ⟨hp, g, d, tk, os⟩ := s
    have lt : i < its.size := by omega
    have hl0 := hl
    unfold At at hl
    wp_walk using (wpAny_loadPart' hl)
    rw [show its[((i : Nat) : Int).toNat]? = some its[i] by (simp [lt])]
    rw [show (List.range its.size).drop i = i :: (List.range its.size).drop (i + 1) by (simp [List.drop_eq_getElem_cons, lt]), List.any_cons] at h
    refine wpAny_bind (he i lt _ _ ?_)
    cases q : e i with
    | true => rw [q] at h; wp_walk; exact h
    | false =>
      rw [q] at h; wp_walk; rw [show ((i : Int) + 1) = ((i + 1 : Nat) : Int) by (push_cast; rfl)]
      refine ⟨plainId_quiet plain_contains_loop _, codeAny_builtin entry_contains_loop ?_⟩
      rw [Around.under_plainId plain_contains_loop _]
      exact ih _ (by omega) A R _ ⟨hl0, he, by (simpa using h)⟩
theorem has_list (l : Addr) (its : Array Value) (n : Nat) (dd : Option Addr) (sl : Array (Option Value)) (x : Value) (e : Nat → Bool) :
    MeetsIn prog w (Builtin.«list.__contains__» ⟨[.ref l, x], []⟩)
      (fun A R s => At s l dd its n sl ∧ (∀ j (h : j < its.size), EqP prog w A.in1 s its[j] x (e j)) ∧ R (.ok (.ret (.bool ((List.range its.size).any e)))) s) := by
  intro A R s ⟨hl, he, h⟩
  obtain ⟨hp, g, d, tk, os⟩ := s
  have hl0 := hl
  unfold At at hl
  wp_walk using (wpAny_loadPart' hl)
  refine ⟨plainId_quiet plain_contains_loop _, codeAny_builtin entry_contains_loop ?_⟩
  rw [Around.under_plainId plain_contains_loop _]
  exact has_loop l its n dd sl x e _ 0 rfl A R _ ⟨hl0, he, by (simpa using h)⟩
theorem differ_loop (l b : Addr) (its jts : Array Value) (n m : Nat) (dd de : Option Addr) (sl sm : Array (Option Value)) (hz : its.size = jts.size) (e : Nat → Bool) (k : Nat) :
    ∀ i : Nat, its.size - i = k → MeetsIn prog w (Builtin.«list.__eq__.loop» ⟨[.ref l, .ref b, rawInt i, rawInt 3], []⟩)
      (fun A R s => At s l dd its n sl ∧ At s b de jts m sm ∧ (∀ j (h : j < its.size) (h' : j < jts.size), EqP prog w A.in1 s its[j] jts[j] (e j)) ∧
        R (.ok (.ret (.bool (!((List.range its.size).drop i).all e)))) s) := by
  induction k with
  | zero =>
    intro i hk A R s ⟨hl, hb, he, h⟩
    obtain ⟨hp, g, d, tk, os⟩ := s
    unfold At at hl hb
    wp_walk using (wpAny_loadPart' hl), (wpAny_loadPart' hb)
    rw [show (List.range its.size).drop i = [] by (simp; omega)] at h
    rw [show its[((i : Nat) : Int).toNat]? = none by (simp; omega), show jts[((i : Nat) : Int).toNat]? = none by (simp; omega)]
    wp_walk using (wpAny_loadPart' hl), (wpAny_loadPart' hb)
    show R (.ok (.ret (.bool (its.size != jts.size)))) _
    rw [hz]; (simpa using h)
  | succ k ih =>
    intro i hk A R s ⟨hl, hb, he, h⟩
    obtain ⟨hp, g, d, tk, os⟩ := s
    have lt : i < its.size := by omega
    have lu : i < jts.size := by omega
    have hl0 := hl
    have hb0 := hb
    unfold At at hl hb
    wp_walk using (wpAny_loadPart' hl), (wpAny_loadPart' hb)
    have e1 : its[((i : Nat) : Int).toNat]? = some its[i] := by (simp [lt])
    have e2 : jts[((i : Nat) : Int).toNat]? = some jts[i] := by (simp [lu])
    rw [show (List.range its.size).drop i = i :: (List.range its.size).drop (i + 1) by (simp [List.drop_eq_getElem_cons, lt]), List.all_cons] at h
    rw [e1, e2]
    refine wpAny_bind (he i lt lu _ _ ?_)
    cases q : e i with
    | true =>
      rw [q] at h; wp_walk; rw [show ((i : Int) + 1) = ((i + 1 : Nat) : Int) by (push_cast; rfl)]
      refine ⟨plainId_quiet plain_eq_loop _, codeAny_builtin entry_eq_loop ?_⟩
      rw [Around.under_plainId plain_eq_loop _]
      exact ih _ (by omega) A R _ ⟨hl0, hb0, he, by (simpa using h)⟩
    | false =>
      rw [q] at h; wp_walk using (wpAny_loadPart' hl), (wpAny_loadPart' hb); rw [e1, e2]; wp_walk
      (simpa using h)
theorem differ_list (l b : Addr) (its jts : Array Value) (n m : Nat) (dd de : Option Addr) (sl sm : Array (Option Value)) (hz : its.size = jts.size) (e : Nat → Bool) :
    MeetsIn prog w (Builtin.«list.__ne__» ⟨[.ref l, .ref b], []⟩)
      (fun A R s => At s l dd its n sl ∧ At s b de jts m sm ∧ (∀ j (h : j < its.size) (h' : j < jts.size), EqP prog w A.in1 s its[j] jts[j] (e j)) ∧
        R (.ok (.ret (.bool (!(List.range its.size).all e)))) s) := by
  intro A R s ⟨hl, hb, he, h⟩
  obtain ⟨hp, g, d, tk, os⟩ := s
  have hl0 := hl
  have hb0 := hb
  unfold At at hl hb
  have f3 := AutoSeq1.sub_list_list
  have ne : ¬ (its.size != jts.size) = true := by (simp [hz])
  wp_walk using (wpAny_loadPart' hl), (wpAny_loadPart' hb)
  refine ⟨plainId_quiet plain_eq_loop _, codeAny_builtin entry_eq_loop ?_⟩
  rw [Around.under_plainId plain_eq_loop _]
  exact differ_loop l b its jts n m dd de sl sm hz e _ 0 rfl A R _ ⟨hl0, hb0, he, by (simpa using h)⟩
end
end P.Q
namespace P.Q
open PySem PySem.SeqAt PySem.Spec PyProof.Rows L2 G
section
variable {prog : Program} {w : World} {A : Around} {E : Value → Shared → Prop} {s : Shared} {Q : Value → Shared → Prop}
theorem has_in {l : Addr} {its : Array Value} {x : Value} {e : Nat → Bool} (hl : s.heap.IsList l its) (he : ∀ j (h : j < its.size), EqP prog w A.in1 s its[j] x (e j)) {b : Bool} (h : Q (.bool (if b = true then !(List.range its.size).any e else (List.range its.size).any e)) s) :
    wpAny (model prog w) A (compareOp (if b = true then .NotIn else .In) x (.ref l)) Q E s := by
  obtain ⟨⟨cls, dd, data, sl⟩, ho, hc, n, hd⟩ := id hl
  dsimp only at hc hd
  subst hc hd
  have ta : s.TypeIs (.ref l) "list" := ⟨_, ho, rfl⟩
  have key : ∀ {R : Bool → Shared → Prop}, R ((List.range its.size).any e) s → wpAny (model prog w) A (contains (.ref l) x) R E s := fun {R} q =>
    wpAny_contains_slot ta PySem.F.slot_list_contains (wpAny_mono (call_meetsIn (Q := fun v s' => v = .bool ((List.range its.size).any e) ∧ s' = s) PySem.F.slot_list_contains ta PySem.F.entry_list_contains (PySem.F.args_list_contains_2 _ _) (has_list l its n dd sl x e) ⟨ho, he, ⟨rfl, rfl⟩⟩)
      (fun v s' ⟨h1, h2⟩ => by subst h1 h2; exact wpAny_truthy_bool q) fun _ _ e => e)
  cases b with
  | true =>
    rw [if_pos rfl] at h ⊢
    show wpAny _ A (do return .bool (!(← contains (.ref l) x))) Q E s
    exact wpAny_bind (key (wpAny_pure h))
  | false =>
    rw [if_neg (by decide)] at h ⊢
    show wpAny _ A (do return .bool (← contains (.ref l) x)) Q E s
    exact wpAny_bind (key (wpAny_pure h))
theorem differ_rc {l b : Addr} {its jts : Array Value} {e : Nat → Bool} (hl : s.heap.IsList l its) (hb : s.heap.IsList b jts) (hz : its.size = jts.size) (hu : A.units < cLine)
    (he : ∀ j (h1 : j < its.size) (h2 : j < jts.size), EqP prog w A.in1 s its[j] jts[j] (e j)) (h : Q (.bool (!(List.range its.size).all e)) s) : wpAny (model prog w) A (richCompare .NotEq (.ref l) (.ref b)) Q E s := by
  obtain ⟨⟨cls, dd, data, sl⟩, ho, hc, n, hd⟩ := id hl
  obtain ⟨⟨cls2, dd2, data2, sl2⟩, ho2, hc2, n2, hd2⟩ := id hb
  dsimp only at hc hd hc2 hd2
  subst hc hd hc2 hd2
  have ta : s.TypeIs (.ref l) "list" := ⟨_, ho, rfl⟩
  have tb : s.TypeIs (.ref b) "list" := ⟨_, ho2, rfl⟩
  exact wpAny_richCompare_same_room (op := .NotEq) ta tb PySem.F.slot_list_ne (call_meetsIn PySem.F.slot_list_ne ta PySem.F.entry_list_ne (PySem.F.args_list_ne_2 _ _) (differ_list l b its jts n n2 dd dd2 sl sl2 hz e)
    ⟨ho, ho2, he, show Value.bool (!(List.range its.size).all e) ≠ Value.notImplemented ∧ Q (.bool (!(List.range its.size).all e)) s from ⟨(fun x => nomatch x), h⟩⟩) hu
theorem differ_dict {K : Type} [DecidableEq K] {knd : KeyKind prog w K} {a b : Addr} {ka kb : List (K × Value)} {r : Bool} (ha : (a == sysModules) = false) (hb : (b == sysModules) = false) (da : s.heap.DictOf knd a ka) (db : s.heap.DictOf knd b kb) (hu : A.units < cLine)
    (hits : ka.length = kb.length → PySem.W.KeqHitsP prog w A.in1 s kb ka r) (h : Q (.bool (!(ka.length == kb.length && r))) s) : wpAny (model prog w) A (richCompare .NotEq (.ref a) (.ref b)) Q E s := by
  have ta : s.TypeIs (.ref a) "dict" := da.typeIs
  have tb : s.TypeIs (.ref b) "dict" := db.typeIs
  refine wpAny_richCompare_same_room (op := .NotEq) ta tb PySem.F.slot_dict_ne (wpAny_call_entry PySem.F.slot_dict_ne ta PySem.F.entry_dict_ne ?_ (PySem.F.args_dict_ne_2 _ _)) hu
  show wpAny _ _ (Builtin.Dict.dictSlotArgs "__ne__" ⟨[.ref a, .ref b], []⟩ >>= _) _ _ s
  refine wpAny_bind ?_
  unfold Builtin.Dict.dictSlotArgs
  refine wpAny_bind (wpAny_notOrdered_dict ta ?_)
  show wpAny _ _ (pure (Value.ref a, Value.ref b)) _ _ s
  refine wpAny_pure (wpAny_bind (wpAny_isInstance (T := "dict") tb PySem.F.sub_dict_dict ?_))
  simp only [Bool.not_true, Bool.false_eq_true, if_false]
  refine wpAny_bind (wpAny_pure (wpAny_bind (wpAny_pure (wpAny_bind (PySem.W.samePairsP ha hb da db hits (wpAny_pure ⟨_, rfl, (fun x => nomatch x), ?_⟩))))))
  (simpa using h)
end
end P.Q
/-! ### data with dicts -/
namespace P
open PySem PySem.Spec PyProof.Rows L2 G
inductive DV where
  | p (d : PyData) | l (ds : List DV) | d (kvs : List (Key × DV))
def lookX (ls : List (Key × DV)) (k : Key) : Option DV := (ls.find? fun kv => decide (kv.1 = k)).map (·.2)
def eqXs (f : DV → DV → Option Bool) : List DV → List DV → Option Bool
  | [], [] => some true
  | x :: xs, y :: ys => match f x y, eqXs f xs ys with
    | some a, some b => some (a && b)
    | _, _ => none
  | _, _ => none
def eqXd (f : DV → DV → Option Bool) (ls : List (Key × DV)) : List (Key × DV) → Option Bool
  | [] => some true
  | kv :: r => match lookX ls kv.1 with
    | none => some false
    | some u => match f kv.2 u, eqXd f ls r with
      | some a, some b => some (a && b)
      | _, _ => none
/-- are they equal; none: not said -/
def eqX : Nat → DV → DV → Option Bool
  | _, .p d, .p e => if min d.depth e.depth ≤ 64 then some (PyData.eqv d e) else none
  | n + 1, .l xs, .l ys => if xs.length = ys.length then eqXs (eqX n) xs ys else some false
  | n + 1, .d ks, .d ls => if (ls.map (·.1)).Nodup then (if ks.length = ls.length then eqXd (eqX n) ls ks else some false) else none
  | _ + 1, .l xs, .p (.list ys) => if xs.length = ys.length then none else some false
  | _ + 1, .p (.list xs), .l ys => if xs.length = ys.length then none else some false
  | _, _, _ => none
mutual
inductive DpX (K : PySem.W.Frag) (H : Hp) : V → DV → Prop
  | p {x : V} {d : PyData} : d.plain = true → Dp K H x d → DpX K H x (.p d)
  | l {a : Addr} {xs : List V} {ds : List DV} : SqL K H a xs → DpXs K H xs ds → DpX K H (.ref a) (.l ds)
  | d {a : Addr} {ws : List (Key × V)} {kvs : List (Key × DV)} : Rd H a (.dK ws) → DpXd K H ws kvs → DpX K H (.ref a) (.d kvs)
inductive DpXs (K : PySem.W.Frag) (H : Hp) : List V → List DV → Prop
  | nil : DpXs K H [] []
  | cons {x : V} {xs : List V} {d : DV} {ds : List DV} : DpX K H x d → DpXs K H xs ds → DpXs K H (x :: xs) (d :: ds)
inductive DpXd (K : PySem.W.Frag) (H : Hp) : List (Key × V) → List (Key × DV) → Prop
  | nil : DpXd K H [] []
  | cons {k : Key} {x : V} {xs : List (Key × V)} {d : DV} {ds : List (Key × DV)} : DpX K H x d → DpXd K H xs ds → DpXd K H ((k, x) :: xs) ((k, d) :: ds)
end
section
variable {X : Cx} {pins : List (Addr × Obj)} {σ : St} {H : Hp} {s : Shared}
theorem DpXs.len {K : PySem.W.Frag} : ∀ {xs : List V} {ds : List DV}, DpXs K H xs ds → xs.length = ds.length
  | [], _, h => by cases h; rfl
  | x :: xs, _, h => by
    cases h with
    | cons a b => exact congrArg (· + 1) (DpXs.len b)
theorem DpXd.len {K : PySem.W.Frag} : ∀ {xs : List (Key × V)} {ds : List (Key × DV)}, DpXd K H xs ds → xs.length = ds.length
  | [], _, h => by cases h; rfl
  | x :: xs, _, h => by
    cases h with
    | cons a b => exact congrArg (· + 1) (DpXd.len b)
theorem DpXd.keys {K : PySem.W.Frag} : ∀ {xs : List (Key × V)} {ds : List (Key × DV)}, DpXd K H xs ds → ds.map (·.1) = xs.map (·.1)
  | [], _, h => by cases h; rfl
  | x :: xs, _, h => by
    cases h with
    | cons a b => exact congrArg (_ :: ·) (DpXd.keys b)
theorem DpXd.look {K : PySem.W.Frag} {k : Key} : ∀ {xs : List (Key × V)} {ds : List (Key × DV)}, DpXd K H xs ds → (match lookX ds k with | none => valV xs k = none | some d => ∃ v, valV xs k = some v ∧ DpX K H v d)
  | [], _, h => by cases h; rfl
  | x :: xs, _, h => by
    cases h with
    | @cons k' v xs d ds a b =>
      unfold lookX valV
      rw [List.find?_cons, List.find?_cons]
      by_cases e : k' = k
      · rw [show decide (k' = k) = true from decide_eq_true e]
        exact ⟨v, rfl, a⟩
      · rw [show decide (k' = k) = false from decide_eq_false e]
        exact DpXd.look b
theorem DpX.list_len (I : Inv X pins σ H s) {a : Addr} {xs : List V} {ds : List PyData} (h : SqL X.K H a xs) (q : Dp X.K H (.ref a) (.list ds)) : xs.length = ds.length := by
  cases q with
  | @lst _ ys _ h' r =>
    have := I.list_inj h h'
    subst this
    clear h h'
    induction ds generalizing xs with
    | nil => cases r; rfl
    | cons d ds ih =>
      cases r with
      | cons a b => exact congrArg (· + 1) (ih b)
theorem rd_inj {a : Addr} {u v : HO} (h : Rd H a u) (h' : Rd H a v) (hu : ∀ o z, u ≠ .frz o z) (hv : ∀ o z, v ≠ .frz o z) : u = v := by
  rcases h with h | ⟨o, h⟩
  · rcases h' with h' | ⟨o', h'⟩
    · rw [h] at h'; exact Option.some.inj h'
    · rw [h] at h'; exact absurd (Option.some.inj h') (hu _ _)
  · rcases h' with h' | ⟨o', h'⟩
    · rw [h] at h'; exact absurd (Option.some.inj h').symm (hv _ _)
    · rw [h] at h'; cases h'; rfl
theorem lookX_mem {k : Key} {d : DV} : ∀ {ls : List (Key × DV)}, (ls.map (·.1)).Nodup → (k, d) ∈ ls → lookX ls k = some d
  | (k', d') :: ls, hn, hm => by
    unfold lookX
    rw [List.find?_cons]
    rw [List.map_cons, List.nodup_cons] at hn
    rcases List.mem_cons.mp hm with e | hm
    · cases e
      rw [show decide (k = k) = true from decide_eq_true rfl]; rfl
    · have ne : k' ≠ k := fun z => hn.1 (by subst z; exact List.mem_map.mpr ⟨_, hm, rfl⟩)
      rw [show decide (k' = k) = false from decide_eq_false ne]
      exact lookX_mem hn.2 hm
/-- a value is equal to itself -/
theorem eqX_refl (I : Inv X pins σ H s) : ∀ (n : Nat) {x : V} {d e : DV} {b : Bool}, DpX X.K H x d → DpX X.K H x e → eqX n d e = some b → b = true := by
  intro n
  induction n with
  | zero =>
    intro x d e b hd he q
    cases hd with
    | p pd rd =>
      cases he with
      | p pe re =>
        rename_i d1 e1
        have : d1 = e1 := by
          obtain ⟨u, ru⟩ : ∃ u, RelV x u := by
            cases x with
            | non => exact ⟨.none, rfl⟩
            | bl b => exact ⟨.bool b, rfl⟩
            | int i => exact ⟨.int i 0, _, rfl⟩
            | str y => exact ⟨.str y 0, _, rfl⟩
            | ref a => exact ⟨.ref a, rfl⟩
            | _ => cases rd
          obtain ⟨as, r1⟩ := Dp.reads I _ _ _ rd ru
          obtain ⟨cs, r2⟩ := Dp.reads I _ _ _ re ru
          exact SeqAt.plain_unique _ _ _ _ _ pd r1 r2
        subst this
        rw [eqX] at q
        split at q
        · cases q; exact SeqAt.eqv_refl_plain _ pd
        · cases q
      | l _ _ => simp [eqX] at q
      | d _ _ => simp [eqX] at q
    | l _ _ => cases he <;> simp [eqX] at q
    | d _ _ => cases he <;> simp [eqX] at q
  | succ n ih =>
    intro x d e b hd he q
    have items : ∀ {xs : List V} {ds es : List DV} {b : Bool}, DpXs X.K H xs ds → DpXs X.K H xs es → eqXs (eqX n) ds es = some b → b = true := by
      intro xs
      induction xs with
      | nil => intro ds es b h1 h2 q; cases h1; cases h2; cases q; rfl
      | cons x xs ih2 =>
        intro ds es b h1 h2 q
        cases h1 with
        | cons a1 b1 =>
          cases h2 with
          | cons a2 b2 =>
            rw [eqXs] at q
            split at q
            · rename_i r1 r2 e1 e2
              cases q
              rw [ih a1 a2 e1, ih2 b1 b2 e2]; rfl
            · cases q
    cases hd with
    | p pd rd =>
      cases he with
      | p pe re =>
        rename_i d1 e1
        have : d1 = e1 := by
          obtain ⟨u, ru⟩ : ∃ u, RelV x u := by
            cases x with
            | non => exact ⟨.none, rfl⟩
            | bl b => exact ⟨.bool b, rfl⟩
            | int i => exact ⟨.int i 0, _, rfl⟩
            | str y => exact ⟨.str y 0, _, rfl⟩
            | ref a => exact ⟨.ref a, rfl⟩
            | _ => cases rd
          obtain ⟨as, r1⟩ := Dp.reads I _ _ _ rd ru
          obtain ⟨cs, r2⟩ := Dp.reads I _ _ _ re ru
          exact SeqAt.plain_unique _ _ _ _ _ pd r1 r2
        subst this
        rw [eqX] at q
        split at q
        · cases q; exact SeqAt.eqv_refl_plain _ pd
        · cases q
      | l h1 h2 =>
        rename_i d1 a xs ds
        cases d1 with
        | list ys =>
          rw [eqX] at q
          split at q
          · cases q
          · rename_i ne
            have := DpX.list_len I h1 rd
            have := h2.len
            exact absurd (by omega) ne
        | _ => simp [eqX] at q
      | d _ _ => rename_i d1 _ _ _ _ _; cases d1 <;> simp [eqX] at q
    | l h1 h2 =>
      cases he with
      | p pe re =>
        rename_i xs ds e1
        cases e1 with
        | list ys =>
          rw [eqX] at q
          split at q
          · cases q
          · rename_i ne
            have := DpX.list_len I h1 re
            have := h2.len
            exact absurd (by omega) ne
        | _ => simp [eqX] at q
      | l h3 h4 =>
        have e := I.list_inj h1 h3
        subst e
        rw [eqX] at q
        split at q
        · exact items h2 h4 q
        · rename_i ne
          have := h2.len
          have := h4.len
          exact absurd (by omega) ne
      | d _ _ => simp [eqX] at q
    | d h1 h2 =>
      cases he with
      | p _ _ => simp [eqX] at q
      | l _ _ => simp [eqX] at q
      | d h3 h4 =>
        have e := rd_inj h1 h3 (fun _ _ z => nomatch z) (fun _ _ z => nomatch z)
        cases e
        rename_i ws ks _ ls
        rw [eqX] at q
        split at q
        · rename_i nd
          split at q
          · have key : ∀ {xs : List (Key × V)} {ds es : List (Key × DV)} {b : Bool}, DpXd X.K H xs ds → DpXd X.K H xs es → (∀ kv, kv ∈ es → kv ∈ ls) → eqXd (eqX n) ls ds = some b → b = true := by
              intro xs
              induction xs with
              | nil => intro ds es b h1 h2 _ q; cases h1; cases h2; cases q; rfl
              | cons x xs ih2 =>
                intro ds es b h1 h2 hm q
                cases h1 with
                | @cons k v _ d1 ds1 a1 b1 =>
                  cases h2 with
                  | @cons _ _ _ e1 es1 a2 b2 =>
                    rw [eqXd, lookX_mem nd (hm _ List.mem_cons_self)] at q
                    dsimp only at q
                    split at q
                    · rename_i r1 r2 q1 q2
                      cases q
                      rw [ih a1 a2 q1, ih2 b1 b2 (fun kv hk => hm kv (List.mem_cons_of_mem _ hk)) q2]; rfl
                    · cases q
            exact key h2 h4 (fun _ h => h) q
          · rename_i ne
            have := h2.len
            have := h4.len
            exact absurd (by omega) ne
        · cases q
end
end P
namespace P
open PySem PySem.Spec PyProof.Rows L2 G
theorem eqXs_bs {f : DV → DV → Option Bool} : ∀ {xs ys : List DV} {b : Bool}, eqXs f xs ys = some b → ∃ bs : List Bool, bs.length = xs.length ∧ b = bs.all id ∧ ∀ (j : Nat) (x y : DV), xs[j]? = some x → ys[j]? = some y → ∃ c, bs[j]? = some c ∧ f x y = some c
  | [], [], b, q => by cases q; exact ⟨[], rfl, rfl, fun j x y h => by simp at h⟩
  | x :: xs, y :: ys, b, q => by
    rw [eqXs] at q
    split at q
    · rename_i a c q1 q2
      cases q
      obtain ⟨bs, h1, h2, h3⟩ := eqXs_bs q2
      refine ⟨a :: bs, congrArg (· + 1) h1, by rw [List.all_cons, ← h2]; rfl, fun j u v e1 e2 => ?_⟩
      cases j with
      | zero => cases e1; cases e2; exact ⟨a, rfl, q1⟩
      | succ j => exact h3 j u v (by simpa using e1) (by simpa using e2)
    · cases q
  | [], _ :: _, _, q => by simp [eqXs] at q
  | _ :: _, [], _, q => by simp [eqXs] at q
theorem range_all (bs : List Bool) : ((List.range bs.length).all fun j => bs.getD j true) = bs.all id := by
  rw [Bool.eq_iff_iff, List.all_eq_true, List.all_eq_true]
  constructor
  · intro h b hb
    obtain ⟨j, hj, rfl⟩ := List.mem_iff_getElem.mp hb
    have := h j (List.mem_range.mpr hj)
    simpa [List.getD, List.getElem?_eq_getElem hj] using this
  · intro h j hj
    have hj' := List.mem_range.mp hj
    have := h _ (List.getElem_mem hj')
    simpa [List.getD, List.getElem?_eq_getElem hj'] using this
theorem range_any (bs : List Bool) : ((List.range bs.length).any fun j => bs.getD j false) = bs.any id := by
  rw [Bool.eq_iff_iff, List.any_eq_true, List.any_eq_true]
  constructor
  · rintro ⟨j, hj, h⟩
    have hj' := List.mem_range.mp hj
    refine ⟨_, List.getElem_mem hj', ?_⟩
    simpa [List.getD, List.getElem?_eq_getElem hj'] using h
  · rintro ⟨b, hb, h⟩
    obtain ⟨j, hj, rfl⟩ := List.mem_iff_getElem.mp hb
    exact ⟨j, List.mem_range.mpr hj, by simpa [List.getD, List.getElem?_eq_getElem hj] using h⟩
section
variable {X : Cx} {pins : List (Addr × Obj)} {σ : St} {H : Hp} {s : Shared}
theorem DpXs.get {K : PySem.W.Frag} : ∀ {xs : List V} {ds : List DV} {j : Nat} {x : V}, DpXs K H xs ds → xs[j]? = some x → ∃ d, ds[j]? = some d ∧ DpX K H x d
  | [], _, j, x, h, e => by simp at e
  | x :: xs, _, 0, y, h, e => by
    cases h with
    | cons a b => cases e; exact ⟨_, rfl, a⟩
  | x :: xs, _, j + 1, y, h, e => by
    cases h with
    | cons a b => exact DpXs.get (j := j) b (by simpa using e)
theorem vals_get : ∀ {xs : List V} {us : List Value} {j : Nat} {u : Value}, Vals xs us → us[j]? = some u → ∃ x, xs[j]? = some x ∧ RelV x u
  | _, _, j, u, .nil, e => by simp at e
  | x :: xs, u :: us, 0, v, .cons a b, e => by cases e; exact ⟨_, rfl, a⟩
  | x :: xs, u :: us, j + 1, v, .cons a b, e => vals_get (j := j) b (by simpa using e)
abbrev RcP (X : Cx) (A : Around) (s : Shared) (u v : Value) (b : Bool) : Prop :=
  (∀ (E Q : Value → Shared → Prop), Q (.bool b) s → wpAny (model X.prog X.w) A (richCompare .Eq u v) Q E s) ∧ ∀ (E Q : Value → Shared → Prop), Q (.bool (!b)) s → wpAny (model X.prog X.w) A (richCompare .NotEq u v) Q E s
theorem eqX_run (I : Inv X pins σ H s) : ∀ (n : Nat) (A : Around), A.units + n + 65 < cLine → ∀ {x y : V} {u v : Value} {d e : DV} {b : Bool}, DpX X.K H x d → DpX X.K H y e → RelV x u → RelV y v → eqX n d e = some b →
    RcP X A s u v b ∧ SeqAt.EqP X.prog X.w A s u v b := by
  have plain : ∀ (A : Around), A.units + 65 < cLine → ∀ {x y : V} {u v : Value} {d e : PyData}, d.plain = true → e.plain = true → Dp X.K H x d → Dp X.K H y e → RelV x u → RelV y v → min d.depth e.depth ≤ 64 →
      RcP X A s u v (PyData.eqv d e) ∧ SeqAt.EqP X.prog X.w A s u v (PyData.eqv d e) := fun A hu x y u v d e pd pe rd re ru rv hm => by
    obtain ⟨as, r1⟩ := Dp.reads I _ _ _ rd ru
    obtain ⟨cs, r2⟩ := Dp.reads I _ _ _ re rv
    exact ⟨⟨fun E Q q => SeqAt.eq_plain r1 r2 pd pe (by omega) q, fun E Q q => SeqAt.ne_plain r1 r2 pd pe (by omega) q⟩, (SeqAt.eqAt_plain d e A s u v _ _ r1 r2 pd pe (by omega)).eqP⟩
  -- two lists of different lengths
  have lens : ∀ (A : Around), A.units + 65 < cLine → ∀ {a c : Addr} {its jts : List Value}, s.heap.IsList a its.toArray → s.heap.IsList c jts.toArray → its.length ≠ jts.length →
      RcP X A s (.ref a) (.ref c) false ∧ SeqAt.EqP X.prog X.w A s (.ref a) (.ref c) false := fun A hu a c its jts h1 h2 ne => by
    have hz : (its.toArray.size != jts.toArray.size) = true := by simpa using ne
    have r := SeqAt.RcAt.lists_lengths (A := A) h1 h2 hz (by omega)
    refine ⟨⟨fun E Q q => r X.prog X.w E Q q, fun E Q q => SeqAt.RcNeAt.lists_lengths (A := A) h1 h2 hz (by omega) X.prog X.w E Q q⟩, (SeqAt.EqAt.of_refs (fun z => ?_) r).eqP⟩
    subst z
    obtain ⟨o, e1, _, n, e2⟩ := h1
    obtain ⟨o', e3, _, n', e4⟩ := h2
    rw [e1] at e3
    cases e3
    rw [e2] at e4
    cases e4
    exact ne rfl
  have plist : ∀ {c : Addr} {ys : List PyData}, Dp X.K H (.ref c) (.list ys) → ∃ its : List Value, its.length = ys.length ∧ s.heap.IsList c its.toArray := fun {c ys} re => by
    cases re with
    | @lst _ zs _ h1 h2 =>
      obtain ⟨its, r1, p1, _⟩ := I.list h1
      refine ⟨its, ?_, p1.isList⟩
      rw [← r1.length, DpX.list_len I h1 (.lst h1 h2)]
  intro n
  induction n with
  | zero =>
    intro A hu x y u v d e b hd he ru rv q
    cases hd with
    | p pd rd =>
      cases he with
      | p pe re =>
        rw [eqX] at q
        split at q
        · rename_i hm; cases q; exact plain A (by omega) pd pe rd re ru rv hm
        · cases q
      | l _ _ => simp [eqX] at q
      | d _ _ => simp [eqX] at q
    | l _ _ => cases he <;> simp [eqX] at q
    | d _ _ => cases he <;> simp [eqX] at q
  | succ n ih =>
    intro A hu x y u v d e b hd he ru rv q
    have full := q
    cases hd with
    | p pd rd =>
      cases he with
      | p pe re =>
        rw [eqX] at q
        split at q
        · rename_i hm; cases q; exact plain A (by omega) pd pe rd re ru rv hm
        · cases q
      | l h1 h2 =>
        rename_i d1 c xs ds
        cases d1 with
        | list ys =>
          rw [eqX] at q
          split at q
          · cases q
          · rename_i ne
            cases q
            obtain ⟨a, rfl⟩ : ∃ a, x = .ref a := by cases rd with | lst _ _ => exact ⟨_, rfl⟩
            cases (show u = Value.ref a from ru)
            cases (show v = Value.ref c from rv)
            obtain ⟨its, l1, k1⟩ := plist rd
            obtain ⟨jts, r2, k2, _⟩ := I.list h1
            exact lens A (by omega) k1 k2.isList (by rw [l1, ← r2.length, h2.len]; exact ne)
        | _ => simp [eqX] at q
      | d _ _ => rename_i d1 _ _ _ _ _; cases d1 <;> simp [eqX] at q
    | l h1 h2 =>
      rename_i a xs ds
      cases (show u = Value.ref a from ru)
      cases he with
      | p pe re =>
        rename_i e1
        cases e1 with
        | list ys =>
          rw [eqX] at q
          split at q
          · cases q
          · rename_i ne
            cases q
            obtain ⟨c, rfl⟩ : ∃ a, y = .ref a := by cases re with | lst _ _ => exact ⟨_, rfl⟩
            cases (show v = Value.ref c from rv)
            obtain ⟨its, l1, k1⟩ := plist re
            obtain ⟨jts, r2, k2, _⟩ := I.list h1
            exact lens A (by omega) k2.isList k1 (by rw [l1, ← r2.length, h2.len]; exact ne)
        | _ => simp [eqX] at q
      | l h3 h4 =>
        rename_i c ys es
        cases (show v = Value.ref c from rv)
        obtain ⟨its, r1, k1, _⟩ := I.list h1
        obtain ⟨jts, r2, k2, _⟩ := I.list h3
        rw [eqX] at q
        split at q
        · rename_i hl
          obtain ⟨bs, b1, b2, b3⟩ := eqXs_bs q
          have z1 : its.length = ds.length := by rw [← r1.length, h2.len]
          have z2 : jts.length = es.length := by rw [← r2.length, h4.len]
          have hz : its.toArray.size = jts.toArray.size := by simp only [List.size_toArray]; omega
          have he : ∀ j (j1 : j < its.toArray.size) (j2 : j < jts.toArray.size), SeqAt.EqP X.prog X.w A.in1 s its.toArray[j] jts.toArray[j] (bs.getD j true) := fun j j1 j2 => by
            have j1' : j < its.length := by simpa using j1
            have j2' : j < jts.length := by simpa using j2
            obtain ⟨x1, e1, f1⟩ := vals_get r1 (List.getElem?_eq_getElem j1')
            obtain ⟨x2, e2, f2⟩ := vals_get r2 (List.getElem?_eq_getElem j2')
            obtain ⟨d1, e3, f3⟩ := h2.get e1
            obtain ⟨d2, e4, f4⟩ := h4.get e2
            obtain ⟨cc, e5, f5⟩ := b3 j d1 d2 e3 e4
            have : bs.getD j true = cc := by rw [List.getD, e5]; rfl
            rw [this]
            simpa using (ih A.in1 (by show A.units + 1 + n + 65 < cLine; omega) f3 f4 f1 f2 f5).2
          have hb : (List.range its.toArray.size).all (fun j => bs.getD j true) = b := by
            rw [b2, ← range_all bs, List.size_toArray, z1, ← b1]
          have rc : RcP X A s (.ref a) (.ref c) b := ⟨fun E Q q' => SeqAt.rcP_lists k1.isList k2.isList hz (by omega) he E Q (by rw [hb]; exact q'), fun E Q q' => P.Q.differ_rc k1.isList k2.isList hz (by omega) he (by rw [hb]; exact q')⟩
          refine ⟨rc, ?_⟩
          by_cases ac : a = c
          · subst ac
            rw [eqX_refl I (n + 1) (.l h1 h2) (.l h3 h4) full]
            exact (SeqAt.EqAt.same _).eqP
          · exact SeqAt.eqP_refs ac rc.1
        · rename_i ne
          cases q
          exact lens A (by omega) k1.isList k2.isList (by rw [← r1.length, ← r2.length, h2.len, h4.len]; exact ne)
      | d _ _ => simp [eqX] at q
    | d h1 h2 =>
      rename_i a ws ks
      cases (show u = Value.ref a from ru)
      cases he with
      | p _ _ => simp [eqX] at q
      | l _ _ => simp [eqX] at q
      | d h3 h4 =>
        rename_i c us ls
        cases (show v = Value.ref c from rv)
        have ob : ∀ {a : Addr} {ws : List (Key × V)}, Rd H a (.dK ws) → (a == sysModules) = false ∧ ∃ vs, KV ws vs ∧ s.heap.DictOf (mixKind X.prog X.w) a vs := fun {a ws} h => by
          rcases h with h | ⟨o, h⟩
          · obtain ⟨_, z1, vs, z2, z3⟩ := (show ObjOk X.prog X.w H s.heap a (.dK ws) from I.hok a _ h)
            exact ⟨z1, vs, z2, z3⟩
          · obtain ⟨_, _, z1, vs, z2, z3⟩ := (show ObjOk X.prog X.w H s.heap a (.frz o (.dK ws)) from I.hok a _ h)
            exact ⟨z1, vs, z2, z3⟩
        obtain ⟨sa, va, ra, da⟩ := ob h1
        obtain ⟨sb, vb, rb, db⟩ := ob h3
        rw [eqX] at q
        split at q
        · rename_i nd
          have la : va.length = ks.length := by rw [← ra.length, h2.len]
          have lb : vb.length = ls.length := by rw [← rb.length, h4.len]
          have main : ∀ r, (va.length = vb.length → PySem.W.KeqHitsP X.prog X.w A.in1 s vb va r) → b = (va.length == vb.length && r) → RcP X A s (.ref a) (.ref c) b ∧ SeqAt.EqP X.prog X.w A s (.ref a) (.ref c) b := fun r hits hb => by
            have rc : RcP X A s (.ref a) (.ref c) b := ⟨fun E Q q' => PySem.W.rcP_dicts (knd := mixKind X.prog X.w) sa sb da db (by omega) hits E Q (by rw [← hb]; exact q'), fun E Q q' => P.Q.differ_dict (knd := mixKind X.prog X.w) sa sb da db (by omega) hits (by rw [← hb]; exact q')⟩
            refine ⟨rc, ?_⟩
            by_cases ac : a = c
            · subst ac
              rw [eqX_refl I (n + 1) (.d h1 h2) (.d h3 h4) full]
              exact (SeqAt.EqAt.same _).eqP
            · exact SeqAt.eqP_refs ac rc.1
          split at q
          · rename_i hl
            have hits : ∀ {xs : List (Key × V)} {ds : List (Key × DV)} {vs : List (Key × Value)} {b : Bool}, DpXd X.K H xs ds → KV xs vs → eqXd (eqX n) ls ds = some b → PySem.W.KeqHitsP X.prog X.w A.in1 s vb vs b := by
              intro xs
              induction xs with
              | nil => intro ds vs b h1 h2 q; cases h1; cases h2; cases q; exact .nil
              | cons p xs ih2 =>
                intro ds vs b g1 g2 q
                cases g1 with
                | @cons k x1 _ d1 ds1 a1 b1 =>
                  cases g2 with
                  | @cons _ w _ ws' g3 g4 =>
                    obtain ⟨k', v'⟩ := w
                    obtain ⟨ek, rv'⟩ := g3
                    dsimp only at ek rv'
                    subst ek
                    rw [eqXd] at q
                    have lk := h4.look (k := k)
                    have rr := rb.val k
                    dsimp only at q
                    split at q
                    · rename_i q0
                      cases q
                      rw [q0] at lk
                      rw [show valV us k = none from lk] at rr
                      exact .miss rr.none_of
                    · rename_i u1 q0
                      rw [q0] at lk
                      obtain ⟨y1, ly, dy⟩ := lk
                      rw [ly] at rr
                      obtain ⟨w1, ew, rw1⟩ := rr.some_of
                      split at q
                      · rename_i r1 r2 q1 q2
                        cases q
                        exact .hit ew (ih A.in1 (by show A.units + 1 + n + 65 < cLine; omega) a1 dy rv' rw1 q1).2 (ih2 b1 g4 q2)
                      · cases q
            exact main b (fun _ => hits h2 ra q) (by rw [la, lb, hl]; simp)
          · rename_i ne
            cases q
            have nl : va.length ≠ vb.length := by rw [la, lb]; exact ne
            exact main true (fun z => absurd z nl) (by simp [nl])
        · cases q
end
end P
/-! P: == and in for all that holds data. -/
namespace P
open PySem PySem.Spec PyProof.Rows L2 G
def mapO {α β : Type} (f : α → Option β) : List α → Option (List β)
  | [] => some []
  | x :: xs => match f x, mapO f xs with
    | some y, some ys => some (y :: ys)
    | _, _ => none
def lsX (f : FV → Option DV) (ds : List FV) : Option DV := if FV.pures ds = true then some (.p (.list (FV.pys ds))) else (mapO f ds).map .l
def dcX (f : FV → Option DV) (kvs : List (Key × FV)) : Option DV := (mapO f (kvs.map (·.2))).map fun ds => .d ((kvs.map (·.1)).zip ds)
/-- a value's data, dicts too -/
def FV.dv (h : FH) : Nat → FV → Option DV
  | 0, x => if x.pure = true then some (.p x.py) else none
  | n + 1, x => if x.pure = true then some (.p x.py) else match x with
    | .fl xs => (mapO (FV.dv h n) xs).map .l
    | .fd ks vs => (mapO (FV.dv h n) vs).map fun ds => .d (ks.zip ds)
    | .ref m => match h[m]? with
      | some (.lst ds) => lsX (FV.dv h n) ds
      | some (.dK kvs) => dcX (FV.dv h n) kvs
      | _ => none
    | _ => none
def RV.dv (r : RV) (h : FH) : Option DV := match r with
  | .v x => x.dv h 3
  | .l ds => lsX (FV.dv h 3) ds
  | .bl ds => lsX (FV.dv h 3) ds
  | .d kvs => dcX (FV.dv h 3) kvs
  | .bd kvs => dcX (FV.dv h 3) kvs
  | _ => none
section
variable {B : Bs} {H H0 : Hp} {μ : Nat → Addr} {n k : Nat} {h : FH}
theorem mapO_ok {f : FV → Option DV} (hf : ∀ (d : FV) (v : V) (e : DV), VR B H μ n d v → f d = some e → DpX B.K H v e) : ∀ {ds : List FV} {vs : List V} {es : List DV}, VRs B H μ n ds vs → mapO f ds = some es → DpXs B.K H vs es
  | [], _, es, r, e => by cases r; cases e; exact .nil
  | d :: ds, _, es, r, e => by
    cases r with
    | cons a b =>
      rw [mapO] at e
      split at e
      · rename_i y ys e1 e2
        cases e
        exact .cons (hf _ _ _ a e1) (mapO_ok hf b e2)
      · cases e
theorem zipX {K : PySem.W.Frag} : ∀ {ks : List Key} {vs : List V} {es : List DV}, DpXs K H vs es → DpXd K H (ks.zip vs) (ks.zip es)
  | [], _, _, _ => by rw [List.zip_nil_left, List.zip_nil_left]; exact .nil
  | k :: ks, _, _, .nil => .nil
  | k :: ks, _, _, .cons a b => .cons a (zipX b)
theorem lsX_ok {f : FV → Option DV} (hf : ∀ (d : FV) (v : V) (e : DV), VR B H μ n d v → f d = some e → DpX B.K H v e) {ds : List FV} {xs : List V} {a : Addr} {e : DV} (q : SqL B.K H a xs) (r : VRs B H μ n ds xs) (z : lsX f ds = some e) : DpX B.K H (.ref a) e := by
  unfold lsX at z
  split at z
  · rename_i hp
    cases z
    exact .p (by simpa [PyData.plain] using FV.pys_plain) (.lst q (r.dp hp))
  · cases q' : mapO f ds with
    | none => rw [q'] at z; cases z
    | some es => rw [q'] at z; cases z; exact .l q (mapO_ok hf r q')
theorem dcX_ok {f : FV → Option DV} (hf : ∀ (d : FV) (v : V) (e : DV), VR B H μ n d v → f d = some e → DpX B.K H v e) {kvs : List (Key × FV)} {ws : List (Key × V)} {a : Addr} {e : DV} (q : Rd H a (.dK ws)) (r : KvR B H μ n kvs ws) (z : dcX f kvs = some e) : DpX B.K H (.ref a) e := by
  unfold dcX at z
  cases q' : mapO f (kvs.map (·.2)) with
  | none => rw [q'] at z; cases z
  | some es =>
    rw [q'] at z
    cases z
    refine .d q ?_
    have := zipX (ks := ws.map (·.1)) (mapO_ok hf r.snd q')
    rw [zip_parts, r.fst] at this
    exact this
theorem FV.dv_ok (hr : HR B μ h H) : ∀ (k : Nat) (d : FV) (v : V) (e : DV), VR B H μ h.length d v → d.dv h k = some e → DpX B.K H v e
  | 0, d, v, e, r, q => by
    unfold FV.dv at q
    split at q
    · rename_i hp; cases q; exact .p FV.py_plain (r.dp hp)
    · cases q
  | k + 1, d, v, e, r, q => by
    have ih := FV.dv_ok hr k
    unfold FV.dv at q
    split at q
    · rename_i hp; cases q; exact .p FV.py_plain (r.dp hp)
    · rename_i np
      clear np
      split at q
      · rename_i xs
        cases z : mapO (FV.dv h k) xs with
        | none => rw [z] at q; cases q
        | some es =>
          rw [z] at q
          cases q
          cases r with
          | fl a b => exact .l (.inl a.rd) (mapO_ok ih b z)
      · rename_i ks vs
        cases z : mapO (FV.dv h k) vs with
        | none => rw [z] at q; cases q
        | some es =>
          rw [z] at q
          cases q
          cases r with
          | fd a b => exact .d a.rd (zipX (mapO_ok ih b z))
      · rename_i m
        cases r with
        | ref lm =>
          split at q
          · rename_i ds z
            obtain ⟨xs, h1, h2⟩ := hr.at' m _ z
            exact lsX_ok ih (SqL.of h1) h2 q
          · rename_i kvs z
            obtain ⟨ws, h1, h2⟩ := hr.at' m _ z
            exact dcX_ok ih (Rd.of h1) h2 q
          · cases q
      · cases q
theorem dv_ok {x : RV} {u : V} {e : DV} (hr : HR B μ h H) (r : RR B H0 μ h.length H x u) (q : x.dv h = some e) : DpX B.K H u e := by
  unfold RV.dv at q
  split at q
  · cases r with | v r => exact FV.dv_ok hr _ _ _ _ r q
  · cases r with | l f a b => exact lsX_ok (FV.dv_ok hr _) (SqL.of a) b q
  · cases r with | bl f a b => exact lsX_ok (FV.dv_ok hr _) (SqL.of a) b q
  · cases r with | d f a b => exact dcX_ok (FV.dv_ok hr _) (Rd.of a) b q
  · cases r with | bd f a b => exact dcX_ok (FV.dv_ok hr _) (Rd.of a) b q
  · cases q
end
section
variable {X : Cx} {W : WX} {E : Ent} {Γ : Sl} {e a b c : Expr} {es : List Expr} {pos p0 p1 p2 : Pos} {fa fb fc : M RV} {k : Nat}
/-! ### ==, != -/
def rQ (K : PySem.W.Frag) (neg : Bool) : R2 := fun x y H Q => ∃ d e b, DpX K H x d ∧ DpX K H y e ∧ eqX 4 d e = some b ∧ Q (.bl (if neg = true then !b else b)) H
theorem op_Q (hu : X.A.units + 69 < cLine) : OpR X (compareOp .Eq) (rQ X.K false) := by
  intro pins s σ H x y v u Q I rx ry h
  obtain ⟨d, e, b, hd, he, z, q⟩ := h
  exact (eqX_run I 4 X.A (by omega) hd he rx ry z).1.1 _ _ ⟨.bl b, H, I, rfl, q⟩
theorem op_nQ (hu : X.A.units + 69 < cLine) : OpR X (compareOp .NotEq) (rQ X.K true) := by
  intro pins s σ H x y v u Q I rx ry h
  obtain ⟨d, e, b, hd, he, z, q⟩ := h
  exact (eqX_run I 4 X.A (by omega) hd he rx ry z).1.2 _ _ ⟨.bl (!b), H, I, rfl, q⟩
def gQ (neg : Bool) (x y : RV) (h : FH) : Option Bool := match x.dv h, y.dv h with
  | some d, some e => (eqX 4 d e).map fun b => if neg = true then !b else b
  | _, _ => none
theorem q_ok {neg : Bool} : CmpOk X (rQ X.K neg) (gQ neg) := fun μ h H0 H x y u v Q z hr rx ry e k => by
  unfold gQ at e
  split at e
  · rename_i d d' e1 e2
    cases e3 : eqX 4 d d' with
    | none => rw [e3] at e; cases e
    | some b =>
      rw [e3] at e
      cases e
      exact ⟨d, d', b, dv_ok hr rx e1, dv_ok hr ry e2, e3, k H (Same.refl H)⟩
  · cases e
theorem units69 {k : Nat} {A : Around} (r : Room k A) : A.units + 70 < cLine := by have := r.un; omega
theorem jt_q (hr : Room k X.A) (ha : JE X W E Γ a fa) (hb : JE X W E Γ b fb) : JT X W E Γ (.Compare a [.Eq] [b] pos) (bnd fa fun x => bnd fb fun y => oC (gQ false) x y) := jt_cmp (op_Q (by have := units69 hr; omega)) q_ok ha hb (nomark _)
theorem jt_nq (hr : Room k X.A) (ha : JE X W E Γ a fa) (hb : JE X W E Γ b fb) : JT X W E Γ (.Compare a [.NotEq] [b] pos) (bnd fa fun x => bnd fb fun y => oC (gQ true) x y) := jt_cmp (op_nQ (by have := units69 hr; omega)) q_ok ha hb (nomark _)
theorem je_q (hr : Room k X.A) (ha : JE X W E Γ a fa) (hb : JE X W E Γ b fb) : JE X W E Γ (.Compare a [.Eq] [b] pos) (mB (bnd fa fun x => bnd fb fun y => oC (gQ false) x y)) := je_cmp (op_Q (by have := units69 hr; omega)) q_ok ha hb (nomark _)
/-! ### in: lists of data with dicts, else as before -/
def anyX (f : DV → Option Bool) : List DV → Option (List Bool)
  | [] => some []
  | x :: xs => match f x, anyX f xs with
    | some a, some b => some (a :: b)
    | _, _ => none
theorem anyX_at {f : DV → Option Bool} : ∀ {xs : List DV} {bs : List Bool}, anyX f xs = some bs → bs.length = xs.length ∧ ∀ (j : Nat) (x : DV), xs[j]? = some x → ∃ c, bs[j]? = some c ∧ f x = some c
  | [], bs, q => by cases q; exact ⟨rfl, fun j x e => by simp at e⟩
  | x :: xs, bs, q => by
    rw [anyX] at q
    split at q
    · rename_i a c q1 q2
      cases q
      obtain ⟨h1, h2⟩ := anyX_at q2
      refine ⟨congrArg (· + 1) h1, fun j u e => ?_⟩
      cases j with
      | zero => cases e; exact ⟨a, rfl, q1⟩
      | succ j => exact h2 j u (by simpa using e)
    · cases q
def rMx (K : PySem.W.Frag) (neg : Bool) : R2 := fun x y H Q => ∃ d a xs es bs, DpX K H x d ∧ y = .ref a ∧ SqL K H a xs ∧ DpXs K H xs es ∧ anyX (fun z => eqX 4 z d) es = some bs ∧ Q (.bl (if neg = true then !bs.any id else bs.any id)) H
theorem mx_run {neg : Bool} (hu : X.A.units + 70 < cLine) {pins : List (Addr × Obj)} {s : Shared} {σ : St} {H : Hp} {x y : V} {v u : Value} {Q : VK} (I : Inv X pins σ H s) (rx : RelV x v) (ry : RelV y u) (h : rMx X.K neg x y H Q) :
    wpAny (model X.prog X.w) X.A (compareOp (if neg = true then .NotIn else .In) v u) (EP X pins σ Q) X.xe s := by
  obtain ⟨d, a, xs, es, bs, hd, rfl, hl, hx, hb, q⟩ := h
  obtain rfl : u = Value.ref a := ry
  obtain ⟨its, r1, k1, _⟩ := I.list hl
  obtain ⟨b1, b2⟩ := anyX_at hb
  have z1 : its.length = es.length := by rw [← r1.length, hx.len]
  refine P.Q.has_in (e := fun j => bs.getD j false) k1.isList (fun j j1 => ?_) ?_
  · have j1' : j < its.length := by simpa using j1
    obtain ⟨x1, e1, f1⟩ := vals_get r1 (List.getElem?_eq_getElem j1')
    obtain ⟨d1, e3, f3⟩ := hx.get e1
    obtain ⟨cc, e5, f5⟩ := b2 j d1 e3
    have : bs.getD j false = cc := by rw [List.getD, e5]; rfl
    rw [this]
    have := (eqX_run I 4 X.A.in1 (by show X.A.units + 1 + 4 + 65 < cLine; omega) f3 hd f1 rx f5).2
    simpa using this
  · have e : (List.range its.toArray.size).any (fun j => bs.getD j false) = bs.any id := by rw [← range_any bs, List.size_toArray, z1, ← b1]
    rw [e]
    exact ⟨.bl _, H, I, rfl, q⟩
theorem op_mx (hu : X.A.units + 70 < cLine) : OpR X (compareOp .In) (rMx X.K false) := fun pins s σ H x y v u Q I rx ry h => mx_run (neg := false) hu I rx ry h
theorem op_nmx (hu : X.A.units + 70 < cLine) : OpR X (compareOp .NotIn) (rMx X.K true) := fun pins s σ H x y v u Q I rx ry h => mx_run (neg := true) hu I rx ry h
/-- a text within a text -/
def inS (w z : Str) : Bool := !(Builtin.Str.occurrences z w 0 z.length 1).isEmpty
def rInS (neg : Bool) : R2 := fun x y H Q => ∃ i j, x = .str i ∧ y = .str j ∧ Q (.bl (if neg = true then !inS i j else inS i j)) H
def gMx (neg : Bool) (x y : RV) (h : FH) : Option Bool := match gIn neg x y h with
  | some b => some b
  | none => match x, y with
    | .v (.str w), .v (.str z) => some (if neg = true then !inS w z else inS w z)
    | x, y => match x.dv h, y.seq h with
      | some d, some (false, ds) => match mapO (FV.dv h 3) ds with
        | some es => (anyX (fun z => eqX 4 z d) es).map fun bs => if neg = true then !bs.any id else bs.any id
        | none => none
      | _, _ => none
theorem mx_ok {neg : Bool} : CmpOk X (fun x y H Q => (rInH X.K neg x y H Q ∨ rInS neg x y H Q) ∨ rMx X.K neg x y H Q) (gMx neg) := fun μ h H0 H x y u v Q z hr rx ry e k => by
  unfold gMx at e
  split at e
  · rename_i b q
    cases e
    exact .inl (.inl (in_ok μ h H0 H x y u v Q _ hr rx ry q k))
  · split at e
    · cases e
      exact .inl (.inr ⟨_, _, rr_str rx, rr_str ry, k H (Same.refl H)⟩)
    split at e
    · rename_i d ds e1 e2
      split at e
      · rename_i es e3
        cases e4 : anyX (fun z => eqX 4 z d) es with
        | none => rw [e4] at e; cases e
        | some bs =>
          rw [e4] at e
          cases e
          obtain ⟨a, xs, rfl, h2, h3⟩ := seq_ok hr ry e2
          rw [if_neg (by decide)] at h3
          exact .inr ⟨d, a, xs, es, bs, dv_ok hr rx e1, rfl, h3, mapO_ok (FV.dv_ok hr 3) h2 e3, e4, k H (Same.refl H)⟩
      · cases e
    · cases e
theorem jt_mx (hr : Room k X.A) (ha : JE X W E Γ a fa) (hb : JE X W E Γ b fb) (hm : behindInMarks .In b = false := by rfl) : JT X W E Γ (.Compare a [.In] [b] pos) (bnd fa fun x => bnd fb fun y => oC (gMx false) x y) := jt_cmp (OpR.or (OpR.or (op_inH (units66' hr)) op_in_str) (op_mx (units69 hr))) mx_ok ha hb hm
theorem jt_nmx (hr : Room k X.A) (ha : JE X W E Γ a fa) (hb : JE X W E Γ b fb) (hm : behindInMarks .NotIn b = false := by rfl) : JT X W E Γ (.Compare a [.NotIn] [b] pos) (bnd fa fun x => bnd fb fun y => oC (gMx true) x y) := jt_cmp (OpR.or (OpR.or (op_notInH (units66' hr)) op_notIn_str) (op_nmx (units69 hr))) mx_ok ha hb hm
end
end P
/-! P: what a call made is frozen, through and through. -/
namespace P
open PySem PySem.Spec PyProof.Rows L2 G
/-- .. several things frozen, one after another -/
inductive Gs (Z : Hp → Prop) : Hp → Prop
  | here {H : Hp} : Z H → Gs Z H
  | more {H : Hp} {p : Addr} {u : HO} : H p = some u → Mut (some u) → (∀ od, Gs Z (upd H p (.frz od u))) → Gs Z H
/-- x with all objects from n on frozen -/
def FV.dz (n : Nat) (h : FH) : Nat → FV → Option FV
  | 0, x => if x.lowB n = true then some x else none
  | k + 1, x => if x.lowB n = true then some x else match x with
    | .ref i => match h[i]? with
      | some (.lst ds) => (mapO (FV.dz n h k) ds).map .fl
      | some (.dK kvs) => (mapO (FV.dz n h k) (kvs.map (·.2))).map (.fd (kvs.map (·.1)))
      | some (.dT kvs) => (mapO (FV.dz n h k) (kvs.map (·.2))).map (.ft (kvs.map (·.1)))
      | some (.ins c fs) => (mapO (FV.dz n h k) (fs.map (·.2))).map (.fo c (fs.map (·.1)))
      | _ => none
    | .tup xs => (mapO (FV.dz n h k) xs).map .tup
    | .fl xs => (mapO (FV.dz n h k) xs).map .fl
    | .fd ks xs => (mapO (FV.dz n h k) xs).map (.fd ks)
    | .ft ks xs => (mapO (FV.dz n h k) xs).map (.ft ks)
    | .fo c ks xs => (mapO (FV.dz n h k) xs).map (.fo c ks)
    | _ => none
def dzs (n : Nat) (h : FH) {κ : Type} (kvs : List (κ × FV)) : Option (List (κ × FV)) := (mapO (FV.dz n h 4) (kvs.map (·.2))).map fun vs => (kvs.map (·.1)).zip vs
def RV.dz (n : Nat) (h : FH) : RV → Option RV
  | .v x => (x.dz n h 5).map .v
  | .l ds => (mapO (FV.dz n h 4) ds).map .l
  | .d kvs => (dzs n h kvs).map .d
  | .t kvs => (dzs n h kvs).map .t
  | .o c fs => (dzs n h fs).map (.o c)
  | _ => none
def dzR (n : Nat) (r : RV) (h : FH) : Rs RV :=
  if n < h.length ∧ (h.take n).all (·.lowB n) = true then match r.dz n h with
    | some r' => .ok r' (h.take n)
    | none => .ok r h
  else .ok r h
def dF (m : M RV) : M RV := fun h => match m h with
  | .ok r h' => dzR h.length r h'
  | .ex x h' => .ex x h'
  | .no => .no
theorem dF_same {m : M RV} {h h' : FH} {r : RV} (e : m h = .ok r h') (l : h'.length ≤ h.length) : dF m h = .ok r h' := by
  unfold dF; rw [e]; show dzR h.length r h' = _; unfold dzR; rw [if_neg (fun z => absurd z.1 (Nat.not_lt_of_le l))]
theorem dF_pur (r : RV) : dF (pur r) = pur r := by
  funext h; exact dF_same rfl (Nat.le_refl _)
end P
/-! P: objects of own classes: fields, methods, making. -/
namespace P
open PySem PySem.Spec PyProof.Rows L2 G
abbrev CTab := List (Str × List Str)
/-- classes with plain objects, and fields that the class itself has not -/
structure CT (X : Cx) (tab : CTab) : Prop where
  ok : ∀ c fs, (c, fs) ∈ tab → ∃ C, X.mg c = some (.ref C) ∧ Cls X.K C ∧ ∀ f, f ∈ fs → NoAttr X.K C f
section
variable {α β γ δ : Type} {X : Cx} {W : WX} {E : Ent} {Γx : Option Sl} {eα : α → Sl} {eβ : β → Sl} {Γ Γ' : Sl} {e a b o i tg : Expr} {es : List Expr} {pos apos p0 : Pos} {fe fo fi fa fb : M RV} {rest : List Stmt} {n k : Nat}
/-! ### fields -/
/-! ### methods -/
/-- the class c has the method m, at level n; ds: the values of what is left out -/
structure HasM (P : Program) (w : World) (K : PySem.W.Frag) (mg : Str → Option Value) (base : Heap) (n : Nat) (c m : Str) (ps : List Str) (ds : List FV) (f : FDef) : Prop where
  ex : ∃ C a fd dvs us, FnOk P w K mg base (L2.CX P w) n a fd ps (spP ⟨K, mg⟩ f) ∧ mg c = some (.ref C) ∧ Cls K C ∧ Meth K C m a ∧ Binds K fd ps us ∧ Vals dvs us ∧ ∀ B H μ n, B.K = K → VRs B H μ n ds dvs
/-! ### a new object -/
structure HasK (P : Program) (w : World) (K : PySem.W.Frag) (mg : Str → Option Value) (base : Heap) (n : Nat) (c : Str) (ps : List Str) (ds : List FV) (f : FDef) : Prop where
  ex : ∃ C a fd dvs us, L2.Mk K C a ∧ FnOk P w K mg base (L2.CX P w) n a fd ps (spP ⟨K, mg⟩ f) ∧ mg c = some (.ref C) ∧ Binds K fd ps us ∧ Vals dvs us ∧ ∀ B H μ n, B.K = K → VRs B H μ n ds dvs
end
end P
/-! P19: sorted by a key that is a def. -/
namespace P
open PySem PySem.Spec PyProof.Rows L2 G
section
variable {X : Cx} {pins : List (Addr × Obj)} {σ : St} {H : Hp} {s : Shared} {h' : Heap}
/-- an address that nothing knows -/
structure Frh (X : Cx) (pins : List (Addr × Obj)) (a : Addr) : Prop where
  up : X.s_0.heap.objs.size ≤ a
  nl : a ≠ X.env.locals
  nf : a ∉ X.fs
  nc : ∀ x c, X.env.cells.lookup x = some c → c ≠ a
  np : ∀ p ∈ X.pn ++ pins, p.1 ≠ a
theorem frh_of (I : Inv X pins σ H s) {a : Addr} (l : s.heap.objs.size ≤ a) : Frh X pins a where
  up := Nat.le_trans I.sz l
  nl := fun z => by subst z; exact absurd (Nat.lt_of_lt_of_le I.lt l) (Nat.lt_irrefl _)
  nf := I.nofs l
  nc := fun x c e z => by
    subst z
    obtain ⟨v, o, ho, _⟩ := I.cell x c e
    exact absurd (Nat.lt_of_lt_of_le (Heap.lt_size ho) l) (Nat.lt_irrefl _)
  np := fun p hp z => by
    subst z
    exact absurd (Nat.lt_of_lt_of_le (Heap.lt_size (I.pin p hp).1) l) (Nat.lt_irrefl _)
/-- what is at addresses that nothing knows may change -/
theorem inv_loose {ch : List Addr} {t' : Nat} (I : Inv X pins σ H s) (hc : ∀ b ∈ ch, Frh X pins b ∧ H b = none) (k : ∀ b u, b ∉ ch → s.heap.get? b = some u → h'.get? b = some u) : Inv X pins σ H { s with heap := h', toks := t' } := by
  refine I.call (g' := s.gens) (d' := s.drawn) (ch := ch) ⟨fun b o e _ _ nb => k b o nb e, fun b o e _ _ nb => ⟨o.slots, k b o nb e⟩, fun b o _ n _ => n, fun b o e nb => ⟨o, k b o nb e⟩, fun b xs e => e, fun b o u e => e, fun b ps e => ⟨#[], by rw [e]; simp⟩⟩ (fun a o e => ?_) I.bare fun b hb => ?_
  · refine (I.hok a o e).stay (fun b u hb q => k b u (fun z => ?_) q) (fun _ q => q) fun _ _ q => q
    have n := (hc b z).2
    rcases hb with rfl | hb
    · rw [e] at n; cases n
    · rw [hb] at n; cases n
  · obtain ⟨f, _⟩ := hc b hb
    exact ⟨.inr f.up, f.nl, f.nc, f.np⟩
/-- .. and one of them becomes known -/
theorem inv_adopt {ch : List Addr} {a : Addr} {o : HO} {t' : Nat} (I : Inv X pins σ H s) (hc : ∀ b ∈ ch, Frh X pins b ∧ H b = none) (ha : a ∈ ch) (k : ∀ b u, b ∉ ch → s.heap.get? b = some u → h'.get? b = some u) (new : ObjOk X.prog X.w (upd H a o) h' a o) :
    Inv X pins σ (upd H a o) { s with heap := h', toks := t' } := by
  have na := (hc a ha).2
  have ne : ∀ b u, H b = some u → b ≠ a := fun b u e z => by subst z; rw [na] at e; cases e
  refine I.call (g' := s.gens) (d' := s.drawn) (ch := ch) ⟨fun b o e _ _ nb => k b o nb e, fun b o e _ _ nb => ⟨o.slots, k b o nb e⟩, fun b o _ n nb => by rw [upd_ne (fun z => nb (by rw [z]; exact ha))]; exact n, fun b o e nb => ⟨o, k b o nb e⟩, fun b xs e => by rw [upd_ne (ne b _ e)]; exact e, fun b o u e => by rw [upd_ne (ne b _ e)]; exact e, fun b ps e => ⟨#[], by rw [upd_ne (ne b _ e), e]; simp⟩⟩ (fun c u e => ?_) I.bare fun b hb => ?_
  · by_cases hca : c = a
    · subst hca; rw [upd_same] at e; cases e; exact new
    · rw [upd_ne hca] at e
      refine (I.hok c u e).stay (fun b v hb q => k b v (fun z => ?_) q) (fun b q => by rw [upd_ne (ne b _ q)]; exact q) fun b xs q => by rw [upd_ne (ne b _ q)]; exact q
      have n := (hc b z).2
      rcases hb with rfl | hb
      · rw [e] at n; cases n
      · rw [hb] at n; cases n
  · obtain ⟨f, _⟩ := hc b hb
    exact ⟨.inr f.up, f.nl, f.nc, f.np⟩
/-- an object there is fixed for a while -/
theorem inv_pin {a : Addr} {o : Obj} (I : Inv X pins σ H s) (f : Frh X pins a) (n : H a = none) (e : s.heap.get? a = some o) (hd : ∀ v, o.data ≠ .cell v) : Inv X ((a, o) :: pins) σ H s := I.pins_of fun p hp => by
  rcases List.mem_cons.mp hp with rfl | hp
  · exact ⟨e, n, f.nl, f.nf, hd⟩
  · exact I.pin p (List.mem_append_right _ hp)
theorem inv_unpin {p : Addr × Obj} (I : Inv X (p :: pins) σ H s) : Inv X pins σ H s := I.pins_of fun r hr => I.pin r (List.mem_append_right _ (List.mem_cons_of_mem _ hr))
end
section
variable {prog : Program} {w : World} {A : Around} {E : Value → Shared → Prop} {s : Shared}
/-- the items of a list or a tuple -/
def SeqAt (h : Heap) (l : Addr) (vs : List Value) : Prop := ∃ (T : String) (o : Obj) (n : Nat), (T = "list" ∨ T = "tuple") ∧ h.get? l = some o ∧ o.cls = .type T ∧ o.data = .seq vs.toArray n
theorem coll_seq {l : Addr} {vs : List Value} {Q : List Value → Shared → Prop} (hl : SeqAt s.heap l vs)
    (q : Q vs { s with heap := (s.heap.push (seqObj "list" #[] 0)).update s.heap.objs.size (Obj.mapSeq (· ++ vs.toArray)) }) (hz : vs.length ≤ sizeLine) : wpAny (model prog w) A (collect (.ref l)) Q E s := by
  obtain ⟨T, o, n, hT, e0, ec, ed⟩ := hl
  have e1 : (s.heap.push (seqObj "list" #[] 0)).get? l = some o := Heap.get?_push_of_some _ e0
  have e2 : (s.heap.push (seqObj "list" #[] 0)).get? s.heap.objs.size = some (seqObj "list" #[] 0) := Heap.get?_push_size _ rfl
  unfold collect
  refine wpAny_bind (wpAny_runValue (codeAny_builtin entry_proto_collect' ?_))
  refine wpAny_bind (wpAny_newList (wpAny_pure ⟨Code.quiet_builtin _ (by decide +kernel), codeAny_builtin entry_list_iadd' ?_⟩))
  show wpAny (model prog w) _ (Builtin.List.listExtendWith (.ref s.heap.objs.size) (.ref l) (.ref s.heap.objs.size)) _ _ { s with heap := s.heap.push (seqObj "list" #[] 0) }
  unfold Builtin.List.listExtendWith
  refine wpAny_bind (wpAny_typeOf (T := T) ⟨o, e1, ec⟩ ?_)
  have tt : ∀ x : String, (Value.type x == Value.type x) = true := fun x => by
    show decide _ = true
    simp
  rw [if_pos (by rcases hT with rfl | rfl <;> simp [tt])]
  refine wpAny_bind (listItems_at e1 ed ?_)
  refine wpAny_bind (listItems_at e2 rfl ?_)
  rw [if_neg (by simp)]
  refine wpAny_bind (listUpdate_at e2 rfl ?_ (Nat.zero_le _) ?_)
  · refine wpAny_pure ?_
    dsimp only
    refine wpAny_bind (wpAny_load (get?_update_seq e2 _) ?_)
    show wpAny (model prog w) _ (pure ((#[] : Array Value) ++ vs.toArray).toList) _ _ _
    rw [show ((#[] : Array Value) ++ vs.toArray).toList = vs by simp]
    exact wpAny_pure q
  · show (#[] ++ vs.toArray).size ≤ _
    rw [Array.size_append, List.size_toArray, List.size_toArray, List.length_nil]
    omega
end
/-- a key that leans on no object -/
def SK (u : Value) (d : PyData) : Prop := ∀ h : Heap, Reads h u d []
def scal : FV → Bool
  | .str _ => true
  | .int _ => true
  | _ => false
section
variable {X : Cx} {pins : List (Addr × Obj)} {σ : St} {μ0 : Nat → Addr} {h0 : FH} {H0 : Hp} {a kS f : Addr} {fd : FuncData} {ps : List Str} {g : FDef} {n : Nat}
/-- while keys are made -/
def KJ (X : Cx) (pins : List (Addr × Obj)) (σ : St) (μ0 : Nat → Addr) (h0 : FH) (H0 : Hp) (a kS : Addr) (s : Shared) : Prop :=
  ∃ H' μ', Inv X pins σ H' s ∧ Step μ0 h0.length H0 μ' h0.length H' ∧ HR (bs X) μ' h0 H' ∧ H' a = none ∧ H' kS = none
theorem scal_sk {B : Bs} {H H' : Hp} {μ : Nat → Addr} {n : Nat} {x : FV} {u : V} {v : Value} (h : scal x = true) (r : RR B H μ n H' (.v x) u) (q : RelV u v) : SK v x.py := by
  cases r with
  | v r =>
    cases r <;> first | cases h | skip
    · obtain ⟨t, rfl⟩ := q; exact fun h => .int _ _
    · obtain ⟨t, rfl⟩ := q; exact fun h => .str _ _
theorem key_turn (F : FnOk X.prog X.w X.K X.mg X.base (L2.CX X.prog X.w) n f fd ps (spP (bs X) g)) (hb : Binds X.K fd ps []) (hr : Room n X.A.in1.in1) {d kx : FV} (e : g [d] h0 = .ok (.v kx) h0) (hk : scal kx = true)
    {v : Value} {y : V} (ry : RelV y v) (rd : VR (bs X) H0 μ0 h0.length d y) (fa : Frh X pins a) (fk : Frh X pins kS) (ne : a ≠ kS) {s : Shared} (J : KJ X pins σ μ0 h0 H0 a kS s) {oa ok : Obj} (ea : s.heap.get? a = some oa) (ek : s.heap.get? kS = some ok)
    (da : ∀ v, oa.data ≠ .cell v) (dk : ∀ v, ok.data ≠ .cell v) :
    wpAny (model X.prog X.w) X.A.in1.in1 (call (.ref f) [v]) (fun u s2 => KJ X pins σ μ0 h0 H0 a kS s2 ∧ s2.heap.get? a = some oa ∧ s2.heap.get? kS = some ok ∧ SK u kx.py) (fun _ _ => False) s := by
  obtain ⟨H', μ', I, st, hr', na, nk⟩ := J
  have I1 := inv_pin I fa na ea da
  have fk1 : Frh X ((a, oa) :: pins) kS := ⟨fk.up, fk.nl, fk.nf, fk.nc, fun p hp => by
    rcases List.mem_append.mp hp with hp | hp
    · exact fk.np p (List.mem_append_left _ hp)
    · rcases List.mem_cons.mp hp with rfl | hp
      · exact ne
      · exact fk.np p (List.mem_append_right _ hp)⟩
  have I2 := inv_pin I1 fk1 nk ek dk
  have rd' : VR (bs X) H' μ' h0.length d y := VR.mono st.gw st.ext (Nat.le_refl _) _ _ rd
  have sp : spP (bs X) g [y] H' (fun u H'' => (∃ μ'', Step μ' h0.length H' μ'' h0.length H'' ∧ HR (bs X) μ'' h0 H'') ∧ ∀ z, RelV u z → SK z kx.py) (fun _ _ _ => False) :=
    ⟨μ', h0, [d], hr', .cons rd' .nil, by
      rw [e]
      exact fun μ'' H'' s2 r2 u ru => ⟨⟨μ'', s2, r2⟩, fun z hz => scal_sk hk ru hz⟩⟩
  have hl : ([v] ++ []).length = ps.length := F.len _ _ _ _ sp
  refine wpAny_call (codeAny_mono (F.run _ X.stack s H' ⟨[v], []⟩ [v] [y] _ _ hr I2.env0.in1.in1 (hb s [v] I.kIn hl) (.cons ry .nil) sp) fun r s2 hq => ?_)
  cases r with
  | error x =>
    obtain ⟨_, _, _, _, _, _, _, _, _, _, _, _, z⟩ := hq
    exact z
  | ok fl =>
    cases fl with
    | ret u =>
      obtain ⟨w, H2, I3, rw', ⟨μ2, st2, hr2⟩, hw⟩ := I2.after hq
      have p1 := I3.pin (kS, ok) (List.mem_append_right _ List.mem_cons_self)
      have p2 := I3.pin (a, oa) (List.mem_append_right _ (List.mem_cons_of_mem _ List.mem_cons_self))
      exact ⟨⟨H2, μ2, inv_unpin (inv_unpin I3), st.trans st2, hr2, p2.2.1, p1.2.1⟩, p2.1, p1.1, hw u rw'⟩
    | next => exact False.elim hq
    | brk => exact False.elim hq
    | cont => exact False.elim hq
theorem freed_none (h : Heap) (c : Addr) : (h.update c fun o => { o with data := .freed }).get? c = none := by
  cases q : (h.update c fun o => { o with data := .freed }).get? c with
  | none => rfl
  | some o =>
    obtain ⟨q1, q2⟩ := (Heap.get?_eq_some _ _ _).mp q
    rw [Heap.objs_update_self] at q1
    cases z : h.objs[c]? with
    | none => rw [z] at q1; cases q1
    | some o' => rw [z] at q1; cases q1; cases q2
theorem kj_loose {s : Shared} {h' : Heap} (J : KJ X pins σ μ0 h0 H0 a kS s) (fk : Frh X pins kS) (k : ∀ b, b ≠ kS → h'.get? b = s.heap.get? b) : KJ X pins σ μ0 h0 H0 a kS { s with heap := h' } := by
  obtain ⟨H', μ', I, st, hr', na, nk⟩ := J
  exact ⟨H', μ', inv_loose (ch := [kS]) (t' := s.toks) I (fun b hb => by simp at hb; subst hb; exact ⟨fk, nk⟩) (fun b u hb e => (k b (by simpa using hb)).trans e), st, hr', na, nk⟩
/-- the keys, then the sorting -/
theorem keyJ_rest {vs : List Value} {ds : List FV} {kz : List PyData} {e1 : Nat} {E : Value → Shared → Prop} {R : PySem.Fin → Shared → Prop} (F : FnOk X.prog X.w X.K X.mg X.base (L2.CX X.prog X.w) n f fd ps (spP (bs X) g)) (hb : Binds X.K fd ps []) (hr : Room n X.A.in1.in1) (fa : Frh X pins a) (fk : Frh X pins kS) (ne : a ≠ kS)
    (hv : ∀ (i : Nat) v, vs[i]? = some v → ∃ d y kx, RelV y v ∧ VR (bs X) H0 μ0 h0.length d y ∧ g [d] h0 = .ok (.v kx) h0 ∧ scal kx = true ∧ kz[i]? = some kx.py) (hlen : kz.length = vs.length) (hZ : vs.length ≤ sizeLine) (hal : PySem.W.AllAlike kz) (hsk : PySem.W.Sortable kz) (hu : ∀ d, d ∈ kz → X.A.in1.in1.units + d.depth < cLine)
    {s : Shared} (J : KJ X pins σ μ0 h0 H0 a kS s) (na : s.heap.get? a = some (seqObj "list" #[] e1)) (nk : s.heap.get? kS = some (seqObj "list" #[] 0))
    (q : ∀ s2 h' tk out c, KJ X pins σ μ0 h0 H0 a kS s2 → (∀ b u, b ∉ [a, kS] → s2.heap.get? b = some u → h'.get? b = some u) → h'.get? a = some (seqObj "list" (List.toArray out) c) → PySem.W.KeyedOut false kz vs out → R (.done (.ret .none)) { s2 with heap := h', toks := tk }) :
    wpAny (model X.prog X.w) X.A.in1.in1 (PyProof.Rows.ksk_rest a (.ref f) false vs.toArray e1 (.ref kS)) R E s := by
  unfold PyProof.Rows.ksk_rest
  refine wpAny_bind (wpAny_rule ?_)
  rw [← Array.forIn_toList]
  simp only [List.toList_toArray]
  refine wpAny_bind (PyProof.Rows.ksk_fold (fun i s' => KJ X pins σ μ0 h0 H0 a kS s' ∧ s'.heap.get? a = some (seqObj "list" #[] e1) ∧ ∃ (kA : Array Value) (e : Nat), s'.heap.get? kS = some (seqObj "list" kA e) ∧ PySem.W.EachIs SK kA.toList (kz.take i)) vs 0 s
    ⟨J, na, #[], 0, nk, by rw [List.take_zero]; exact .nil⟩ (fun j x s' hx hI => ?_) fun s' hI => ?_)
  · obtain ⟨J', na', kA, e, nk', hk⟩ := hI
    rw [Nat.zero_add] at hk ⊢
    obtain ⟨d, y, kx, ry, rd, eg, sc, kj⟩ := hv j x hx
    have kl : kA.size ≤ vs.length := by
      have z := hk.length
      rw [Array.length_toList, List.length_take] at z
      omega
    refine wpAny_bind (wpAny_attempt (wpAny_mono (key_turn F hb hr eg sc ry rd fa fk ne J' na' nk' (fun _ z => nomatch z) fun _ z => nomatch z) (fun u s2 hu' => ?_) fun _ _ z => z.elim))
    obtain ⟨J2, na2, nk2, sk⟩ := hu'
    have sb := Heap.SameBut.update s2.heap kS (Obj.mapSeq (·.push u))
    refine wpAny_bind (listUpdate_at nk2 rfl ?_ (Nat.le_trans kl hZ) (Nat.le_trans (Nat.le_of_eq (Array.size_push ..)) (Nat.succ_le_succ (Nat.le_trans kl hZ))))
    refine wpAny_pure ⟨rfl, kj_loose J2 fk sb.2, (sb.2 a ne).trans na2, kA.push u, _, get?_update_seq nk2 (·.push u), ?_⟩
    rw [Array.toList_push, List.take_add_one, kj]
    exact PySem.W.each_snoc sk hk
  · obtain ⟨J', na', kA, e, nk', hk⟩ := hI
    rw [Nat.zero_add, List.take_of_length_le (Nat.le_of_eq hlen)] at hk
    have kl : kA.size = vs.length := by
      have z := hk.length
      rw [Array.length_toList] at z
      omega
    have hk2 : PySem.W.EachIs (fun v k => ∃ as, Reads s'.heap v k as) kA.toList kz := hk.mono fun v k z => ⟨[], z _⟩
    refine wpAny_bind (listItems_at nk' rfl ?_)
    have oth : ∀ b, b ≠ kS → (s'.heap.update kS fun o => { o with data := .freed }).get? b = s'.heap.get? b := fun b hb' => (Heap.SameBut.update s'.heap kS _).2 b hb'
    refine PySem.W.keyH_end (κ := PySem.W.dataKind s'.heap kz) (h₁ := s'.heap.update kS fun o => { o with data := .freed }) (fun b o hb' z => ?_) (freed_none _ _) nk' na' (Ne.symm ne) (PySem.W.SortsAt.data hk2 hal hsk hu) kl hZ fun h' tk c kp nh => ?_
    · by_cases z2 : b = kS
      · subst z2; rw [freed_none] at z; cases z
      · rw [oth b z2] at z; exact z
    · refine q s' h' tk _ c J' (fun b u hb' z => ?_) nh ⟨s'.heap, kA.toList, hal, rfl, hk2⟩
      have n1 : b ≠ a := fun z => hb' (by rw [z]; exact List.mem_cons_self)
      have n2 : b ≠ kS := fun z => hb' (by rw [z]; simp)
      exact kp b u n1 ((oth b n2).trans z)
theorem each_at {α β : Type} {R : α → β → Prop} : ∀ {as : List α} {bs : List β} {i : Nat} {x : α}, PySem.W.EachIs R as bs → as[i]? = some x → ∃ y, bs[i]? = some y ∧ R x y
  | _, _, 0, _, .cons r _, e => by cases e; exact ⟨_, rfl, r⟩
  | _, _, i + 1, _, .cons _ t, e => each_at (i := i) t (by simpa using e)
theorem each_vv {B : Bs} {H : Hp} {μ : Nat → Addr} {n : Nat} : ∀ {ds : List FV} {ys : List V} {us : List Value}, VRs B H μ n ds ys → Vals ys us → PySem.W.EachIs (fun v d => ∃ y, RelV y v ∧ VR B H μ n d y) us ds
  | _, _, _, .nil, .nil => .nil
  | _, _, _, .cons a b, .cons r t => .cons ⟨_, r, a⟩ (each_vv b t)
theorem vv_each {B : Bs} {H : Hp} {μ : Nat → Addr} {n : Nat} : ∀ {ds : List FV} {us : List Value}, PySem.W.EachIs (fun v d => ∃ y, RelV y v ∧ VR B H μ n d y) us ds → ∃ ys, Vals ys us ∧ VRs B H μ n ds ys
  | _, _, .nil => ⟨[], .nil, .nil⟩
  | _, _, .cons ⟨y, r, a⟩ t => by
    obtain ⟨ys, q1, q2⟩ := vv_each t
    exact ⟨y :: ys, .cons r q1, .cons a q2⟩
/-- what sorted(l, key=f) asks and gives -/
def rSortK (X : Cx) (f : Addr) (g : FDef) (xs zs : List V) (H : Hp) (Q : VK) : Prop :=
  ∃ (μ : Nat → Addr) (h : FH) (l : Addr) (ds : List FV) (ys : List V) (key : FV → PyData), xs = [.ref l] ∧ zs = [.ref f] ∧ HR (bs X) μ h H ∧ (SqL X.K H l ys ∨ SqT X.K H l ys) ∧ VRs (bs X) H μ h.length ds ys ∧
    (∀ d, d ∈ ds → ∃ kx, g [d] h = .ok (.v kx) h ∧ scal kx = true ∧ key d = kx.py) ∧ PySem.W.AllAlike (ds.map key) ∧
    ∀ p H' μ' ys', Step μ h.length H μ' h.length H' → HR (bs X) μ' h H' → H' p = none → VRs (bs X) H' μ' h.length (ds.mergeSort (PySem.W.dataLe false key)) ys' → Q (.ref p) (upd H' p (.lst ys'))
theorem scal_py {kx : FV} (h : scal kx = true) : kx.py ≠ .none ∧ (∀ xs, kx.py ≠ .tuple xs) ∧ kx.py.depth ≤ 1 := by
  match kx, h with
  | .int i, _ => exact ⟨fun z => (nomatch z), fun xs z => (nomatch z), by simp [FV.py, PyData.depth]⟩
  | .str x, _ => exact ⟨fun z => (nomatch z), fun xs z => (nomatch z), by simp [FV.py, PyData.depth]⟩
theorem cr_sortK (F : FnOk X.prog X.w X.K X.mg X.base (L2.CX X.prog X.w) n f fd ps (spP (bs X) g)) (hb : Binds X.K fd ps []) (hr : Room n X.A.in1.in1) : CallRK X (.builtin "sorted") [Str.ofString "key"] (rSortK X f g) := by
  intro pins s σ H xs zs us ws Q I rx rz hq
  obtain ⟨μ, h, l, ds, ys, key, rfl, rfl, hh, hl, hd, hk, hal, q⟩ := hq
  rw [Vals.ref1 rx, Vals.ref1 rz]
  have hs : ∃ its, Vals ys its ∧ SeqAt s.heap l its ∧ ys.length ≤ sizeLine := by
    rcases hl with hl | hl
    · obtain ⟨its, rv, ⟨o, m, e, ec, _, ed⟩, z⟩ := I.list hl
      exact ⟨its, rv, ⟨"list", o, m, .inl rfl, e, ec, ed⟩, z⟩
    · obtain ⟨its, rv, ⟨o, e, ec, m, ed⟩, z⟩ := I.tuple hl
      exact ⟨its, rv, ⟨"tuple", o, m, .inr rfl, e, ec, ed⟩, z⟩
  obtain ⟨its, rv, hsq, hz⟩ := hs
  have ev := each_vv hd rv
  have hle := ev.length
  have hz' : its.length ≤ sizeLine := by rw [← rv.length]; exact hz
  show wpAny (model X.prog X.w) X.A (call (.builtin "sorted") [.ref l] [(Str.ofString "key", .ref f)]) _ _ s
  refine PyProof.Rows.call_function_entry_kw kind_sorted plain_sorted entry_sorted (PyProof.Rows.ksk_s1 _ _) ?_
  unfold Builtin.«sorted»
  refine wpAny_bind (m := checkCount "sorted" 1 1 _) (wpAny_pure ?_)
  refine wpAny_bind (coll_seq hsq ?_ hz')
  refine wpAny_bind (wpAny_newList ?_ hz')
  have sz2 : ((s.heap.push (seqObj "list" #[] 0)).update s.heap.objs.size (Obj.mapSeq (· ++ its.toArray))).objs.size = s.heap.objs.size + 1 := by
    rw [Heap.size_update, size_push']
  show wpAny (model X.prog X.w) _ _ _ _ { s with heap := PySem.W.copyHeap s.heap its }
  rw [sz2]
  have ca := PySem.W.copyHeap_at s.heap its
  refine wpAny_bind (wpAny_holding (wpAny_call_entry_kw slot_list_sort ⟨_, ca, rfl⟩ entry_list_sort ?_ (PyProof.Rows.ksk_l1 _ _)))
  rw [PyProof.Rows.ksk_t1]
  unfold PyProof.Rows.ksk_tree
  have cold : ∀ b u, s.heap.get? b = some u → (PySem.W.copyHeap s.heap its).get? b = some u := fun b u z => PySem.W.copyHeap_old z
  have csz : (PySem.W.copyHeap s.heap its).objs.size = s.heap.objs.size + 2 := by
    unfold PySem.W.copyHeap
    rw [size_push', sz2]
  generalize PySem.W.copyHeap s.heap its = hc at ca cold csz
  obtain ⟨e1, ca1⟩ : ∃ e1, (hc.update (s.heap.objs.size + 1) (Obj.mapSeq fun _ => (#[] : Array Value))).get? (s.heap.objs.size + 1) = some (seqObj "list" #[] e1) := ⟨_, get?_update_seq ca fun _ => #[]⟩
  have u1 : ∀ b u, s.heap.get? b = some u → (hc.update (s.heap.objs.size + 1) (Obj.mapSeq fun _ => (#[] : Array Value))).get? b = some u := fun b u z => by
    rw [(Heap.SameBut.update hc (s.heap.objs.size + 1) _).2 b (Nat.ne_of_lt (Nat.lt_succ_of_lt (Heap.lt_size z)))]
    exact cold b u z
  have usz : (hc.update (s.heap.objs.size + 1) (Obj.mapSeq fun _ => (#[] : Array Value))).objs.size = s.heap.objs.size + 2 := by rw [Heap.size_update, csz]
  refine wpAny_bind (listItems_at ca rfl ?_)
  refine wpAny_bind (listUpdate_at ca rfl ?_ (by rw [List.size_toArray]; exact hz') (Nat.zero_le _))
  refine wpAny_bind (seqEpoch_at ca1 rfl ?_)
  refine wpAny_bind (wpAny_newTuple ?_ (by show its.length ≤ _; exact hz'))
  refine wpAny_bind (wpAny_newList ?_ (Nat.zero_le _))
  refine wpAny_holding ?_
  have fa : Frh X pins (s.heap.objs.size + 1) := frh_of I (Nat.le_succ _)
  have fk : Frh X pins (s.heap.objs.size + 3) := frh_of I (by omega)
  have ne13 : s.heap.objs.size + 1 ≠ s.heap.objs.size + 3 := fun z => by have := Nat.add_left_cancel z; cases this
  have ksz : ((hc.update (s.heap.objs.size + 1) (Obj.mapSeq fun _ => (#[] : Array Value))).push (seqObj "tuple" its.toArray 0)).objs.size = s.heap.objs.size + 3 := by rw [size_push', usz]
  show wpAny (model X.prog X.w) _ (PyProof.Rows.ksk_rest (s.heap.objs.size + 1) (.ref f) false its.toArray e1 (.ref ((hc.update (s.heap.objs.size + 1) (Obj.mapSeq fun _ => (#[] : Array Value))).push (seqObj "tuple" its.toArray 0)).objs.size)) _ _ { s with heap := ((hc.update (s.heap.objs.size + 1) (Obj.mapSeq fun _ => (#[] : Array Value))).push (seqObj "tuple" its.toArray 0)).push (seqObj "list" #[] 0) }
  rw [ksz]
  have up : ∀ b u, s.heap.get? b = some u → (((hc.update (s.heap.objs.size + 1) (Obj.mapSeq fun _ => (#[] : Array Value))).push (seqObj "tuple" its.toArray 0)).push (seqObj "list" #[] 0)).get? b = some u := fun b u z => Heap.get?_push_of_some _ (Heap.get?_push_of_some _ (u1 b u z))
  have J : KJ X pins σ μ h H (s.heap.objs.size + 1) (s.heap.objs.size + 3) { s with heap := ((hc.update (s.heap.objs.size + 1) (Obj.mapSeq fun _ => (#[] : Array Value))).push (seqObj "tuple" its.toArray 0)).push (seqObj "list" #[] 0) } :=
    ⟨H, μ, I.kept (t' := s.toks) up, Step.refl _ _ _, hh, I.hok.fresh (Nat.le_succ _), I.hok.fresh (by omega)⟩
  have kpy : ∀ d, d ∈ ds.map key → d ≠ .none ∧ (∀ xs, d ≠ .tuple xs) ∧ d.depth ≤ 1 := fun d hd' => by
    obtain ⟨x, hx, rfl⟩ := List.mem_map.mp hd'
    obtain ⟨kx, _, sc, ek⟩ := hk x hx
    rw [ek]
    exact scal_py sc
  refine keyJ_rest (ds := ds) (kz := ds.map key) F hb hr fa fk ne13 (fun i v hv => ?_) (by rw [List.length_map]; exact hle.symm) hz' hal (.inr fun d hd' => ⟨(kpy d hd').1, (kpy d hd').2.1⟩) (fun d hd' => by
    have := (kpy d hd').2.2
    have := hr.un
    omega) J (Heap.get?_push_of_some _ (Heap.get?_push_of_some _ ca1)) (by rw [← ksz]; exact Heap.get?_push_size _ rfl) fun s2 h' tk out c J2 keep nh ko => ?_
  · obtain ⟨d, e, y, ry, rd⟩ := each_at ev hv
    obtain ⟨kx, eg, sc, ek⟩ := hk d (List.mem_of_getElem? e)
    exact ⟨d, y, kx, ry, rd, eg, sc, by rw [List.getElem?_map, e, ← ek]; rfl⟩
  · obtain ⟨H', μ', I2, st, hr2, na, nk⟩ := J2
    obtain ⟨ys', rv', rd'⟩ := vv_each (PySem.W.keyedOut_each key ko ev)
    have rd2 := VRs.mono st.gw st.ext (Nat.le_refl _) _ _ rd'
    have lout : ys'.length ≤ sizeLine := by
      have z := (PySem.W.keyedOut_each key ko ev).length
      rw [List.length_mergeSort] at z
      rw [rv'.length, z, ← hle]; exact hz'
    refine ⟨_, rfl, wpAny_pure ⟨_, rfl, .ref (s.heap.objs.size + 1), upd H' (s.heap.objs.size + 1) (.lst ys'), ?_, rfl, q _ H' μ' ys' st hr2 na rd2⟩⟩
    exact inv_adopt (ch := [s.heap.objs.size + 1, s.heap.objs.size + 3]) I2 (fun b hb' => by
      simp only [List.mem_cons, List.not_mem_nil, or_false] at hb'
      rcases hb' with rfl | rfl
      · exact ⟨fa, na⟩
      · exact ⟨fk, nk⟩) List.mem_cons_self keep ⟨lout, out, c, rv', nh⟩
end
/-- the key of an item -/
noncomputable def keyAt (g : FV → M RV) (h : FH) (d : FV) : PyData := match g d h with
  | .ok (.v kx) _ => kx.py
  | _ => .none
noncomputable def oSortK (g : FV → M RV) (x : RV) : M RV := fun h => open Classical in match x.seq h with
  | some (_, ds) => if (∀ d, d ∈ ds → ∃ kx, g d h = .ok (.v kx) h ∧ scal kx = true) ∧ PySem.W.AllAlike (ds.map (keyAt g h)) then .ok (.l (ds.mergeSort (PySem.W.dataLe false (keyAt g h)))) h else .no
  | none => .no
theorem room2 {k : Nat} {A : Around} (r : Room (k + 1) A) : Room k A.in1.in1 :=
  ⟨r.hd, by have := r.dp; show A.depth + 3 * k + 5 < _; omega, by have := r.un; show A.units + 1 + 1 + 16 * k + 200 < _; omega⟩
section
variable {X : Cx} {W : WX} {E : Ent} {Γ : Sl} {e : Expr} {p0 p1 kp pos : Pos} {fa : M RV} {n : Nat}
theorem je_sortK {fn : Str} {ps : List Str} {g : FV → M RV} (h : HasF X.prog X.w X.K X.mg X.base n fn ps (f1 g)) (hr : Room (n + 1) X.A) (hm : X.mg "sorted" = none) (ha : JE X W E Γ e fa) (hg : Gl X "sorted" := by rfl) (hgf : Gl X fn := by rfl) (hdf : (fn == ("__debug__" : Str)) = false := by decide)
    (he : starEach (e :: []) X.env = (false, eval e X.env) :: starEach [] X.env := by exact star1 rfl) (hpl : (backTo pos (starEach (e :: []) X.env)).any (·.1) = false := by rfl) :
    JE X W E Γ (.Call (.Name "sorted" p0) [e] [⟨some "key", .Name fn p1, kp⟩] pos) (bnd fa (oSortK g)) := fun μ h0 σ H Q s p => by
  obtain ⟨a, fd, F, hmf, hk, hb⟩ := h.ex
  refine wE.of (pe_callBK (cr_sortK F hb (room2 hr)) hg hm boot_sorted (pa_cons pe_w pa_nil he) (pk_cons (pe_glob (v := .ref a) hgf hmf rfl hdf) pk_nil) (by decide) (by decide) (by rw [he]; rfl) hpl) (ha μ h0 σ H _ s (Po.mono (Po.bind p) fun x h1 μ1 H1 _ s1 hr1 q1 u ru => ?_))
  show rSortK X a (f1 g) [u] [.ref a] H1 Q
  have q2 := q1
  unfold oSortK at q2
  cases e1 : x.seq h1 with
  | none => rw [e1] at q2; exact q2.elim
  | some bd =>
    obtain ⟨b, ds⟩ := bd
    rw [e1] at q2
    dsimp only at q2
    split at q2
    · rename_i hc
      obtain ⟨q, xs, rfl, h4, h5⟩ := seqE_ok hr1 ru e1
      refine ⟨μ1, h1, q, ds, xs, keyAt g h1, rfl, rfl, hr1, h5, h4, fun d hd => ?_, hc.2, fun p' H' μ' ys' st hr2 np rd => ?_⟩
      · obtain ⟨kx, z1, z2⟩ := hc.1 d hd
        exact ⟨kx, z1, z2, by unfold keyAt; rw [z1]⟩
      · exact q2 μ' _ (st.trans (Step.same (same_new np))) (hr2.same (same_new np)) _ (rr_lst hr2 (s1.trans st).th np rd)
    · exact q2.elim
end
end P
/-! P20: insert. -/
namespace P
open PySem PySem.Spec PyProof.Rows L2 G
/-- an own dict that stays -/
def frzD (kvs : List (Key × FV)) : FV := .fd (kvs.map (·.1)) (kvs.map (·.2))
def oIns (ds : List FV) (i d : FV) : M (List FV) := match i with
  | .int k => if 0 ≤ k ∧ k < 2 ^ 63 ∧ ds.length < LIM then pur (ds.take k.toNat ++ [d] ++ ds.drop k.toNat) else fail
  | _ => fail
theorem VRs.takeDrop {B : Bs} {H : Hp} {μ : Nat → Addr} {n : Nat} : ∀ {ds : List FV} {vs : List V} (k : Nat), VRs B H μ n ds vs → VRs B H μ n (ds.take k) (vs.take k) ∧ VRs B H μ n (ds.drop k) (vs.drop k)
  | _, _, 0, q => by rw [List.take_zero, List.take_zero]; exact ⟨.nil, q⟩
  | _, _, k + 1, .nil => ⟨.nil, .nil⟩
  | _, _, k + 1, .cons a b => by
    obtain ⟨q1, q2⟩ := VRs.takeDrop k b
    exact ⟨.cons a q1, q2⟩
def rIns : V → List V → Hp → VK → Prop := fun x vs H Q => ∃ (l : Addr) (xs : List V) (i : Int) (y : V), x = .ref l ∧ vs = [.int i, y] ∧ H l = some (.lst xs) ∧ xs.length < sizeLine ∧ 0 ≤ i ∧ i < 2 ^ 63 ∧ Q .non (upd H l (.lst (xs.take i.toNat ++ [y] ++ xs.drop i.toNat)))
section
variable {X : Cx} {W : WX} {E : Ent} {Γ : Sl} {Γx : Option Sl} {α β : Type} {eα : α → Sl} {eβ : β → Sl} {e i : Expr} {rest : List Stmt} {px p0 apos pos : Pos} {fe fi : M RV}
theorem jb_insert (j : Nat) {ds : List FV} {x : Str} {Γ' : List FV → Sl} {kk : List FV → M (Fl α β)} (w : SubX Γx Γ) (hi : JE X W E Γ i fi) (he : JE X W E Γ e fe) (hk : ∀ d, JB X W E Γx eα eβ (Γ' d) rest (kk d)) (q : sg Γ j = some (.l ds) := by rfl) (hΓ : ∀ d, Γ.set j (some (.l d)) = Γ' d := by intro _; rfl)
    (hN : X.N[j]? = some x := by rfl) (hv : Vis X.env.scope x := by first | exact Or.inl rfl | exact Or.inr (Or.inl rfl) | exact Or.inr (Or.inr rfl)) (hd : (x == ("__debug__" : Str)) = false := by decide) (hcd : (x == ("__classdict__" : Str)) = false := by decide)
    (pe : ∀ {to : TE} {t : TA}, PE X (.Name x px) to → PA X [i, e] t → PE X (.Call (.Attribute (.Name x px) "insert" apos) [i, e] [] p0) (tBM X.K "list" rIns to t) := by intro to t h1 h2; exact pe_bm PySem.F.plainAttrs_list PySem.F.slot_list_insert PySem.F.type_list_insert mt_insert h1 h2)
    (hs : swapsWith (.Call (.Attribute (.Name x px) "insert" apos) [i, e] [] p0) none pos.line X.env = pure false := by rfl) (h1 : starEach (i :: [e]) X.env = (false, eval i X.env) :: starEach [e] X.env := by exact star1 rfl) (h2 : starEach (e :: []) X.env = (false, eval e X.env) :: starEach [] X.env := by exact star1 rfl) :
    JB X W E Γx eα eβ Γ (.Expr (.Call (.Attribute (.Name x px) "insert" apos) [i, e] [] p0) pos :: rest) (bnd (mV fi) fun iv => bnd (mV fe) fun d => bnd (oIns ds iv d) kk) := fun μ h σ H D s p => by
  have eq := sg_get q
  obtain ⟨u, h1', h2'⟩ := s.sl j _ eq
  obtain ⟨p', xs, rfl, f, a, b⟩ := own_l h2'
  refine wcons (wS.of (ps_expr (pe (pe_var hN hv hd hcd) (pa_cons pe_w (pa_cons pe_w pa_nil h2) h1)) hs) ⟨.ref p', h1', .inl ⟨rfl, xs, SqL.of a⟩, PoN.val hi s w p fun iv hh2 μ2 H2 u2 sw2 s2 v2 p2 => PoN.val he s2 w p2 fun d hh3 μ3 H3 u3 sw3 s3 v3 p3 => ?_⟩)
  obtain ⟨u', k1, k2⟩ := s3.sl j _ eq
  rw [h1'] at k1; cases k1
  obtain ⟨p'', ys, e', f', a', b'⟩ := own_l k2
  cases e'
  unfold oIns at p3
  cases v2 with
  | int k =>
    dsimp only at p3
    by_cases hl : 0 ≤ k ∧ k < 2 ^ 63 ∧ ds.length < LIM
    · rw [if_pos hl] at p3
      refine ⟨p', ys, k, u3, rfl, rfl, a', by rw [b'.len]; exact lim_lt hl.2.2, hl.1, hl.2.1, ?_⟩
      have mu : Mut (H3 p') := by rw [a']; trivial
      have g := gw_mut (o := .lst (ys.take k.toNat ++ [u3] ++ ys.drop k.toNat)) mu
      obtain ⟨z1, z2⟩ := VRs.takeDrop k.toNat b'
      have s4 := s3.chg (o := .lst (ys.take k.toNat ++ [u3] ++ ys.drop k.toNat)) (r' := .l (ds.take k.toNat ++ [d] ++ ds.drop k.toNat)) rfl eq h1' f'.1 f'.2 mu (.l f' upd_same (VRs.mono g (fun _ _ => rfl) (Nat.le_refl _) _ _ ((z1.append (.cons v3 .nil)).append z2)))
      rw [hΓ] at s4
      exact hk _ μ3 hh3 σ _ D s4 (PoN.at' p3 (StW.of g))
    · rw [if_neg hl] at p3; exact p3.elim
  | _ => exact p3.elim
end
end P
/-! P21: errors raised and caught. -/
namespace P
open PySem PySem.Spec PyProof.Rows L2 G
/-- which class is a part of which: own classes of errors, and the classes asked for -/
abbrev ETab := List (Str × Str × Bool)
def isSub (tab : ETab) (c d : Str) : Option Bool := (tab.find? fun t => decide (t.1 = c) && decide (t.2.1 = d)).map (·.2.2)
structure EF (K : PySem.W.Frag) (mg : Str → Option Value) (c d : Str) (b : Bool) : Prop where
  ex : ∃ C v, mg c = some (.ref C) ∧ ExcC K C ∧ (mg d = some v ∨ (mg d = none ∧ bootBuiltins d = some v ∧ d ≠ "__name__")) ∧ PySem.W.subIn K (.ref C) v = some b ∧ PySem.W.kitOne K (.ref C) v = some b ∧ ((∃ D, v = .ref D) ∨ ∃ n, v = .type n)
structure ET (K : PySem.W.Frag) (mg : Str → Option Value) (tab : ETab) : Prop where
  ok : ∀ t, t ∈ tab → EF K mg t.1 t.2.1 t.2.2
theorem ET.sub {K : PySem.W.Frag} {mg : Str → Option Value} {tab : ETab} (T : ET K mg tab) {c d : Str} {b : Bool} (h : isSub tab c d = some b) : EF K mg c d b := by
  unfold isSub at h
  cases q : tab.find? fun t => decide (t.1 = c) && decide (t.2.1 = d) with
  | none => rw [q] at h; cases h
  | some t =>
    rw [q] at h
    cases h
    have h1 := List.find?_some q
    rw [Bool.and_eq_true] at h1
    have e1 : t.1 = c := of_decide_eq_true h1.1
    have e2 : t.2.1 = d := of_decide_eq_true h1.2
    have := T.ok t (List.mem_of_find?_eq_some q)
    rw [e1, e2] at this
    exact this
section
variable {α β γ : Type} {X : Cx} {W : WX} {E : Ent} {Γx : Option Sl} {eα : α → Sl} {eγ : γ → Sl} {eβ : β → Sl} {Γ Γ' : Sl} {rest body suite : List Stmt} {b₀ : Stmt} {pos p0 p p2 pos' np : Pos} {e : Expr} {fe : M RV}
def JEa (X : Cx) (i : Nat) (a : Addr) (E : Ent) (Γ : Sl) (e : Expr) (fe : M RV) : Prop :=
  ∀ μ h σ H Q, SR (bs X) E μ Γ h σ H → σ[i]? = some (some (.ref a)) → Po (bs X) μ h.length H (fun r h' μ' H' => ∀ u, RR (bs X) H μ' h'.length H' r u → Q u H') (fun _ _ _ => False) (fe h) → wE X e σ H Q
/-! what a handler does -/
section
variable {i : Nat} {a : Addr} {es : List Expr} {e1 e2 : Expr} {f1' f2' fb : M RV} {kb : M (Fl α β)} {tb : M Bool}
theorem JEa.to {f g : M RV} (h : JEa X i a E Γ e f) (q : ∀ h, f h = g h) : JEa X i a E Γ e g := fun μ h0 σ H Q s hs p => h μ h0 σ H Q s hs (by rw [q]; exact p)
end
end
end P
/-! P22: an error raised in a handler in place of another; defs whose errors have no context. -/
namespace P
open PySem PySem.Spec PyProof.Rows L2 G
/-! defs whose errors have no context -/
structure HasFN (P : Program) (w : World) (K : PySem.W.Frag) (mg : Str → Option Value) (base : Heap) (n : Nat) (x : Str) (ps : List Str) (f : FDef) : Prop where
  ex : ∃ a fd, FnOk P w K mg base (L2N.CX P w) n a fd ps (spP ⟨K, mg⟩ f) ∧ mg x = some (.ref a) ∧ PySem.W.keepIn K (.ref a) = true ∧ Binds K fd ps []
section
variable {P : Program} {w : World} {K : PySem.W.Frag} {mg : Str → Option Value} {base : Heap} {x qual : Str} {st : Stmt} {a : Addr} {fd : FuncData} {N ps : List Str} {k n : Nat} {f : FDef} {b : List FV → M (Fl Unit Empty)} {params : Arguments} {body : List Stmt} {scope : Scope}
theorem HasFN.mono (h : HasFN P w K mg base k x ps f) (l : k ≤ n) : HasFN P w K mg base n x ps f := by
  obtain ⟨a, fd, G, e⟩ := h.ex
  exact ⟨a, fd, G.mono l, e⟩
end
end P
/-! P23: classes: the facts at the end, one of several classes, append to a told list. -/
namespace P
open PySem PySem.Spec PyProof.Rows L2 G
theorem CT.of {X X' : Cx} {tab : CTab} (c : CT X tab) (h1 : X'.K = X.K) (h2 : X'.mg = X.mg) : CT X' tab := ⟨by rw [h1, h2]; exact c.ok⟩
section
variable {P : Program} {w : World} {K : PySem.W.Frag} {mg : Str → Option Value} {base : Heap} {c m : Str} {a C : Addr} {fd : FuncData} {ps : List Str} {n : Nat} {f : FDef}
theorem HasM.mono {k : Nat} {ds : List FV} (h : HasM P w K mg base k c m ps ds f) (l : k ≤ n) : HasM P w K mg base n c m ps ds f := by
  obtain ⟨C, a, fd, d, u, G, e⟩ := h.ex
  exact ⟨C, a, fd, d, u, G.mono l, e⟩
theorem HasK.mono {k : Nat} {ds : List FV} (h : HasK P w K mg base k c ps ds f) (l : k ≤ n) : HasK P w K mg base n c ps ds f := by
  obtain ⟨C, a, fd, d, u, M, G, e⟩ := h.ex
  exact ⟨C, a, fd, d, u, M, G.mono l, e⟩
end
section
variable {α β : Type} {X : Cx} {W : WX} {E : Ent} {Γ : Sl} {e o : Expr} {pos apos : Pos} {fe fo : M RV}
theorem Po.of_eq {α : Type} {B : Bs} {μ : Nat → Addr} {n : Nat} {H : Hp} {R : α → FH → (Nat → Addr) → Hp → Prop} {E : XK} {r r' : Rs α} (e : r = r') (p : Po B μ n H R E r) : Po B μ n H R E r' := e ▸ p
end
end P
/-! P24: texts' tests, str of a number, pop and extend of told lists. -/
namespace P
open PySem PySem.Spec PyProof.Rows L2 G
section
variable {α β : Type} {X : Cx} {W : WX} {E : Ent} {Γ : Sl} {e o : Expr} {pos apos p0 : Pos} {fe fo fa : M RV}
theorem VRs.dropLast {B : Bs} {H : Hp} {μ : Nat → Addr} {n : Nat} : ∀ {ds : List FV} {xs : List V}, VRs B H μ n ds xs → VRs B H μ n ds.dropLast xs.dropLast
  | [], _, r => by cases r; exact .nil
  | [d], _, r => by
    cases r with
    | cons a b => cases b; exact .nil
  | d :: d1 :: ds, _, r => by
    cases r with
    | cons a b =>
      cases b with
      | cons a1 b1 => exact .cons a (VRs.dropLast (.cons a1 b1))
end
end P
/-! P25: divmod, list(range(..)), or in a handler. -/
namespace P
open PySem PySem.Spec PyProof.Rows L2 G
end P
/-! P26: xs[::-1], max and min of a list of numbers, and of two. -/
namespace P
open PySem PySem.Spec PyProof.Rows L2 G
end P
/-! P27: xs.index(y) of lists of data. -/
namespace P
open PySem PySem.Spec PyProof.Rows L2 G
end P
/-! P28: t[::-1] and t[:k:-1] of tuples. -/
namespace L2
open PySem PySem.Spec PyProof.Rows HT
section
variable {prog : Program} {w : World} {A : Around} {E : Value → Shared → Prop} {s : Shared}
/-- where a slice that goes backward ends -/
def rCut : Option Int → Nat → Nat
  | none, _ => 0
  | some v, n => min (v.toNat + 1) n
theorem places_rev (n : Nat) (c : Nat) (h : c ≤ n) : Builtin.Slice.slicePlaces ((n : Int) - 1) ((c : Int) - 1) (-1) = n - c := by
  unfold Builtin.Slice.slicePlaces
  have h1 : ¬ ((-1 : Int) > 0) := by omega
  simp only [h1, if_false, Int.neg_neg, Int.ediv_one]
  split <;> omega
theorem adjust_rev (hi : Option Int) (h0 : ∀ v, hi = some v → 0 ≤ v) (n : Nat) : Builtin.Slice.sliceAdjust none hi (-1) (n : Int) = ((n : Int) - 1, ((rCut hi n : Nat) : Int) - 1) := by
  unfold Builtin.Slice.sliceAdjust
  have h1 : ((-1 : Int) < 0) := by omega
  cases hi with
  | none => simp only [h1, if_true, rCut]; simp
  | some v =>
    have := h0 v rfl
    have h2 : ¬ v < 0 := by omega
    simp only [h1, if_true, rCut, h2, if_false, Prod.mk.injEq, true_and]
    omega
theorem sliceApplied_rev {sl : Addr} {vu : Value} {hi : Option Int} {n : Nat} {t : Tok} {Q : Int × Int × Nat → Shared → Prop} (hs : s.heap.IsSliceOf sl .none vu (.int (-1) t)) (pu : IsPart vu hi) (h0 : ∀ v, hi = some v → 0 ≤ v)
    (h : Q ((n : Int) - 1, -1, n - rCut hi n) s) : wpAny (model prog w) A (Builtin.Slice.sliceApplied (.ref sl) (pure (n : Int))) Q E s := by
  obtain ⟨os, hos, hcs, hds⟩ := id hs
  unfold Builtin.Slice.sliceApplied Builtin.Slice.sliceFields
  refine wpAny_bind (wpAny_bind (wpAny_field hos hds (x := .none) rfl (wpAny_bind (wpAny_field hos hds (x := vu) rfl (wpAny_bind (wpAny_field hos hds (x := .int (-1) t) rfl (wpAny_pure ?_)))))))
  refine wpAny_bind (slicePart_int ?_)
  show wpAny _ _ (if ((-1 : Int) == 0) = true then _ else _) _ _ s
  rw [if_neg (by decide)]
  refine wpAny_bind (slicePart_none (wpAny_bind (HT.slicePart_ pu (wpAny_bind (wpAny_pure ?_)))))
  show wpAny _ _ (match Builtin.Slice.sliceAdjust none hi (-1) (n : Int) with | (lo, hi) => pure (lo, (-1 : Int), Builtin.Slice.slicePlaces lo hi (-1))) _ _ s
  rw [adjust_rev hi h0 n]
  show wpAny _ _ (pure (((n : Int) - 1), (-1 : Int), Builtin.Slice.slicePlaces ((n : Int) - 1) (((rCut hi n : Nat) : Int) - 1) (-1))) _ _ s
  rw [places_rev n _ (by unfold rCut; split <;> omega)]
  exact wpAny_pure h
theorem pick_rev (xs : Array Value) (c : Nat) : ((List.range (xs.size - c)).filterMap fun (m : Nat) => xs[(((xs.size : Int) - 1) + (m : Int) * (-1)).toNat]?) = (xs.toList.drop c).reverse := by
  have e : ∀ m, m < xs.size - c → xs[(((xs.size : Int) - 1) + (m : Int) * (-1)).toNat]? = some ((xs.toList.drop c).reverse[m]?.getD .none) := fun m hm => by
    have h1 : (((xs.size : Int) - 1) + (m : Int) * (-1)).toNat = xs.size - 1 - m := by omega
    have h2 : m < (xs.toList.drop c).reverse.length := by rw [List.length_reverse, List.length_drop, Array.length_toList]; exact hm
    rw [h1, List.getElem?_eq_getElem h2, Option.getD_some, List.getElem_reverse, List.getElem_drop, Array.getElem?_eq_getElem (by omega)]
    congr 1
    rw [Array.getElem_toList]
    congr 1
    rw [List.length_drop, Array.length_toList]; omega
  apply List.ext_getElem?
  intro i
  have key : ∀ k, k ≤ xs.size - c → ((List.range k).filterMap fun (m : Nat) => xs[(((xs.size : Int) - 1) + (m : Int) * (-1)).toNat]?) = (xs.toList.drop c).reverse.take k := fun k => by
    induction k with
    | zero => intro _; rfl
    | succ k ih =>
      intro hk
      have h2 : k < (xs.toList.drop c).reverse.length := by rw [List.length_reverse, List.length_drop, Array.length_toList]; omega
      rw [List.range_succ, List.filterMap_append, ih (by omega), List.filterMap_cons, e k (by omega), List.filterMap_nil, List.take_succ, List.getElem?_eq_getElem h2]
      rfl
  rw [key _ (Nat.le_refl _), List.take_of_length_le (by rw [List.length_reverse, List.length_drop, Array.length_toList]; omega)]
theorem getItem_tuple_rev {t sl : Addr} {items : Array Value} {vu : Value} {tk : Tok} {hi : Option Int} {Q : Value → Shared → Prop} (ht : IsTup s.heap t items) (hs : s.heap.IsSliceOf sl .none vu (.int (-1) tk)) (pu : IsPart vu hi) (h0 : ∀ v, hi = some v → 0 ≤ v)
    (h : Q (.ref s.heap.objs.size) { s with heap := s.heap.push { cls := .type "tuple", data := .seq ((items.toList.drop (rCut hi items.size)).reverse).toArray } })
    (hsz : items.size ≤ sizeLine) : wpAny (model prog w) A (getItem (.ref t) (.ref sl)) Q E s := by
  have htake : sizeOk (.seq ((items.toList.drop (rCut hi items.size)).reverse).toArray) := by
    show ((items.toList.drop (rCut hi items.size)).reverse).toArray.size ≤ sizeLine
    rw [List.size_toArray, List.length_reverse, List.length_drop, Array.length_toList]
    omega
  obtain ⟨os, hos, hcs, hds⟩ := id hs
  have hTs : s.TypeIs (.ref sl) "slice" := ⟨os, hos, hcs⟩
  unfold getItem
  try with_reducible refine wpAny_holding ?_
  first | refine wpAny_bind (wpAny_pure ?_) | skip
  refine wpAny_bind (wpAny_sequenceKey ht.typeIs (by decide) ?_)
  refine wpAny_bind (wpAny_callSpecial?_slot (name := Str.ofString "__getitem__") ht.typeIs PyProof.Rows.slot_tuple_getitem
    (wpAny_call_entry PyProof.Rows.slot_tuple_getitem ht.typeIs entry_tuple_getitem ?_ (args_tuple_getitem _ _)))
  show wpAny _ _ (Builtin.Tuple.tupleItemsOf (.ref t) >>= _) _ _ s
  refine wpAny_bind (tupleItemsOf_ ht ?_)
  refine wpAny_bind (wpAny_typeOf hTs ?_)
  rw [if_pos (by decide)]
  refine wpAny_bind (sliceApplied_rev hs pu h0 ?_)
  have hno : ¬ ((((items.size : Int) - 1) == 0 && (-1 : Int) == 1 && (items.size - rCut hi items.size) == items.size) = true) := by
    intro q
    rw [Bool.and_eq_true, Bool.and_eq_true] at q
    exact absurd (eq_of_beq q.1.2) (by decide)
  show wpAny _ _ (if ((((items.size : Int) - 1) == 0 && (-1 : Int) == 1 && (items.size - rCut hi items.size) == items.size)) = true then _ else _) _ _ s
  rw [if_neg hno, pick_rev]
  first
    | exact wpAny_bind (m := Builtin.Tuple.tupleExact _) (wpAny_newObj_type (wpAny_pure ⟨_, rfl, wpAny_pure h⟩) htake)
    | exact wpAny_bind (m := Builtin.Tuple.tupleExact _) (wpAny_newObj_type (wpAny_bind (wpAny_pure (wpAny_pure ⟨_, rfl, wpAny_pure h⟩))) htake)
    | exact wpAny_bind (wpAny_bind (m := Builtin.Tuple.tupleExact _) (wpAny_newObj_type (wpAny_pure (wpAny_pure ⟨_, rfl, wpAny_pure h⟩)) htake))
    | exact wpAny_bind (wpAny_bind (m := Builtin.Tuple.tupleExact _) (wpAny_newObj_type (wpAny_pure ⟨_, rfl, wpAny_pure h⟩) htake))
end
section
variable {X : Cx}
def tRevA (K : PySem.W.Frag) (hi : Option Int) (te : TE) : TE := fun σ H Q => te σ H fun x H1 => ∃ a xs, x = .ref a ∧
  ((SqL K H1 a xs ∧ hi = none ∧ ∀ p, H1 p = none → Q (.ref p) (upd H1 p (.lst xs.reverse))) ∨
   (SqT K H1 a xs ∧ ∀ p, H1 p = none → Q (.ref p) (upd H1 p (.tup (xs.drop (rCut hi xs.length)).reverse))))
theorem Vals.drop' {xs : List V} {us : List Value} (k : Nat) (r : Vals xs us) : Vals (xs.drop k).reverse (us.drop k).reverse := (r.drop k).reverse
theorem pe_revA {e : Expr} {te : TE} {k : Nat} {p1 p2 p3 pos : Pos} {he' : Option Expr} {hi : Option Int} (h0 : ∀ v, hi = some v → 0 ≤ v) (hh : PO X he' (fun σ H Q => Q hi H)) (he : PE X e te) :
    PE X (.Subscript e (.Slice none he' (some (.UnaryOp .USub (.Constant (.int 1) k p1) p2)) p3) pos) (tRevA X.K hi te) := by
  refine ⟨fun pins s σ H Q I h => ?_⟩
  refine Subscript_ (thn (he.run pins s σ H _ I h) fun v s1 ⟨x, H1, I1, r1, q1⟩ => ?_)
  obtain ⟨a, xs, ex, q⟩ := q1
  subst ex
  cases r1
  have hst : PO X (some (.UnaryOp .USub (.Constant (.int 1) k p1) p2)) (tPart (tUn (rU fun i => .int (-i)) (tC (.int 1)))) := po_some (pe_un un_neg pe_int)
  refine wpAny_Slice (thn (po_none.run pins s1 σ H1 (fun o H2 => o = none ∧ H2 = H1) I1 ⟨rfl, rfl⟩) fun vl s2 ⟨l, H2, I2, pl, el, e2⟩ => ?_)
  subst el e2
  refine thn (hh.run pins s2 σ H2 (fun o H3 => o = hi ∧ H3 = H2) I2 ⟨rfl, rfl⟩) fun vu s3 ⟨u, H3, I3, pu, eu, e3⟩ => ?_
  subst eu e3
  refine thn (hst.run pins s3 σ H3 (fun o H4 => o = some (-1) ∧ H4 = H3) I3 ⟨1, rfl, -1, rfl, rfl, rfl⟩) fun vs s4 ⟨o, H4, I4, ps, eo, e4⟩ => ?_
  subst eo e4
  have I5 : Inv X pins σ H4 { s4 with heap := s4.heap.push { cls := .type "slice", data := .fields #[vl, vu, vs] } } := I4.kept (t' := s4.toks) fun b ob q => Heap.get?_push_of_some _ q
  rcases q with ⟨hx, hn, q⟩ | ⟨hx, q⟩
  · subst hn
    obtain ⟨its, r, ht, hz⟩ := I5.list hx
    have hlen := r.length
    show wpAny (model X.prog X.w) X.A (subscriptTail e (.Slice none he' (some (.UnaryOp .USub (.Constant (.int 1) k p1) p2)) p3) (.ref a) (.ref s4.heap.objs.size)) (EP X pins σ Q) X.xe { s4 with heap := s4.heap.push { cls := .type "slice", data := .fields #[vl, vu, vs] } }
    refine tail_any (ops := [.ref a, .ref s4.heap.objs.size]) ht.isList.typeIs (PySem.slot_list_getitem.lookup) ?_ (by with_unfolding_all rfl)
    refine wpAny_getItem_list_slice ht.isList (Heap.IsSliceOf.new _ vl vu vs) pl pu ps (by decide) ?_ (by rw [List.size_toArray]; omega)
    rw [PySem.W.krv_pick]
    refine ⟨.ref _, _, I5.laid (t' := s4.toks) (o := .lst xs.reverse) (fun b ob q => Heap.get?_push_of_some _ q) (Nat.le_refl _) ?_, rfl, q _ (I5.hok.fresh (Nat.le_refl _))⟩
    exact ⟨by rw [List.length_reverse]; exact hz, _, 0, r.reverse, Heap.get?_push_size _ rfl⟩
  · obtain ⟨its, r, ht, hz⟩ := I5.tuple hx
    have hlen := r.length
    cases pl
    cases ps with
    | int i tk =>
    show wpAny (model X.prog X.w) X.A (subscriptTail e (.Slice none he' (some (.UnaryOp .USub (.Constant (.int 1) k p1) p2)) p3) (.ref a) (.ref s4.heap.objs.size)) (EP X pins σ Q) X.xe { s4 with heap := s4.heap.push { cls := .type "slice", data := .fields #[.none, vu, .int (-1) tk] } }
    refine tail_any (ops := [.ref a, .ref s4.heap.objs.size]) ht.typeIs (PyProof.Rows.slot_tuple_getitem.lookup) ?_ (by with_unfolding_all rfl)
    have es : its.toArray.size = xs.length := by rw [List.size_toArray]; exact hlen.symm
    refine getItem_tuple_rev ht (Heap.IsSliceOf.new _ .none vu (.int (-1) tk)) pu h0 ?_ (by rw [es]; exact hz)
    rw [es]
    refine ⟨.ref _, _, I5.laid (t' := s4.toks) (o := .tup (xs.drop (rCut _ xs.length)).reverse) (fun b ob q => Heap.get?_push_of_some _ q) (Nat.le_refl _) ?_, rfl, q _ (I5.hok.fresh (Nat.le_refl _))⟩
    exact ⟨by rw [List.length_reverse, List.length_drop]; omega, _, r.drop' _, IsTup.new _ _⟩
end
end L2
namespace P
open PySem PySem.Spec PyProof.Rows L2 G
section
variable {X : Cx} {W : WX} {E : Ent} {Γ : Sl} {e : Expr} {pos p0 p1' p2 p3 : Pos} {fe : M RV}
def gRevS (hi : Option Nat) (x : RV) (h : FH) : Option RV := match x.seq h with
  | some (false, ds) => match hi with
    | none => some (.l ds.reverse)
    | some _ => none
  | some (true, ds) => match hi with
    | none => some (.v (.tup ds.reverse))
    | some k => some (.v (.tup (ds.drop (k + 1)).reverse))
  | none => none
def ofN : Option Nat → Option Int
  | none => none
  | some k => some (k : Int)
theorem rCut_drop {α : Type} (xs : List α) (k : Nat) : xs.drop (L2.rCut (some (k : Int)) xs.length) = xs.drop (k + 1) := by
  show xs.drop (min ((k : Int).toNat + 1) xs.length) = _
  rw [Int.toNat_natCast]
  by_cases h : k + 1 ≤ xs.length
  · rw [Nat.min_eq_left h]
  · rw [Nat.min_eq_right (by omega), List.drop_length, List.drop_eq_nil_of_le (by omega)]
theorem po_hi {v : Int} {k : Nat} {p : Pos} : PO X (some (.Constant (.int v) k p)) (fun _ H Q => Q (some v) H) := ⟨fun pins s σ H Q I h => (po_some pe_int).run pins s σ H Q I ⟨v, rfl, h⟩⟩
theorem je_rev_aux {j : Nat} {hi : Option Nat} {he' : Option Expr} (hh : PO X he' (fun _ H Q => Q (ofN hi) H)) (he : JE X W E Γ e fe) :
    JE X W E Γ (.Subscript e (.Slice none he' (some (.UnaryOp .USub (.Constant (.int 1) j p1') p2)) p3) pos) (bnd fe fun x => oU (gRevS hi) x) := fun μ h σ H Q s p =>
  wE.of (pe_revA (fun v hv => by cases hi with
    | none => cases hv
    | some k => cases hv; exact Int.natCast_nonneg k) hh pe_w) (he μ h σ H _ s (Po.mono (Po.bind p) fun x h1 μ1 H1 _ s1 hr1 p1 u ru => by
    obtain ⟨z, hz, p2⟩ := p1.lift
    unfold gRevS at hz
    split at hz
    · rename_i ds e1
      split at hz
      · cases hz
        obtain ⟨a, xs, rfl, h4, h5⟩ := seqL_ok hr1 ru e1
        exact ⟨a, xs, rfl, .inl ⟨h5, rfl, fun q hq => p2.last hr1 (same_new hq) _ (rr_lst hr1 s1.th hq h4.rev)⟩⟩
      · cases hz
    · rename_i ds e1
      obtain ⟨a, xs, rfl, h4, h5⟩ := seqT_ok hr1 ru e1
      split at hz
      · cases hz
        refine ⟨a, xs, rfl, .inr ⟨h5, fun q hq => p2.last hr1 (same_new hq) _ ?_⟩⟩
        exact rr_tup hq (h4.drop 0).rev
      · rename_i k
        cases hz
        refine ⟨a, xs, rfl, .inr ⟨h5, fun q hq => p2.last hr1 (same_new hq) _ ?_⟩⟩
        rw [show ofN (some k) = some (k : Int) from rfl, rCut_drop]
        exact rr_tup hq (h4.drop (k + 1)).rev
    · cases hz))
theorem je_revS {j : Nat} (he : JE X W E Γ e fe) : JE X W E Γ (.Subscript e (.Slice none none (some (.UnaryOp .USub (.Constant (.int 1) j p1') p2)) p3) pos) (bnd fe fun x => oU (gRevS none) x) :=
  je_rev_aux (hi := none) ⟨fun pins s σ H Q I h => po_none.run pins s σ H Q I h⟩ he
theorem je_revK {j j2 : Nat} {v : Int} {pk : Pos} (k : Nat) (hv : v = (k : Int)) (he : JE X W E Γ e fe) : JE X W E Γ (.Subscript e (.Slice none (some (.Constant (.int v) j2 pk)) (some (.UnaryOp .USub (.Constant (.int 1) j p1') p2)) p3) pos) (bnd fe fun x => oU (gRevS (some k)) x) := by
  subst hv
  exact je_rev_aux (hi := some k) po_hi he
end
end P
/-! P29: padding, f-strings, max with a default, += of texts. -/
namespace P
open PySem PySem.Spec PyProof.Rows L2 G
end P
/-! P30: a dict spread into a display, one pair behind it. -/
namespace L2
open PySem PySem.Spec PyProof.Rows
end L2
namespace L2
open PySem PySem.Spec PyProof.Rows
end L2
namespace P
open PySem PySem.Spec PyProof.Rows L2 G
end P
/-! P32: the truth of values. -/
namespace P
open PySem PySem.Spec PyProof.Rows L2 G
def gTru (x : RV) (h : FH) : Option Bool := match x with
  | .v (.bl b) => some b
  | .v (.int i) => some (i != 0)
  | .v (.str y) => if y.length ≤ LIM then some ((y.length : Int) != 0) else none
  | .v .non => some false
  | x => match x.seq h with
    | some (_, ds) => some (!ds.isEmpty)
    | none => none
def oTru (x : RV) : M Bool := lift (gTru x)
end P
/-! P33: enumerate(xs, start=k), reversed(range(n)), split, count, rfind, += of fields, own.pop(). -/
namespace P
open PySem PySem.Spec PyProof.Rows L2 G
/-! ### enumerate(list, start=k) -/
/-! ### an empty tuple as the value of what is left out -/
/-! ### own.pop() -/
def oPopO (ds : List FV) : M (FV × List FV) := match ds.getLast? with
  | some d => pur (d, ds.dropLast)
  | none => fail
section
variable {X : Cx} {W : WX} {E : Ent} {Γ : Sl} {Γx : Option Sl} {α β : Type} {eα : α → Sl} {eβ : β → Sl} {rest : List Stmt} {px py p0 apos pos : Pos}
theorem jb_popV (i j : Nat) {ds : List FV} {x y : Str} {Γ' : FV → List FV → Sl} {kk : FV → List FV → M (Fl α β)} (w : SubX Γx Γ) (hNd : X.N.Nodup) (hk : ∀ d l, JB X W E Γx eα eβ (Γ' d l) rest (kk d l)) (q : sg Γ j = some (.l ds) := by rfl)
    (hΓ : ∀ d l, (Γ.set j (some (.l l))).set i (some (.v d)) = Γ' d l := by intro _ _; rfl)
    (hN : X.N[j]? = some x := by rfl) (hi : X.N[i]? = some y := by rfl) (hy : Loc X.env.scope y := by first | exact Or.inl rfl | exact Or.inr rfl) (hv : Vis X.env.scope x := by first | exact Or.inl rfl | exact Or.inr (Or.inl rfl) | exact Or.inr (Or.inr rfl)) (hd : (x == ("__debug__" : Str)) = false := by decide) (hcd : (x == ("__classdict__" : Str)) = false := by decide)
    (pe : ∀ {to : TE}, PE X (.Name x px) to → PE X (.Call (.Attribute (.Name x px) "pop" apos) [] [] p0) (tBM0 X.K "list" rPop to) := by intro to h1; exact pe_bm0 PySem.F.plainAttrs_list PySem.F.slot_list_pop PySem.F.type_list_pop mt_pop h1)
    (hs : swapsWith (.Call (.Attribute (.Name x px) "pop" apos) [] [] p0) (some (.Name y py)) pos.line X.env = pure false := by rfl) (hf : X.fn y = true ∨ X.env.scope.names.lookup y = some .local := by first | exact .inl rfl | exact .inr rfl | assumption) :
    JB X W E Γx eα eβ Γ (.Assign [.Name y py] (.Call (.Attribute (.Name x px) "pop" apos) [] [] p0) pos :: rest) (bnd (oPopO ds) fun r => kk r.1 r.2) := fun μ h σ H D s p => by
  have eq := sg_get q
  obtain ⟨u, h1', h2⟩ := s.sl j _ eq
  obtain ⟨p', xs, rfl, f, a, b⟩ := own_l h2
  unfold oPopO at p
  cases ql : ds.getLast? with
  | none => rw [ql] at p; exact p.elim
  | some d =>
    rw [ql] at p
    have hd' : ds[ds.length - 1]? = some d := by rw [← List.getLast?_eq_getElem?]; exact ql
    obtain ⟨v, v1, v2⟩ := b.get hd'
    refine wcons (wS.of (ps_set hNd hi hy (pe (pe_var hN hv hd hcd)) hs hf) ⟨.ref p', h1', .inl ⟨rfl, xs, SqL.of a⟩, p', xs, v, rfl, rfl, a, by rw [b.len]; exact v1, ?_⟩)
    have mu : Mut (H p') := by rw [a]; trivial
    have g := gw_mut (o := .lst xs.dropLast) mu
    have s4 := s.chg (o := .lst xs.dropLast) (r' := .l ds.dropLast) rfl eq h1' f.1 f.2 mu (.l f upd_same (VRs.mono g (fun _ _ => rfl) (Nat.le_refl _) _ _ b.dropLast))
    have s5 := s4.putV (i := i) (VR.mono g (fun _ _ => rfl) (Nat.le_refl _) _ _ v2)
    rw [hΓ] at s5
    exact hk d ds.dropLast μ h _ _ D s5 (PoN.at' p (StW.of g))
/-! ### self.f += j -/
end
end P
/-! P34: errors with fields: super().__init__(..) in an own error class. -/
namespace P
open PySem PySem.Spec PyProof.Rows L2 G
/-! ### the __init__ as a def -/
/-! ### two fields that are the two arguments -/
def small (i : Int) : Prop := i.natAbs.log2 < 1900 ∧ (Str.ofString (toString i)).length ≤ 100000
instance (i : Int) : Decidable (small i) := by unfold small; infer_instance
/-! ### raise x(e1, e2) -/
end P
/-! P35: errors with fields caught. -/
namespace P
open PySem PySem.Spec PyProof.Rows L2 G
/-- the fields of an error, in the heap -/
def XAt (B : Bs) (μ : Nat → Addr) (n : Nat) (H : Hp) (fs : Option (List (Str × FV))) (d : Option Addr) : Prop := match fs with
  | none => d = none
  | some fs => ∃ a ws, d = some a ∧ H a = some (.xd ws) ∧ KvR B H μ n fs ws
theorem XAt.step {B : Bs} {μ μ' : Nat → Addr} {h : FH} {n' : Nat} {H H' : Hp} {fs : Option (List (Str × FV))} {d : Option Addr} (x : XAt B μ h.length H fs d) (hr : HR B μ h H) (s : Step μ h.length H μ' n' H') : XAt B μ' n' H' fs d := by
  cases fs with
  | none => exact x
  | some fs =>
    obtain ⟨a, ws, h1, h2, h3⟩ := x
    refine ⟨a, ws, h1, s.fr _ _ h2 fun i hi z => ?_, h3.mono s.gw s.ext s.le⟩
    have q := hr.at' i h[i] (List.getElem?_eq_getElem hi)
    rw [z] at q
    cases hh : h[i] with
    | lst ds => rw [hh] at q; obtain ⟨xs, q1, _⟩ := q; rw [h2] at q1; cases q1
    | dK ds => rw [hh] at q; obtain ⟨xs, q1, _⟩ := q; rw [h2] at q1; cases q1
    | dT ds => rw [hh] at q; obtain ⟨xs, q1, _⟩ := q; rw [h2] at q1; cases q1
    | ins c ds => rw [hh] at q; obtain ⟨C, dx, xs, _, q1, _⟩ := q; rw [h2] at q1; cases q1
    | lk ds => rw [hh] at q; obtain ⟨xs, od, q1, _⟩ := q; rw [h2] at q1; cases q1
section
variable {α β γ : Type} {X : Cx} {W : WX} {E : Ent} {Γx : Option Sl} {eα : α → Sl} {eγ : γ → Sl} {eβ : β → Sl} {Γ Γ' : Sl} {rest body suite : List Stmt} {b₀ : Stmt} {pos p0 p p2 pos' np : Pos} {e : Expr} {fe : M RV}
def JEx (X : Cx) (i : Nat) (a : Addr) (fs : Option (List (Str × FV))) (d : Option Addr) (E : Ent) (Γ : Sl) (e : Expr) (fe : M RV) : Prop :=
  ∀ μ h σ H Q, SR (bs X) E μ Γ h σ H → σ[i]? = some (some (.ref a)) → XAt (bs X) μ h.length H fs d → Po (bs X) μ h.length H (fun r h' μ' H' => ∀ u, RR (bs X) H μ' h'.length H' r u → Q u H') (fun _ _ _ => False) (fe h) → wE X e σ H Q
/-! what a handler does -/
section
variable {i : Nat} {a : Addr} {fs : Option (List (Str × FV))} {d : Option Addr} {es : List Expr} {e1 e2 c : Expr} {f1' f2' fb : M RV} {tb t u : M Bool} {k : M (Fl α β)} {p1 : Pos}
theorem JEx.to {f g : M RV} (h : JEx X i a fs d E Γ e f) (q : ∀ h, f h = g h) : JEx X i a fs d E Γ e g := fun μ h0 σ H Q s hs hx p => h μ h0 σ H Q s hs hx (by rw [q]; exact p)
theorem XAt.xd {B : Bs} {μ : Nat → Addr} {n : Nat} {H : Hp} {fs : Option (List (Str × FV))} {d : Option Addr} (x : XAt B μ n H fs d) : ∀ dd, d = some dd → ∃ ws, H dd = some (.xd ws) := fun dd e => by
  subst e
  cases fs with
  | none => cases x
  | some fs =>
    obtain ⟨a, ws, h1, h2, _⟩ := x
    cases h1
    exact ⟨ws, h2⟩
theorem JEx.val {i : Nat} {a : Addr} {fs : Option (List (Str × FV))} {d : Option Addr} {σ : L2.St} {Q : VK} {μ : Nat → Addr} {h : FH} {H : Hp} (ha : JEx X i a fs d E Γ e fe) (s : SR (bs X) E μ Γ h σ H) (hs : σ[i]? = some (some (.ref a))) (hx : XAt (bs X) μ h.length H fs d)
    (p : Po (bs X) μ h.length H (fun d h' μ' H' => ∀ u, VR (bs X) H' μ' h'.length d u → Q u H') (fun _ _ _ => False) (mV fe h)) : wE X e σ H Q :=
  wE.gh (ha μ h σ H _ s hs hx (Po.mono (Po.vF p) fun x h1 μ1 H1 _ s1 hr1 p1 u ru => by
    obtain ⟨d, _, g⟩ := p1 u ru
    exact g.mono fun H2 z => z.2.2.2.2.2 u z.2.2.1))
end
end
end P
/-! P36: for over a list that is told (looked at anew at each turn: it must be the same). -/
namespace P
open PySem PySem.Spec PyProof.Rows L2 G
end P
/-! P37: y = own.pop(), for a continuation that takes the pair. -/
namespace P
open PySem PySem.Spec PyProof.Rows L2 G
section
variable {X : Cx} {W : WX} {E : Ent} {Γ : Sl} {Γx : Option Sl} {α β : Type} {eα : α → Sl} {eβ : β → Sl} {rest : List Stmt} {px py p0 apos pos : Pos}
theorem jb_popW (i j : Nat) {ds : List FV} {x y : Str} (Γ' : FV × List FV → Sl) {kk : FV × List FV → M (Fl α β)} (w : SubX Γx Γ) (hNd : X.N.Nodup) (hk : ∀ r, JB X W E Γx eα eβ (Γ' r) rest (kk r)) (q : sg Γ j = some (.l ds) := by rfl)
    (hΓ : ∀ d l, (Γ.set j (some (.l l))).set i (some (.v d)) = Γ' (d, l) := by intro _ _; rfl)
    (hN : X.N[j]? = some x := by rfl) (hi : X.N[i]? = some y := by rfl) (hy : Loc X.env.scope y := by first | exact Or.inl rfl | exact Or.inr rfl) (hv : Vis X.env.scope x := by first | exact Or.inl rfl | exact Or.inr (Or.inl rfl) | exact Or.inr (Or.inr rfl)) (hd : (x == ("__debug__" : Str)) = false := by decide) (hcd : (x == ("__classdict__" : Str)) = false := by decide)
    (pe : ∀ {to : TE}, PE X (.Name x px) to → PE X (.Call (.Attribute (.Name x px) "pop" apos) [] [] p0) (tBM0 X.K "list" rPop to) := by intro to h1; exact pe_bm0 PySem.F.plainAttrs_list PySem.F.slot_list_pop PySem.F.type_list_pop mt_pop h1)
    (hs : swapsWith (.Call (.Attribute (.Name x px) "pop" apos) [] [] p0) (some (.Name y py)) pos.line X.env = pure false := by rfl) (hf : X.fn y = true ∨ X.env.scope.names.lookup y = some .local := by first | exact .inl rfl | exact .inr rfl | assumption) :
    JB X W E Γx eα eβ Γ (.Assign [.Name y py] (.Call (.Attribute (.Name x px) "pop" apos) [] [] p0) pos :: rest) (bnd (oPopO ds) kk) :=
  jb_popV (kk := fun d l => kk (d, l)) (Γ' := fun d l => Γ' (d, l)) i j w hNd (fun d l => hk (d, l)) q hΓ hN hi hy hv hd hcd pe hs hf
end
end P
/-! P38: a def that is given the error that its caller handles. -/
namespace P
open PySem PySem.Spec PyProof.Rows L2 G
/-- what a def promises whose first argument is the handled error q -/
structure FnX (P : Program) (w : World) (K : PySem.W.Frag) (mg : Str → Option Value) (base : Heap) (k : Nat) (f : Addr) (fd : FuncData) (ps : List Str) (sp : Addr × Obj → List V → Hp → VK → Prop) : Prop where
  len : ∀ q vs H Q, sp q vs H Q → vs.length = ps.length
  run : ∀ (A : Around) (outer : List Env) (s : Shared) (H : Hp) (args : Args) (us : List Value) (vs : List V) (Q : VK) (q : Addr × Obj), L2H.RoomH k A → A.handled = some (.ref q.1) → L2H.PinOk outer H s q → Env0 P w K mg base A outer s H → BindsTo s fd args (ps.zip us) → Vals vs us → sp q vs H Q →
    codeAny (model P w) A (.call (.ref f) args) (CR (L2.CX P w) outer P w H s Q E0) s
section
variable {P : Program} {w : World} {K : PySem.W.Frag} {mg : Str → Option Value} {base : Heap}
theorem FnX.mono {j k : Nat} {f : Addr} {fd : FuncData} {ps : List Str} {sp : Addr × Obj → List V → Hp → VK → Prop} (F : FnX P w K mg base j f fd ps sp) (h : j ≤ k) : FnX P w K mg base k f fd ps sp :=
  ⟨F.len, fun A outer s H args us vs Q q r => F.run A outer s H args us vs Q q (r.mono h)⟩
/-- what is said of such a def: the error's class and fields, the other arguments -/
def spX (B : Bs) (mg : Str → Option Value) (f : Exn → FDef) : Addr × Obj → List V → Hp → VK → Prop := fun q vs H Q => ∃ μ h ds us z C d, vs = .ref q.1 :: us ∧ mg z.cls = some (.ref C) ∧ ExcC B.K C ∧ Zc (.ref C) d q.2 ∧ (∃ ws, q.2.data = .fields ws) ∧
  HR B μ h H ∧ XAt B μ h.length H z.fs d ∧ VRs B H μ h.length ds us ∧ Po B μ h.length H (fun r h' μ' H' => ∀ u, RR B H μ' h'.length H' r u → Q u H') (fun _ _ _ => False) (f z ds h)
theorem FnX.imp {n : Nat} {a : Addr} {fd : FuncData} {ps : List Str} {f g : Exn → FDef} (G : FnX P w K mg base n a fd ps (spX ⟨K, mg⟩ mg f)) (e : ∀ z ds, f z ds = g z ds) : FnX P w K mg base n a fd ps (spX ⟨K, mg⟩ mg g) := by
  have : f = g := funext fun z => funext (e z)
  rwa [← this]
end
/-! ### the call in the handler -/
/-! ### own.pop(i) -/
/-! ### a[b] where an error is handled -/
/-! ### a def with default values, called in the body of a try -/
theorem JB.sub {α β : Type} {X : Cx} {W : WX} {E : Ent} {Γx : Option Sl} {eα : α → Sl} {eβ : β → Sl} {Γ Γ' : Sl} {sts : List Stmt} {f : M (Fl α β)} (h : JB X W E Γx eα eβ Γ sts f) (w : Sub Γ Γ') : JB X W E Γx eα eβ Γ' sts f := fun μ h0 σ H D s p => h μ h0 σ H D (s.sub w) p
/-! ### a new object that gets a number where it stands -/
end P
/-! P39: a list extended by a tuple. -/
namespace P
open PySem PySem.Spec PyProof.Rows L2 G
theorem list_extend_tup (l : Addr) (items : Array Value) (n : Nat) (b : Addr) (o2 : Obj) (items2 : Array Value) (n2 : Nat) (hc : o2.cls = .type "tuple") (hd : o2.data = .seq items2 n2) (hs0 : ¬(!items.isEmpty && Builtin.List.listTooLong (items.size + items2.size)) = true) (hs1 : items.size ≤ sizeLine) (hs2 : items.size + items2.size ≤ sizeLine + 1) :
    Meets (Builtin.«list.extend» ⟨[.ref l, .ref b], []⟩) (fun _ R s => s.heap.get? l = some { cls := .type "list", dict := none, data := .seq items n, slots := #[] } ∧ s.heap.get? b = some o2 ∧ R (.ok (.ret Value.none)) { s with heap := s.heap.update l (Obj.mapSeq fun x => x ++ items2), toks := s.toks }) :=
  .of_wp fun prog w A R s h => by
    obtain ⟨cls, dict, data, slots⟩ := o2
    dsimp only at hc hd
    subst hc; subst hd
    obtain ⟨hp, g, d, tk, os⟩ := s; obtain ⟨hl, hb, h⟩ := h; have f1 := PySem.AutoSeq1.idx_int; have f2 := PySem.AutoSeq1.sub_tuple_tuple; have f3 := PySem.AutoSeq1.sub_list_list; have f4 := PySem.AutoSeq1.sub_tuple_list; have f5 := PySem.AutoSeq1.sub_list_tuple;
    have hz' : (items ++ items2).size ≤ sizeLine + 1 := by rw [Array.size_append]; exact hs2
    wp_walk using (PySem.wpAny_updateSeq hl rfl (hz := hs1) (_hz' := hz')), PySem.AutoSeq1.wpAny_loadPart' hl, PySem.AutoSeq1.wpAny_loadPart' hb; exact ⟨_, rfl, h⟩
/-- a list or a tuple is put behind -/
def rExtU (K : PySem.W.Frag) : V → List V → Hp → VK → Prop := fun x vs H Q => ∃ l b xs zs, x = .ref l ∧ vs = [.ref b] ∧ H l = some (.lst xs) ∧ (Rd H b (.lst zs) ∨ SqT K H b zs) ∧ xs.length + zs.length ≤ sizeLine ∧ Q .non (upd H l (.lst (xs ++ zs)))
section
variable {X : Cx}
theorem mt_extU : MtM X "list.extend" (rExtU X.K) := by
  rintro pins s σ H x0 v0 v us Q I rx rv ⟨l, b, xs, zs, rfl, rfl, hH, hB | hB, hz, q⟩
  · exact mt_extR pins s σ H _ _ v us Q I rx rv ⟨l, b, xs, zs, rfl, rfl, hH, hB, hz, q⟩
  · obtain rfl : v = .ref l := rx
    obtain ⟨u, rfl, ru⟩ := rv.one
    obtain rfl : u = .ref b := ru
    obtain ⟨_, ia, na, wa, ea⟩ := (Rd.of hH).ok I.hok
    obtain ⟨ib, wb, ⟨o2, eb, hc, nb, hd⟩, _⟩ := I.tuple hB
    have l1 := wa.length
    have l2 := wb.length
    have small : ia.toArray.size + ib.toArray.size ≤ sizeLine := by simp only [List.size_toArray]; omega
    have room : ¬ (!ia.toArray.isEmpty && Builtin.List.listTooLong (ia.toArray.size + ib.toArray.size)) = true := by
      rw [notLongL small, Bool.and_false]; decide
    have one : ia.toArray.size ≤ sizeLine := by omega
    have two : ia.toArray.size + ib.toArray.size ≤ sizeLine + 1 := by omega
    refine call_meets PySem.F.slot_list_extend ⟨_, ea, rfl⟩ PySem.F.entry_list_extend (PySem.F.args_list_extend_2 _ _) (list_extend_tup l ia.toArray na b o2 ib.toArray nb hc hd room one two) ⟨ea, eb, ?_⟩
    have len : (xs ++ zs).length ≤ sizeLine := by rw [List.length_append]; exact hz
    exact ⟨.non, _, I.lset (its' := ia ++ ib) hH ea (by simp) (wa.append wb) len, rfl, q⟩
end
def oLu (d : FV) : M (List FV) := match d with | .fl ds => pur ds | .tup ds => pur ds | _ => fail
section
variable {α β γ δ : Type} {X : Cx} {W : WX} {E : Ent} {Γx : Option Sl} {eα : α → Sl} {eβ : β → Sl} {Γ Γ' : Sl} {e a b c o i tg iter elt : Expr} {es : List Expr} {pos apos p0 p1 p2 px : Pos} {fe fo fi fa fb fc : M RV} {rest body : List Stmt} {os : List Nat} {n k : Nat} {scope : Scope} {src : M (List FV)}
theorem jb_extendU (j : Nat) {ds : List FV} {x : Str} {Γ' : List FV → Sl} {kk : List FV → M (Fl α β)} (w : SubX Γx Γ) (he : JE X W E Γ e fe) (hk : ∀ d, JB X W E Γx eα eβ (Γ' d) rest (kk d)) (q : sg Γ j = some (.l ds) := by rfl) (hΓ : ∀ d, Γ.set j (some (.l d)) = Γ' d := by intro _; rfl)
    (hN : X.N[j]? = some x := by rfl) (hv : Vis X.env.scope x := by first | exact Or.inl rfl | exact Or.inr (Or.inl rfl) | exact Or.inr (Or.inr rfl)) (hd : (x == ("__debug__" : Str)) = false := by decide) (hcd : (x == ("__classdict__" : Str)) = false := by decide)
    (pe : ∀ {to : TE} {t : TA}, PE X (.Name x px) to → PA X [e] t → PE X (.Call (.Attribute (.Name x px) "extend" apos) [e] [] p0) (tBM X.K "list" (rExtU X.K) to t) := by intro to t h1 h2; exact pe_bm PySem.F.plainAttrs_list PySem.F.slot_list_extend PySem.F.type_list_extend mt_extU h1 h2)
    (hs : swapsWith (.Call (.Attribute (.Name x px) "extend" apos) [e] [] p0) none pos.line X.env = pure false := by rfl) (h1 : starEach (e :: []) X.env = (false, eval e X.env) :: starEach [] X.env := by exact star1 rfl) :
    JB X W E Γx eα eβ Γ (.Expr (.Call (.Attribute (.Name x px) "extend" apos) [e] [] p0) pos :: rest) (bnd (mV fe) fun d => bnd (oLu d) fun es => bnd (oExt ds es) kk) := fun μ h σ H D s p => by
  have eq := sg_get q
  obtain ⟨u, h1', h2⟩ := s.sl j _ eq
  obtain ⟨p', xs, rfl, f, a, b⟩ := own_l h2
  refine wcons (wS.of (ps_expr (pe (pe_var hN hv hd hcd) (pa_cons pe_w pa_nil h1)) hs) ⟨.ref p', h1', .inl ⟨rfl, xs, SqL.of a⟩, PoN.val he s w p fun d h3 μ3 H3 u3 sw s3 v3 p3 => ?_⟩)
  obtain ⟨u', k1, k2⟩ := s3.sl j _ eq
  rw [h1'] at k1; cases k1
  obtain ⟨p'', ys, e', f', a', b'⟩ := own_l k2
  cases e'
  unfold oLu at p3
  split at p3
  · rename_i es
    cases v3 with
    | fl z1 z2 =>
      rename_i pa zs
      have p4 : PoN (bs X) E μ3 h3.length H3 D W Γx eα eβ (bnd (oExt ds es) kk h3) := p3
      unfold oExt at p4
      by_cases hl : ds.length + es.length ≤ LIM
      · rw [if_pos hl] at p4
        refine ⟨p', _, ys, _, rfl, rfl, a', .inl z1.rd, by rw [b'.len, z2.len]; exact lim_le hl, ?_⟩
        have mu : Mut (H3 p') := by rw [a']; trivial
        have g := gw_mut (o := .lst (ys ++ zs)) mu
        have s4 := s3.chg (o := .lst (ys ++ zs)) (r' := .l (ds ++ es)) rfl eq h1' f'.1 f'.2 mu (.l f' upd_same (VRs.mono g (fun _ _ => rfl) (Nat.le_refl _) _ _ (b'.append z2)))
        rw [hΓ] at s4
        exact hk (ds ++ es) μ3 h3 σ _ D s4 (PoN.at' p4 (StW.of g))
      · rw [if_neg hl] at p4; exact p4.elim
  · rename_i es
    cases v3 with
    | tup z1 z2 =>
      rename_i pa zs
      have p4 : PoN (bs X) E μ3 h3.length H3 D W Γx eα eβ (bnd (oExt ds es) kk h3) := p3
      unfold oExt at p4
      by_cases hl : ds.length + es.length ≤ LIM
      · rw [if_pos hl] at p4
        refine ⟨p', _, ys, _, rfl, rfl, a', .inr z1, by rw [b'.len, z2.len]; exact lim_le hl, ?_⟩
        have mu : Mut (H3 p') := by rw [a']; trivial
        have g := gw_mut (o := .lst (ys ++ zs)) mu
        have s4 := s3.chg (o := .lst (ys ++ zs)) (r' := .l (ds ++ es)) rfl eq h1' f'.1 f'.2 mu (.l f' upd_same (VRs.mono g (fun _ _ => rfl) (Nat.le_refl _) _ _ (b'.append z2)))
        rw [hΓ] at s4
        exact hk (ds ++ es) μ3 h3 σ _ D s4 (PoN.at' p4 (StW.of g))
      · rw [if_neg hl] at p4; exact p4.elim
  · exact p3.elim
end
end P
/-! R1: how natives reckon. -/
namespace P
open PySem PySem.Spec PyProof.Rows L2 G
section
variable {α β γ δ : Type}
@[simp] theorem bnd_pur (a : α) (k : α → M β) : bnd (pur a) k = k a := id rfl
@[simp] theorem bnd_fail (k : α → M β) : bnd fail k = fail := id rfl
@[simp] theorem bnd_bnd (m : M α) (k : α → M β) (l : β → M γ) : bnd (bnd m k) l = bnd m fun a => bnd (k a) l := by
  funext h; show ((m h).bind k).bind l = (m h).bind _; cases m h <;> rfl
theorem bnd_ok {m : M α} {k : α → M β} {h h' : FH} {a : α} (e : m h = .ok a h') : bnd m k h = k a h' := by
  show (m h).bind k = _; rw [e]; rfl
@[simp] theorem lift_some (a : α) : lift (fun _ => some a) = pur a := id rfl
/-! ends of blocks -/
@[simp] theorem ret_pur (r : RV) : (ret (pur r) : M (Fl α β)) = pur (.rt r) := id rfl
@[simp] theorem ret_fail : (ret fail : M (Fl α β)) = fail := id rfl
@[simp] theorem ret_bnd (m : M α) (k : α → M RV) : (ret (bnd m k) : M (Fl β γ)) = bnd m fun a => ret (k a) := bnd_bnd _ _ _
@[simp] theorem toF_rt (r : RV) : toF (pur (.rt r)) = pur r := id rfl
@[simp] theorem toF_nx (u : Unit) : toF (pur (.nx u)) = pur (.v .non) := id rfl
@[simp] theorem toF_fail : toF fail = fail := id rfl
@[simp] theorem toF_bnd (m : M α) (k : α → M (Fl Unit Empty)) : toF (bnd m k) = bnd m fun a => toF (k a) := bnd_bnd _ _ _
@[simp] theorem seqN_nx (a : α) (k : α → M (Fl γ β)) : seqN (pur (.nx a)) k = k a := id rfl
@[simp] theorem seqN_rt (r : RV) (k : α → M (Fl γ β)) : seqN (pur (.rt r)) k = pur (.rt r) := id rfl
@[simp] theorem seqN_bk (b : β) (k : α → M (Fl γ β)) : seqN (pur (.bk b)) k = pur (.bk b) := id rfl
@[simp] theorem seqN_ct (b : β) (k : α → M (Fl γ β)) : seqN (pur (.ct b)) k = pur (.ct b) := id rfl
@[simp] theorem seqN_fail (k : α → M (Fl γ β)) : seqN fail k = fail := id rfl
@[simp] theorem seqN_bnd (m : M δ) (f : δ → M (Fl α β)) (k : α → M (Fl γ β)) : seqN (bnd m f) k = bnd m fun a => seqN (f a) k := bnd_bnd _ _ _
@[simp] theorem up_rt (r : RV) : (up (pur (.rt r)) : M (Fl α β)) = pur (.rt r) := id rfl
@[simp] theorem up_bk (b : β) : (up (pur (.bk b)) : M (Fl α β)) = pur (.bk b) := id rfl
@[simp] theorem up_ct (b : β) : (up (pur (.ct b)) : M (Fl α β)) = pur (.ct b) := id rfl
@[simp] theorem up_fail : (up fail : M (Fl α β)) = fail := id rfl
@[simp] theorem up_bnd (m : M δ) (f : δ → M (Fl Empty β)) : (up (bnd m f) : M (Fl α β)) = bnd m fun a => up (f a) := bnd_bnd _ _ _
/-! values -/
@[simp] theorem mV_v (x : FV) : mV (pur (.v x)) = pur x := id rfl
@[simp] theorem mV_l (x : List FV) : mV (pur (.l x)) = pur (.fl x) := id rfl
@[simp] theorem mV_d (x : List (Key × FV)) : mV (pur (.d x)) = pur (.fd (x.map (·.1)) (x.map (·.2))) := id rfl
@[simp] theorem mV_t (x : List (List Key × FV)) : mV (pur (.t x)) = pur (.ft (x.map (·.1)) (x.map (·.2))) := id rfl
@[simp] theorem mV_o (c : Str) (x : List (Str × FV)) : mV (pur (.o c x)) = pur (.fo c (x.map (·.1)) (x.map (·.2))) := id rfl
@[simp] theorem mV_fail : mV fail = fail := id rfl
@[simp] theorem mV_bnd (m : M α) (k : α → M RV) : mV (bnd m k) = bnd m fun a => mV (k a) := by
  funext h; show vF ((m h).bind k) = (m h).bind _; cases m h <;> rfl
@[simp] theorem mL_l (x : List FV) : mL (pur (.l x)) = pur x := id rfl
@[simp] theorem mL_fail : mL fail = fail := id rfl
@[simp] theorem mL_bnd (m : M α) (k : α → M RV) : mL (bnd m k) = bnd m fun a => mL (k a) := bnd_bnd _ _ _
@[simp] theorem mD_d (x : List (Key × FV)) : mD (pur (.d x)) = pur x := id rfl
@[simp] theorem mD_fail : mD fail = fail := id rfl
@[simp] theorem mD_bnd (m : M α) (k : α → M RV) : mD (bnd m k) = bnd m fun a => mD (k a) := bnd_bnd _ _ _
@[simp] theorem mT_v (x : FV) : mT (pur (.v x)) = pur x := id rfl
@[simp] theorem mT_fail : mT fail = fail := id rfl
@[simp] theorem mT_bnd (m : M α) (k : α → M RV) : mT (bnd m k) = bnd m fun a => mT (k a) := by
  funext h; show vT ((m h).bind k) = (m h).bind _; cases m h <;> rfl
/-! calls -/
@[simp] theorem gcM_pur' (r : RV) : gcM (pur r) = pur r := gcM_pur r
@[simp] theorem gcM_fail' : gcM fail = fail := id rfl
@[simp] theorem dF_pur' (r : RV) : dF (pur r) = pur r := dF_pur r
theorem gcM_same {m : M RV} {h h' : FH} {r : RV} (e : m h = .ok r h') (l : h'.length ≤ h.length) : gcM m h = .ok r h' := by
  unfold gcM; rw [e]; show cutR h.length r h' = _; unfold cutR; rw [if_neg (fun z => absurd z.1 (Nat.not_lt_of_le l))]
theorem gcM_cut {m : M RV} {h h' : FH} {r r' : RV} (e : m h = .ok r h') (l : h.length < h'.length) (lo : (h'.take h.length).all (·.lowB h.length) = true) (c : r.cut h.length h' = some r') : gcM m h = .ok r' (h'.take h.length) := by
  unfold gcM; rw [e]; show cutR h.length r h' = _; unfold cutR; rw [if_pos ⟨l, lo⟩, c]
/-! tests -/
@[simp] theorem oT_bl (b : Bool) : oT (.v (.bl b)) = pur b := id rfl
@[simp] theorem mB_pur (b : Bool) : mB (pur b) = pur (.v (.bl b)) := id rfl
@[simp] theorem mB_fail : mB fail = fail := id rfl
@[simp] theorem mB_bnd (m : M α) (k : α → M Bool) : mB (bnd m k) = bnd m fun a => mB (k a) := bnd_bnd _ _ _
@[simp] theorem mNot_pur (b : Bool) : mNot (pur b) = pur (!b) := id rfl
@[simp] theorem mNot_bnd (m : M α) (k : α → M Bool) : mNot (bnd m k) = bnd m fun a => mNot (k a) := bnd_bnd _ _ _
@[simp] theorem mAnd_t (u : M Bool) : mAnd (pur true) u = u := id rfl
@[simp] theorem mAnd_f (u : M Bool) : mAnd (pur false) u = pur false := id rfl
@[simp] theorem mAnd_bnd (m : M α) (k : α → M Bool) (u : M Bool) : mAnd (bnd m k) u = bnd m fun a => mAnd (k a) u := bnd_bnd _ _ _
@[simp] theorem mOr_t (u : M Bool) : mOr (pur true) u = pur true := id rfl
@[simp] theorem mOr_f (u : M Bool) : mOr (pur false) u = u := id rfl
@[simp] theorem mOr_bnd (m : M α) (k : α → M Bool) (u : M Bool) : mOr (bnd m k) u = bnd m fun a => mOr (k a) u := bnd_bnd _ _ _
@[simp] theorem mAnd_pp (a b : Bool) : mAnd (pur a) (pur b) = pur (a && b) := by cases a <;> rfl
@[simp] theorem mOr_pp (a b : Bool) : mOr (pur a) (pur b) = pur (a || b) := by cases a <;> rfl
@[simp] theorem oAndV_t (f : M RV) : oAndV (.v (.bl true)) f = f := id rfl
@[simp] theorem oAndV_f (f : M RV) : oAndV (.v (.bl false)) f = pur (.v (.bl false)) := id rfl
@[simp] theorem oAndV_pp (a b : Bool) : oAndV (.v (.bl a)) (pur (.v (.bl b))) = pur (.v (.bl (a && b))) := by cases a <;> rfl
@[simp] theorem oOrV_t (f : M RV) : oOrV (.v (.bl true)) f = pur (.v (.bl true)) := id rfl
@[simp] theorem oOrV_f (f : M RV) : oOrV (.v (.bl false)) f = f := id rfl
@[simp] theorem oOrV_pp (a b : Bool) : oOrV (.v (.bl a)) (pur (.v (.bl b))) = pur (.v (.bl (a || b))) := by cases a <;> rfl
@[simp] theorem oNotV_bl (b : Bool) : oNotV (.v (.bl b)) = pur (.v (.bl (!b))) := id rfl
/-! targets -/
@[simp] theorem bindT_some (d : FV) (k : FV → M γ) : bindT some d k = k d := id rfl
@[simp] theorem bindT_tup (g : List FV → Option δ) (ds : List FV) (k : δ → M γ) : bindT (bTup g) (.tup ds) k = match g ds with | some x => k x | none => fail := id rfl
@[simp] theorem bindT_fl (g : List FV → Option δ) (ds : List FV) (k : δ → M γ) : bindT (bTup g) (.fl ds) k = match g ds with | some x => k x | none => fail := id rfl
@[simp] theorem bCons_cons {δ' : Type} (f : FV → Option δ) (g : List FV → Option δ') (d : FV) (ds : List FV) : bCons f g (d :: ds) = match f d with
    | some x => match g ds with
      | some y => some (x, y)
      | none => none
    | none => none := rfl
@[simp] theorem bNil_nil : bNil [] = some () := id rfl
end
end P
/-! R2: how operations reckon. -/
namespace P
open PySem PySem.Spec PyProof.Rows L2 G
theorem lift_ok {α : Type} {o : FH → Option α} {a : α} (h : ∀ s, o s = some a) : lift o = pur a := by
  funext s; show lift o s = _; unfold lift; rw [h s]; rfl
/-! ints -/
@[simp] theorem add_ii (i j : Int) : oB gAdd (.v (.int i)) (.v (.int j)) = pur (.v (.int (i + j))) := id rfl
@[simp] theorem sub_ii (i j : Int) : oB gMns (.v (.int i)) (.v (.int j)) = pur (.v (.int (i - j))) := id rfl
theorem mul_ii {i j : Int} (h : CMul i j) : oB gMul (.v (.int i)) (.v (.int j)) = pur (.v (.int (i * j))) := by
  funext s; show lift (gMul _ _) s = _; unfold lift gMul cMul; dsimp only; rw [if_pos h]; rfl
theorem mod_ii {i j : Int} (h : 0 < j) : oB gMod (.v (.int i)) (.v (.int j)) = pur (.v (.int (i % j))) := by
  funext s; show lift (gMod _ _) s = _; unfold lift gMod gI cMod; dsimp only; rw [if_pos h]; rfl
theorem div_ii {i j : Int} (h : CDiv i j) : oB gDiv (.v (.int i)) (.v (.int j)) = pur (.v (.int (i / j))) := by
  funext s; show lift (gDiv _ _) s = _; unfold lift gDiv gI cDiv; dsimp only; rw [if_pos h]; rfl
@[simp] theorem neg_i (i : Int) : oU gNeg (.v (.int i)) = pur (.v (.int (-i))) := id rfl
@[simp] theorem abs_i (i : Int) : oU gAbs (.v (.int i)) = pur (.v (.int (if i < 0 then -i else i))) := id rfl
@[simp] theorem int_b (b : Bool) : oU gInt (.v (.bl b)) = pur (.v (.int (if b = true then 1 else 0))) := id rfl
@[simp] theorem int_i (i : Int) : oU gInt (.v (.int i)) = pur (.v (.int i)) := id rfl
@[simp] theorem lt_ii (i j : Int) : oC gLt (.v (.int i)) (.v (.int j)) = pur (decide (i < j)) := id rfl
@[simp] theorem le_ii (i j : Int) : oC gLe (.v (.int i)) (.v (.int j)) = pur (decide (i ≤ j)) := id rfl
@[simp] theorem gt_ii (i j : Int) : oC gGt (.v (.int i)) (.v (.int j)) = pur (decide (j < i)) := id rfl
@[simp] theorem ge_ii (i j : Int) : oC gGe (.v (.int i)) (.v (.int j)) = pur (decide (j ≤ i)) := id rfl
@[simp] theorem lt_ss (i j : Str) : oC gLt (.v (.str i)) (.v (.str j)) = pur (decide (i.cps.toList < j.cps.toList)) := id rfl
@[simp] theorem le_ss (i j : Str) : oC gLe (.v (.str i)) (.v (.str j)) = pur (!decide (j.cps.toList < i.cps.toList)) := id rfl
/-! texts -/
theorem add_ss {i j : Str} (h : i.length + j.length ≤ 16000000) : oB gAdd (.v (.str i)) (.v (.str j)) = pur (.v (.str (i ++ j))) := by
  funext s; show lift (gAdd _ _) s = _; unfold lift gAdd; dsimp only; rw [if_pos h]; rfl
/-! tuples, lists -/
theorem add_tt {i j : List FV} (h : i.length + j.length ≤ 16000000) : oB gAdd (.v (.tup i)) (.v (.tup j)) = pur (.v (.tup (i ++ j))) := by
  funext s; show lift (gAdd _ _) s = _; unfold lift gAdd; dsimp only; rw [if_pos h]; rfl
theorem add_ll {x y : RV} {i j : List FV} (hx : ∀ h, x.lst h = some i) (hy : ∀ h, y.lst h = some j) (nx : ∀ z, x ≠ .v (.str z)) (ni : ∀ z, x ≠ .v (.int z)) (nt : ∀ z, x ≠ .v (.tup z)) (h : i.length + j.length ≤ 16000000) : oB gAdd x y = pur (.l (i ++ j)) := by
  funext s
  show lift (gAdd _ _) s = _
  unfold lift gAdd
  split
  · rename_i a q
    split at q
    · exact absurd rfl (ni _)
    · exact absurd rfl (ni _)
    · exact absurd rfl (nx _)
    · exact absurd rfl (nt _)
    · rw [hx, hy] at q
      dsimp only at q
      rw [if_pos h] at q
      cases q; rfl
  · rename_i q
    split at q
    · exact absurd rfl (ni _)
    · exact absurd rfl (ni _)
    · exact absurd rfl (nx _)
    · exact absurd rfl (nt _)
    · rw [hx, hy] at q
      dsimp only at q
      rw [if_pos h] at q
      cases q
theorem add_lfl {i j : List FV} (h : i.length + j.length ≤ 16000000) : oB gAdd (.v (.fl i)) (.v (.fl j)) = pur (.l (i ++ j)) := add_ll (fun _ => rfl) (fun _ => rfl) (fun _ z => nomatch z) (fun _ z => nomatch z) (fun _ z => nomatch z) h
theorem add_l_l {i j : List FV} (h : i.length + j.length ≤ 16000000) : oB gAdd (.l i) (.l j) = pur (.l (i ++ j)) := add_ll (fun _ => rfl) (fun _ => rfl) (fun _ z => nomatch z) (fun _ z => nomatch z) (fun _ z => nomatch z) h
theorem add_f_l {i j : List FV} (h : i.length + j.length ≤ 16000000) : oB gAdd (.v (.fl i)) (.l j) = pur (.l (i ++ j)) := add_ll (fun _ => rfl) (fun _ => rfl) (fun _ z => nomatch z) (fun _ z => nomatch z) (fun _ z => nomatch z) h
theorem add_l_f {i j : List FV} (h : i.length + j.length ≤ 16000000) : oB gAdd (.l i) (.v (.fl j)) = pur (.l (i ++ j)) := add_ll (fun _ => rfl) (fun _ => rfl) (fun _ z => nomatch z) (fun _ z => nomatch z) (fun _ z => nomatch z) h
theorem app_lt {ds : List FV} {d : FV} (h : ds.length < 16000000) : oApp ds d = pur (ds ++ [d]) := if_pos h
theorem ext_le {ds es : List FV} (h : ds.length + es.length ≤ 16000000) : oExt ds es = pur (ds ++ es) := if_pos h
@[simp] theorem tup_nil : oTup [] = pur (.v (.tup [])) := id rfl
@[simp] theorem tup_1 (a : FV) : oTup [a] = pur (.v (.tup [a])) := id rfl
@[simp] theorem tup_2 (a b : FV) : oTup [a, b] = pur (.v (.tup [a, b])) := id rfl
@[simp] theorem tup_3 (a b c : FV) : oTup [a, b, c] = pur (.v (.tup [a, b, c])) := id rfl
@[simp] theorem tup_4 (a b c d : FV) : oTup [a, b, c, d] = pur (.v (.tup [a, b, c, d])) := id rfl
@[simp] theorem tup_5 (a b c d e : FV) : oTup [a, b, c, d, e] = pur (.v (.tup [a, b, c, d, e])) := id rfl
@[simp] theorem lst_nil : oLst [] = pur (.l []) := id rfl
@[simp] theorem lst_1 (a : FV) : oLst [a] = pur (.l [a]) := id rfl
@[simp] theorem lst_2 (a b : FV) : oLst [a, b] = pur (.l [a, b]) := id rfl
@[simp] theorem lst_3 (a b c : FV) : oLst [a, b, c] = pur (.l [a, b, c]) := id rfl
@[simp] theorem lst_4 (a b c d : FV) : oLst [a, b, c, d] = pur (.l [a, b, c, d]) := id rfl
@[simp] theorem lst_5 (a b c d e : FV) : oLst [a, b, c, d, e] = pur (.l [a, b, c, d, e]) := id rfl
@[simp] theorem lst_6 (a b c d e f : FV) : oLst [a, b, c, d, e, f] = pur (.l [a, b, c, d, e, f]) := id rfl
@[simp] theorem oW_tup (ds : List FV) : oW (.tup ds) = pur ds := id rfl
@[simp] theorem oW_fl (ds : List FV) : oW (.fl ds) = pur ds := id rfl
@[simp] theorem oW_sl (ds : List FV) : oW (.sl ds) = pur ds := id rfl
@[simp] theorem oW_str (x : Str) : oW (.str x) = pur (chars x) := id rfl
@[simp] theorem oW_fd (ks : List Key) (vs : List FV) : oW (.fd ks vs) = pur (keysF keyF (ks.zip vs)) := id rfl
@[simp] theorem oL_fl (ds : List FV) : oL (.fl ds) = pur ds := id rfl
@[simp] theorem oSq_tup (ds : List FV) : oSq (.tup ds) = pur ds := id rfl
@[simp] theorem oSq_fl (ds : List FV) : oSq (.fl ds) = pur ds := id rfl
@[simp] theorem oLs_fl (ds : List FV) : oLs (.fl ds) = pur ds := id rfl
@[simp] theorem oZip_tt (a b : List FV) : oZip (.tup a) (.tup b) = pur (zipF a b) := id rfl
@[simp] theorem oZip_ff (a b : List FV) : oZip (.fl a) (.fl b) = pur (zipF a b) := id rfl
@[simp] theorem zipF_cons (a b : FV) (x y : List FV) : zipF (a :: x) (b :: y) = .tup [a, b] :: zipF x y := id rfl
@[simp] theorem zipF_nil (y : List FV) : zipF [] y = [] := id rfl
/-! subscripts -/
theorem atI_nat {α : Type} {xs : List α} {i : Nat} {d : α} (h : xs[i]? = some d) : atI xs (i : Int) = some d := by
  have l : i < xs.length := (List.getElem?_eq_some_iff.mp h).1
  unfold atI ixN
  rw [if_pos (Int.natCast_nonneg _), if_pos (by omega)]
  simpa using h
@[simp] theorem atI_0 {α : Type} (x : α) (xs : List α) : atI (x :: xs) 0 = some x := atI_nat (i := 0) rfl
@[simp] theorem atI_1 {α : Type} (x y : α) (xs : List α) : atI (x :: y :: xs) 1 = some y := atI_nat (i := 1) rfl
@[simp] theorem atI_2 {α : Type} (x y z : α) (xs : List α) : atI (x :: y :: z :: xs) 2 = some z := atI_nat (i := 2) rfl
@[simp] theorem atI_3 {α : Type} (x y z u : α) (xs : List α) : atI (x :: y :: z :: u :: xs) 3 = some u := atI_nat (i := 3) rfl
theorem ix_t {ds : List FV} {i : Int} {d : FV} (h : atI ds i = some d) : oB gIx (.v (.tup ds)) (.v (.int i)) = pur (.v d) := lift_ok fun s => by show (atI ds i).map RV.v = _; rw [h]; rfl
theorem ix_f {ds : List FV} {i : Int} {d : FV} (h : atI ds i = some d) : oB gIx (.v (.fl ds)) (.v (.int i)) = pur (.v d) := lift_ok fun s => by show (atI ds i).map RV.v = _; rw [h]; rfl
theorem ix_s {ds : List FV} {i : Int} {d : FV} (h : atI ds i = some d) : oB gIx (.v (.sl ds)) (.v (.int i)) = pur (.v d) := lift_ok fun s => by show (atI ds i).map RV.v = _; rw [h]; rfl
@[simp] theorem ix_t0 (x : FV) (xs : List FV) : oB gIx (.v (.tup (x :: xs))) (.v (.int 0)) = pur (.v x) := ix_t (atI_0 _ _)
@[simp] theorem ix_t1 (x y : FV) (xs : List FV) : oB gIx (.v (.tup (x :: y :: xs))) (.v (.int 1)) = pur (.v y) := ix_t (atI_1 _ _ _)
@[simp] theorem ix_t2 (x y z : FV) (xs : List FV) : oB gIx (.v (.tup (x :: y :: z :: xs))) (.v (.int 2)) = pur (.v z) := ix_t (atI_2 _ _ _ _)
@[simp] theorem ix_t3 (x y z u : FV) (xs : List FV) : oB gIx (.v (.tup (x :: y :: z :: u :: xs))) (.v (.int 3)) = pur (.v u) := ix_t (atI_3 _ _ _ _ _)
@[simp] theorem ix_f0 (x : FV) (xs : List FV) : oB gIx (.v (.fl (x :: xs))) (.v (.int 0)) = pur (.v x) := ix_f (atI_0 _ _)
@[simp] theorem ix_f1 (x y : FV) (xs : List FV) : oB gIx (.v (.fl (x :: y :: xs))) (.v (.int 1)) = pur (.v y) := ix_f (atI_1 _ _ _)
@[simp] theorem ix_f2 (x y z : FV) (xs : List FV) : oB gIx (.v (.fl (x :: y :: z :: xs))) (.v (.int 2)) = pur (.v z) := ix_f (atI_2 _ _ _ _)
/-! slices -/
@[simp] theorem sl_t1 (x : FV) (xs : List FV) : oSl (.v (.tup (x :: xs))) (some 1) none = pur (.v (.tup xs)) := by
  have : cutF (x :: xs) (some 1) none = xs := by
    unfold cutF
    rw [show (some (1 : Int)) = some ((1 : Nat) : Int) from rfl, HT.sIx_nat, HT.sIx_none]
    have : min 1 (x :: xs).length = 1 := by rw [List.length_cons]; omega
    rw [this]
    simp
  funext s
  show Rs.ok (RV.v (.tup (cutF (x :: xs) (some 1) none))) s = _
  rw [this]; rfl
theorem sl_t {ds : List FV} {l u : Option Int} : oSl (.v (.tup ds)) l u = pur (.v (.tup (cutF ds l u))) := id rfl
/-! built-ins -/
@[simp] theorem len_t (ds : List FV) : oU gLen (.v (.tup ds)) = pur (.v (.int ds.length)) := id rfl
@[simp] theorem len_f (ds : List FV) : oU gLen (.v (.fl ds)) = pur (.v (.int ds.length)) := id rfl
@[simp] theorem len_sl (ds : List FV) : oU gLen (.v (.sl ds)) = pur (.v (.int ds.length)) := id rfl
@[simp] theorem len_l (ds : List FV) : oU gLen (.l ds) = pur (.v (.int ds.length)) := id rfl
@[simp] theorem len_bl (ds : List FV) : oU gLen (.bl ds) = pur (.v (.int ds.length)) := id rfl
@[simp] theorem list_t (ds : List FV) : oU gList (.v (.tup ds)) = pur (.l ds) := id rfl
@[simp] theorem list_f (ds : List FV) : oU gList (.v (.fl ds)) = pur (.l ds) := id rfl
@[simp] theorem list_l (ds : List FV) : oU gList (.l ds) = pur (.l ds) := id rfl
@[simp] theorem tup_l (ds : List FV) : oU gTup (.l ds) = pur (.v (.tup ds)) := id rfl
@[simp] theorem tup_bl (ds : List FV) : oU gTup (.bl ds) = pur (.v (.tup ds)) := id rfl
@[simp] theorem tup_f (ds : List FV) : oU gTup (.v (.fl ds)) = pur (.v (.tup ds)) := id rfl
@[simp] theorem tup_t (ds : List FV) : oU gTup (.v (.tup ds)) = pur (.v (.tup ds)) := id rfl
@[simp] theorem dict_fd (ks : List Key) (vs : List FV) : oU gDict (.v (.fd ks vs)) = pur (.d (ks.zip vs)) := id rfl
@[simp] theorem dict_d (kvs : List (Key × FV)) : oU gDict (.d kvs) = pur (.d kvs) := id rfl
@[simp] theorem oDk_fd (ks : List Key) (vs : List FV) : oDk (.v (.fd ks vs)) = pur () := id rfl
@[simp] theorem oStr_s (z : Str) : oStr (.v (.str z)) = pur () := id rfl
@[simp] theorem keyOf_s {β : Type} (z : Str) (k : Key → M β) : keyOf (.str z) k = k (.inr z) := id rfl
@[simp] theorem keyOf_i {β : Type} (z : Int) (k : Key → M β) : keyOf (.int z) k = k (.inl z) := id rfl
theorem get_fd {ks : List Key} {vs : List FV} {k d : FV} {kk : Key} (hk : k.key = some kk) : oGet (.v (.fd ks vs)) k d = pur (.v ((lookK (ks.zip vs) kk).getD d)) := by
  refine lift_ok fun s => ?_
  show (gGet _ _ _ s).map RV.v = _
  unfold gGet
  rw [show (RV.v (.fd ks vs)).dict s = some (ks.zip vs) from rfl, hk]; rfl
@[simp] theorem get_s (ks : List Key) (vs : List FV) (z : Str) (d : FV) : oGet (.v (.fd ks vs)) (.str z) d = pur (.v ((lookK (ks.zip vs) (.inr z)).getD d)) := get_fd rfl
@[simp] theorem get_i (ks : List Key) (vs : List FV) (z : Int) (d : FV) : oGet (.v (.fd ks vs)) (.int z) d = pur (.v ((lookK (ks.zip vs) (.inl z)).getD d)) := get_fd rfl
@[simp] theorem dis_1 (k : Key) (a : FV) : oDis [(k, a)] = pur (.d [(k, a)]) := id rfl
theorem join_s {a : Str} {x : RV} {ds : List FV} {ys : List Str} {b : Bool} (h : ∀ s, x.seq s = some (b, ds)) (e : txts ds = some ys) (l : (ys.map (·.length)).sum + ys.length * a.length ≤ 16000000) : oB gJoin (.v (.str a)) x = pur (.v (.str (Txt.join a ys))) := by
  funext s
  show lift (gJoin _ _) s = _
  unfold lift gJoin
  rw [h s]
  dsimp only
  rw [e]
  dsimp only
  rw [if_pos l]; rfl
/-! isinstance -/
theorem is_mk {T : String} {x : RV} {t : String} {k : Bool} (h : ∀ s, tyR x s = some t) (e : kitB t T = some k) : oU (gIs T) x = pur (.v (.bl k)) := by
  funext s
  show lift (gIs T x) s = _
  unfold lift gIs
  rw [h s]; dsimp only; rw [e]; rfl
@[simp] theorem is_ss (x : Str) : oU (gIs "str") (.v (.str x)) = pur (.v (.bl true)) := is_mk (fun _ => rfl) (by decide +kernel)
@[simp] theorem is_st (x : List FV) : oU (gIs "str") (.v (.tup x)) = pur (.v (.bl false)) := is_mk (fun _ => rfl) (by decide +kernel)
@[simp] theorem is_sn : oU (gIs "str") (.v .non) = pur (.v (.bl false)) := is_mk (fun _ => rfl) (by decide +kernel)
@[simp] theorem is_si (x : Int) : oU (gIs "str") (.v (.int x)) = pur (.v (.bl false)) := is_mk (fun _ => rfl) (by decide +kernel)
@[simp] theorem is_sb (x : Bool) : oU (gIs "str") (.v (.bl x)) = pur (.v (.bl false)) := is_mk (fun _ => rfl) (by decide +kernel)
@[simp] theorem is_ts (x : Str) : oU (gIs "tuple") (.v (.str x)) = pur (.v (.bl false)) := is_mk (fun _ => rfl) (by decide +kernel)
@[simp] theorem is_tt (x : List FV) : oU (gIs "tuple") (.v (.tup x)) = pur (.v (.bl true)) := is_mk (fun _ => rfl) (by decide +kernel)
@[simp] theorem is_tf (x : List FV) : oU (gIs "tuple") (.v (.fl x)) = pur (.v (.bl false)) := is_mk (fun _ => rfl) (by decide +kernel)
@[simp] theorem is_ti (x : Int) : oU (gIs "tuple") (.v (.int x)) = pur (.v (.bl false)) := is_mk (fun _ => rfl) (by decide +kernel)
@[simp] theorem is_lf (x : List FV) : oU (gIs "list") (.v (.fl x)) = pur (.v (.bl true)) := is_mk (fun _ => rfl) (by decide +kernel)
@[simp] theorem is_ll (x : List FV) : oU (gIs "list") (.l x) = pur (.v (.bl true)) := is_mk (fun _ => rfl) (by decide +kernel)
@[simp] theorem is_df (x : List Key) (y : List FV) : oU (gIs "dict") (.v (.fd x y)) = pur (.v (.bl true)) := is_mk (fun _ => rfl) (by decide +kernel)
@[simp] theorem is_dd (x : List (Key × FV)) : oU (gIs "dict") (.d x) = pur (.v (.bl true)) := is_mk (fun _ => rfl) (by decide +kernel)
@[simp] theorem is_dn : oU (gIs "dict") (.v .non) = pur (.v (.bl false)) := is_mk (fun _ => rfl) (by decide +kernel)
@[simp] theorem is_ln : oU (gIs "list") (.v .non) = pur (.v (.bl false)) := is_mk (fun _ => rfl) (by decide +kernel)
@[simp] theorem is_ii (x : Int) : oU (gIs "int") (.v (.int x)) = pur (.v (.bl true)) := is_mk (fun _ => rfl) (by decide +kernel)
@[simp] theorem is_ib (x : Bool) : oU (gIs "int") (.v (.bl x)) = pur (.v (.bl true)) := is_mk (fun _ => rfl) (by decide +kernel)
@[simp] theorem is_bi (x : Int) : oU (gIs "bool") (.v (.int x)) = pur (.v (.bl false)) := is_mk (fun _ => rfl) (by decide +kernel)
@[simp] theorem is_bb (x : Bool) : oU (gIs "bool") (.v (.bl x)) = pur (.v (.bl true)) := is_mk (fun _ => rfl) (by decide +kernel)
/-! None -/
@[simp] theorem isN_non (b : Bool) : oC (gIsN b) (.v .non) (.v .non) = pur (!b) := id rfl
@[simp] theorem isN_str (b : Bool) (x : Str) : oC (gIsN b) (.v (.str x)) (.v .non) = pur b := id rfl
@[simp] theorem isN_int (b : Bool) (x : Int) : oC (gIsN b) (.v (.int x)) (.v .non) = pur b := id rfl
@[simp] theorem isN_bl (b : Bool) (x : Bool) : oC (gIsN b) (.v (.bl x)) (.v .non) = pur b := id rfl
@[simp] theorem isN_tup (b : Bool) (x : List FV) : oC (gIsN b) (.v (.tup x)) (.v .non) = pur b := id rfl
@[simp] theorem isN_fl (b : Bool) (x : List FV) : oC (gIsN b) (.v (.fl x)) (.v .non) = pur b := id rfl
@[simp] theorem isN_fd (b : Bool) (x : List Key) (y : List FV) : oC (gIsN b) (.v (.fd x y)) (.v .non) = pur b := id rfl
@[simp] theorem isN_fo (b : Bool) (c : Str) (x : List Str) (y : List FV) : oC (gIsN b) (.v (.fo c x y)) (.v .non) = pur b := id rfl
@[simp] theorem isN_ref (b : Bool) (x : Nat) : oC (gIsN b) (.v (.ref x)) (.v .non) = pur b := id rfl
@[simp] theorem isN_l (b : Bool) (x : List FV) : oC (gIsN b) (.l x) (.v .non) = pur b := id rfl
@[simp] theorem isN_d (b : Bool) (x : List (Key × FV)) : oC (gIsN b) (.d x) (.v .non) = pur b := id rfl
/-! == -/
theorem q_vv {neg : Bool} {x y : FV} (hx : x.pure = true) (hy : y.pure = true) (h : min x.py.depth y.py.depth ≤ 64) : oC (gQ neg) (.v x) (.v y) = pur (if neg = true then !PyData.eqv x.py y.py else PyData.eqv x.py y.py) := by
  have e : ∀ (s : FH) (z : FV), z.pure = true → (RV.v z).dv s = some (.p z.py) := fun s z hz => by
    show z.dv s 3 = _; unfold FV.dv; rw [if_pos hz]
  funext s
  show lift (gQ neg _ _) s = _
  unfold lift gQ
  rw [e s x hx, e s y hy]
  dsimp only
  rw [eqX, if_pos h]; rfl
@[simp] theorem q_ii (neg : Bool) (i j : Int) : oC (gQ neg) (.v (.int i)) (.v (.int j)) = pur (if neg = true then !decide (i = j) else decide (i = j)) := by
  rw [q_vv (by simp [FV.pure]) (by simp [FV.pure]) (by simp [FV.py, PyData.depth])]
  simp only [FV.py, PyData.eqv]
  rfl
@[simp] theorem q_ss (neg : Bool) (i j : Str) : oC (gQ neg) (.v (.str i)) (.v (.str j)) = pur (if neg = true then !decide (i = j) else decide (i = j)) := by
  rw [q_vv (by simp [FV.pure]) (by simp [FV.pure]) (by simp [FV.py, PyData.depth])]
  simp only [FV.py, PyData.eqv]
  congr 2
@[simp] theorem q_bb (neg : Bool) (i j : Bool) : oC (gQ neg) (.v (.bl i)) (.v (.bl j)) = pur (if neg = true then !decide (i = j) else decide (i = j)) := by
  rw [q_vv (by simp [FV.pure]) (by simp [FV.pure]) (by simp [FV.py, PyData.depth])]
  cases i <;> cases j <;> cases neg <;> rfl
/-! in: texts -/
def inT (w z : Str) : Bool := match w.cps.toList with | [c] => decide (c ∈ z.cps.toList) | _ => inS w z
@[simp] theorem mx_ss (neg : Bool) (w z : Str) : oC (gMx neg) (.v (.str w)) (.v (.str z)) = pur (if neg = true then !inT w z else inT w z) := by
  refine lift_ok fun s => ?_
  show gMx neg _ _ s = _
  unfold gMx gIn inT
  rw [show (RV.v (.str z)).seq s = none from rfl, show (RV.v (.str z)).dict s = none from rfl]
  dsimp only
  generalize w.cps.toList = l
  cases l with
  | nil => rfl
  | cons c r =>
    cases r with
    | nil => rfl
    | cons d r => rfl
/-! ranges -/
theorem r1_i {n : Int} (h0 : -4611686018427387904 ≤ n) (h1 : n < 4611686018427387904) : oR1 (.v (.int n)) = pur (rngL 0 n.toNat) := by
  unfold oR1; dsimp only; rw [if_pos ⟨h0, h1⟩]
/-! loops -/
theorem forN_cons {A β : Type} (F : A → FV → M (Fl A A)) (d : FV) (ds : List FV) (a : A) : (forN F (d :: ds) a : M (Fl A β)) = bnd (F a d) fun r => match r with
    | .nx a' => forN F ds a'
    | .ct a' => forN F ds a'
    | .bk a' => pur (.nx a')
    | .rt r => pur (.rt r) := rfl
theorem noEx_pur {α : Type} (a : α) : noEx (pur a) = pur a := id rfl
/-- a comprehension of values -/
theorem filN_map {β : Type} {g : FV → M (Option FV)} {e : β → FV} {f : β → Option FV} : ∀ {xs : List β}, (∀ x, x ∈ xs → g (e x) = pur (f x)) → filN g (xs.map e) = pur (xs.filterMap f)
  | [], _ => rfl
  | x :: xs, h => by
    rw [List.map_cons, filN, h x List.mem_cons_self, noEx_pur, bnd_pur, filN_map fun y hy => h y (List.mem_cons_of_mem _ hy), bnd_pur, List.filterMap_cons]
    cases f x <;> rfl
theorem filL_map {β : Type} {g : FV → M (Option FV)} {e : β → FV} {f : β → Option FV} {xs : List β} (h : ∀ x, x ∈ xs → g (e x) = pur (f x)) (l : xs.length ≤ 16000000) : filL g (xs.map e) = pur (.l (xs.filterMap f)) := by
  unfold filL
  rw [if_pos (by rw [List.length_map]; exact l), filN_map h, bnd_pur]
theorem filL_all {β : Type} {g : FV → M (Option FV)} {e : β → FV} {f : β → FV} {xs : List β} (h : ∀ x, x ∈ xs → g (e x) = pur (some (f x))) (l : xs.length ≤ 16000000) : filL g (xs.map e) = pur (.l (xs.map f)) := by
  rw [filL_map (f := fun x => some (f x)) h l]
  congr 2
  induction xs with
  | nil => rfl
  | cons x xs ih => rw [List.filterMap_cons, List.map_cons]; simp
theorem item_some {δ : Type} {b : FV → Option δ} {t : δ → M Bool} {fe : δ → M RV} {d : FV} {x : δ} (h : b d = some x) : item b t fe d = bnd (t x) fun c => if c = true then bnd (mV (fe x)) fun v => pur (some v) else pur none := by
  unfold item bindT; rw [h]
end P
/-! R3: the script and what is drawn from it. -/
namespace P
open PySem PySem.Spec PyProof.Rows L2 G
def startN (v_law_script : FV) : M (Fl Unit Empty) :=
  (bnd (mL (oLst [])) fun law_row_1 => (bnd (pur (.int 17)) fun law_seed_2 => (bnd (bnd (oU gLen (.v v_law_script)) fun t_3 => (oR1 t_3)) fun xs_44 => seqN (forN (fun | (law_row_5, law_seed_6), law_k_4 => (bnd (mV (bnd (oB gIx (.v v_law_script) (.v law_k_4)) fun t_7 => (oU gAbs t_7))) fun law_cell_8 => (bnd (mV (bnd (bnd (bnd (bnd (oB gMul (.v law_seed_6) (.v (.int 31))) fun t_9 => (oB gAdd t_9 (.v law_cell_8))) fun t_10 => (oB gAdd t_10 (.v law_k_4))) fun t_11 => (oU gInt t_11)) fun t_12 => (oB gMod t_12 (.v (.int 2147483647))))) fun law_seed_13 => (bnd (bnd (oB gPow (.v (.int 10)) (.v (.int 18))) fun t_14 => (oC gGe (.v law_cell_8) t_14)) fun c_15 => if c_15 = true then (bnd (mV (bnd (oB gPow (.v (.int 10)) (.v (.int 18))) fun t_16 => (oB gMns (.v law_cell_8) t_16))) fun law_cell_17 => (bnd (oR1 (.v (.int 60))) fun xs_28 => seqN (forN (fun | (law_row_19, law_cell_20), law_j_18 => (bnd (oC gGt (.v law_cell_20) (.v (.int 0))) fun c_21 => if c_21 = true then (bnd (mV (bnd (oU gInt (.v law_cell_20)) fun t_23 => (oB gMod t_23 (.v (.int 840))))) fun v_25 => (bnd (oApp law_row_19 v_25) fun law_row_22 => (bnd (mV (oB gDiv (.v law_cell_20) (.v (.int 840)))) fun law_cell_24 => (pur (.nx (law_row_22, law_cell_24)))))) else (pur (.nx (law_row_19, law_cell_20))))) xs_28 (law_row_5, law_cell_17)) (fun | (law_row_26, law_cell_27) => (pur (.nx (law_row_26, law_seed_13)))))) else (bnd (mV (bnd (bnd (bnd (bnd (oB gAdd (.v law_cell_8) (.v (.int 1))) fun t_29 => (oB gMul t_29 (.v (.int 48271)))) fun t_30 => (bnd (oB gMul (.v law_k_4) (.v (.int 69621))) fun t_31 => (oB gAdd t_30 t_31))) fun t_32 => (oU gInt t_32)) fun t_33 => (oB gMod t_33 (.v (.int 2147483647))))) fun law_mixed_34 => (bnd (mV (bnd (bnd (bnd (oB gMul (.v law_mixed_34) (.v (.int 40692))) fun t_35 => (oB gAdd t_35 (.v (.int 5)))) fun t_36 => (oU gInt t_36)) fun t_37 => (oB gMod t_37 (.v (.int 2147483399))))) fun law_mixed_38 => (bnd (mV (bnd (oB gDiv (.v law_mixed_38) (.v (.int 13))) fun t_40 => (oB gMod t_40 (.v (.int 840))))) fun v_41 => (bnd (oApp law_row_5 v_41) fun law_row_39 => (pur (.nx (law_row_39, law_seed_13))))))))))) xs_44 (law_row_1, law_seed_2)) (fun | (law_row_42, law_seed_43) => (ret (oLst [(.fl law_row_42), (.int 0), law_seed_43]))))))
def takeN (v_law_state v_law_many : FV) : M (Fl Unit Empty) :=
  (bnd (mV (oB gIx (.v v_law_state) (.v (.int 1)))) fun law_at_1 => (bnd (mV (oB gAdd (.v law_at_1) (.v (.int 1)))) fun v_20 => (bnd (oSet v_20 (.v v_law_state) (.v (.int 1))) fun _ => (bnd (bnd (bnd (oB gIx (.v v_law_state) (.v (.int 0))) fun t_2 => (oU gLen t_2)) fun t_3 => (oC gLt (.v law_at_1) t_3)) fun c_4 => if c_4 = true then ret (bnd (bnd (bnd (oB gIx (.v v_law_state) (.v (.int 0))) fun t_5 => (oB gIx t_5 (.v law_at_1))) fun t_6 => (oU gInt t_6)) fun t_7 => (oB gMod t_7 (.v v_law_many))) else (bnd (mV (bnd (bnd (bnd (bnd (oB gIx (.v v_law_state) (.v (.int 2))) fun t_8 => (bnd (oB gMul (.v law_at_1) (.v (.int 40503))) fun t_9 => (oB gAdd t_8 t_9))) fun t_10 => (oB gMul t_10 (.v (.int 48271)))) fun t_11 => (oU gInt t_11)) fun t_12 => (oB gMod t_12 (.v (.int 2147483647))))) fun law_mixed_13 => (bnd (mV (bnd (bnd (bnd (oB gMul (.v law_mixed_13) (.v (.int 69621))) fun t_14 => (bnd (oB gMul (.v law_at_1) (.v law_at_1)) fun t_15 => (oB gAdd t_14 t_15))) fun t_16 => (oU gInt t_16)) fun t_17 => (oB gMod t_17 (.v (.int 2147483629))))) fun law_mixed_18 => (ret (bnd (oB gDiv (.v law_mixed_18) (.v (.int 11))) fun t_19 => (oB gMod t_19 (.v v_law_many))))))))))
theorem mul_l {i j : Int} (h : -(2 ^ 64) < j ∧ j < 2 ^ 64) : CMul i j := .inr h
theorem mulL (i : Int) {j : Int} (h : -(2 ^ 64) < j ∧ j < 2 ^ 64) : oB gMul (.v (.int i)) (.v (.int j)) = pur (.v (.int (i * j))) := mul_ii (mul_l h)
theorem divL (i : Int) {j : Int} (h : 0 < j ∧ j < 2 ^ 30) : oB gDiv (.v (.int i)) (.v (.int j)) = pur (.v (.int (i / j))) := div_ii (by exact ⟨h.1, by omega⟩)
theorem p18 : oB gPow (.v (.int 10)) (.v (.int 18)) = pur (.v (.int 1000000000000000000)) := by
  refine lift_ok fun s => ?_
  show gPow _ _ s = _
  unfold gPow gI cPow
  dsimp only
  rw [if_pos (by exact ⟨by decide, by decide, by decide⟩)]; rfl
theorem in_loop {β : Type} : ∀ (m : Nat) (lo : Int) (row : List Int) (c : Int), row.length + m < 16000000 → ∃ (row' : List Int) (c' : Int), row'.length ≤ row.length + m ∧
    (forN (fun | (law_row_19, law_cell_20), law_j_18 => (bnd (oC gGt (.v law_cell_20) (.v (.int 0))) fun c_21 => if c_21 = true then (bnd (mV (bnd (oU gInt (.v law_cell_20)) fun t_23 => (oB gMod t_23 (.v (.int 840))))) fun v_25 => (bnd (oApp law_row_19 v_25) fun law_row_22 => (bnd (mV (oB gDiv (.v law_cell_20) (.v (.int 840)))) fun law_cell_24 => (pur (.nx (law_row_22, law_cell_24)))))) else (pur (.nx (law_row_19, law_cell_20))))) (rngL lo m) (row.map .int, .int c) : M (Fl (List FV × FV) β)) = pur (.nx (row'.map .int, .int c'))
  | 0, lo, row, c, _ => ⟨row, c, Nat.le_refl _, rfl⟩
  | m + 1, lo, row, c, hl => by
    rw [rngL, forN_cons]
    by_cases hc : 0 < c
    · obtain ⟨row', c', h1, h2⟩ := in_loop (β := β) m (lo + 1) (row ++ [c % 840]) (c / 840) (by rw [List.length_append]; show row.length + 1 + m < _; omega)
      refine ⟨row', c', by rw [List.length_append] at h1; have : [c % 840].length = 1 := rfl; omega, ?_⟩
      have l : (row.map FV.int).length < 16000000 := by rw [List.length_map]; omega
      simp only [gt_ii, bnd_pur, decide_eq_true hc, if_true, int_i, mod_ii (show (0 : Int) < 840 by decide), mV_v, app_lt l, divL c (show 0 < (840 : Int) ∧ (840 : Int) < 2 ^ 30 by decide)]
      rw [List.map_append] at h2
      exact h2
    · obtain ⟨row', c', h1, h2⟩ := in_loop (β := β) m (lo + 1) row c (by omega)
      refine ⟨row', c', by omega, ?_⟩
      simp only [gt_ii, bnd_pur, decide_eq_false hc, Bool.false_eq_true, if_false]
      exact h2
/-- a turn of the outer loop -/
theorem out_loop {β : Type} (ns : List Int) (F : (List FV × FV) → FV → M (Fl (List FV × FV) (List FV × FV)))
    (hF : ∀ (lo : Nat) (row : List Int) (sd : Int), lo < ns.length → row.length ≤ 60 * 63 → ∃ (row' : List Int) (sd' : Int), row'.length ≤ row.length + 60 ∧ F (row.map .int, .int sd) (.int lo) = pur (.nx (row'.map .int, .int sd'))) (hns : ns.length ≤ 63) :
    ∀ (m lo : Nat) (row : List Int) (sd : Int), lo + m = ns.length → row.length ≤ 60 * lo → ∃ (row' : List Int) (sd' : Int), (forN F (rngL lo m) (row.map .int, .int sd) : M (Fl (List FV × FV) β)) = pur (.nx (row'.map .int, .int sd'))
  | 0, lo, row, sd, _, _ => ⟨row, sd, rfl⟩
  | m + 1, lo, row, sd, hl, hr => by
    obtain ⟨row', s1, h1, h2⟩ := hF lo row sd (by omega) (by omega)
    obtain ⟨row2, sd2, h3⟩ := out_loop (β := β) ns F hF hns m (lo + 1) row' s1 (by omega) (by omega)
    refine ⟨row2, sd2, ?_⟩
    rw [rngL, forN_cons, h2, bnd_pur, show ((lo : Nat) : Int) + 1 = ((lo + 1 : Nat) : Int) by omega]
    exact h3
theorem start_ok (ns : List Int) (hns : ns.length ≤ 63) : ∃ (row : List Int) (sd : Int), gcM (toF (startN (.sl (ns.map .int)))) = pur (.l [.fl (row.map .int), .int 0, .int sd]) := by
  have q1 : ∀ i : Int, oB gMod (.v (.int i)) (.v (.int 2147483647)) = pur (.v (.int (i % 2147483647))) := fun i => mod_ii (by decide)
  have q2 : ∀ i : Int, oB gMod (.v (.int i)) (.v (.int 2147483399)) = pur (.v (.int (i % 2147483399))) := fun i => mod_ii (by decide)
  have q3 : ∀ i : Int, oB gMod (.v (.int i)) (.v (.int 840)) = pur (.v (.int (i % 840))) := fun i => mod_ii (by decide)
  have m1 := fun i => mulL i (j := 31) (by decide)
  have m2 := fun i => mulL i (j := 48271) (by decide)
  have m3 := fun i => mulL i (j := 69621) (by decide)
  have m4 := fun i => mulL i (j := 40692) (by decide)
  have d13 := fun i => divL i (j := 13) (by decide)
  have r60 : oR1 (.v (.int 60)) = pur (rngL 0 60) := r1_i (by decide) (by decide)
  unfold startN
  rw [lst_nil, mL_l, bnd_pur, bnd_pur, len_sl, bnd_pur, List.length_map, r1_i (by omega) (by omega), bnd_pur, Int.toNat_natCast]
  have key := out_loop (β := Empty) ns (fun | (law_row_5, law_seed_6), law_k_4 => (bnd (mV (bnd (oB gIx (.v (.sl (ns.map .int))) (.v law_k_4)) fun t_7 => (oU gAbs t_7))) fun law_cell_8 => (bnd (mV (bnd (bnd (bnd (bnd (oB gMul (.v law_seed_6) (.v (.int 31))) fun t_9 => (oB gAdd t_9 (.v law_cell_8))) fun t_10 => (oB gAdd t_10 (.v law_k_4))) fun t_11 => (oU gInt t_11)) fun t_12 => (oB gMod t_12 (.v (.int 2147483647))))) fun law_seed_13 => (bnd (bnd (oB gPow (.v (.int 10)) (.v (.int 18))) fun t_14 => (oC gGe (.v law_cell_8) t_14)) fun c_15 => if c_15 = true then (bnd (mV (bnd (oB gPow (.v (.int 10)) (.v (.int 18))) fun t_16 => (oB gMns (.v law_cell_8) t_16))) fun law_cell_17 => (bnd (oR1 (.v (.int 60))) fun xs_28 => seqN (forN (fun | (law_row_19, law_cell_20), law_j_18 => (bnd (oC gGt (.v law_cell_20) (.v (.int 0))) fun c_21 => if c_21 = true then (bnd (mV (bnd (oU gInt (.v law_cell_20)) fun t_23 => (oB gMod t_23 (.v (.int 840))))) fun v_25 => (bnd (oApp law_row_19 v_25) fun law_row_22 => (bnd (mV (oB gDiv (.v law_cell_20) (.v (.int 840)))) fun law_cell_24 => (pur (.nx (law_row_22, law_cell_24)))))) else (pur (.nx (law_row_19, law_cell_20))))) xs_28 (law_row_5, law_cell_17)) (fun | (law_row_26, law_cell_27) => (pur (.nx (law_row_26, law_seed_13)))))) else (bnd (mV (bnd (bnd (bnd (bnd (oB gAdd (.v law_cell_8) (.v (.int 1))) fun t_29 => (oB gMul t_29 (.v (.int 48271)))) fun t_30 => (bnd (oB gMul (.v law_k_4) (.v (.int 69621))) fun t_31 => (oB gAdd t_30 t_31))) fun t_32 => (oU gInt t_32)) fun t_33 => (oB gMod t_33 (.v (.int 2147483647))))) fun law_mixed_34 => (bnd (mV (bnd (bnd (bnd (oB gMul (.v law_mixed_34) (.v (.int 40692))) fun t_35 => (oB gAdd t_35 (.v (.int 5)))) fun t_36 => (oU gInt t_36)) fun t_37 => (oB gMod t_37 (.v (.int 2147483399))))) fun law_mixed_38 => (bnd (mV (bnd (oB gDiv (.v law_mixed_38) (.v (.int 13))) fun t_40 => (oB gMod t_40 (.v (.int 840))))) fun v_41 => (bnd (oApp law_row_5 v_41) fun law_row_39 => (pur (.nx (law_row_39, law_seed_13))))))))))) (fun lo row sd hlo hr => by
    have hat : atI (ns.map FV.int) (lo : Nat) = some (.int ns[lo]) := atI_nat (by rw [List.getElem?_map, List.getElem?_eq_getElem hlo]; rfl)
    simp only [ix_s hat, bnd_pur, abs_i, mV_v, m1, add_ii, int_i, q1, p18, ge_ii]
    generalize (if ns[lo] < 0 then -ns[lo] else ns[lo]) = cell
    generalize (sd * 31 + cell + lo) % 2147483647 = s1
    by_cases hc : (1000000000000000000 : Int) ≤ cell
    · obtain ⟨row', c', h1, h2⟩ := in_loop (β := List FV × FV) 60 0 row (cell - 1000000000000000000) (by omega)
      refine ⟨row', s1, h1, ?_⟩
      simp only [decide_eq_true hc, if_true, sub_ii, mV_v, bnd_pur, r60]
      rw [h2]; rfl
    · refine ⟨row ++ [(((cell + 1) * 48271 + lo * 69621) % 2147483647 * 40692 + 5) % 2147483399 / 13 % 840], s1, by rw [List.length_append]; exact Nat.add_le_add_left (show 1 ≤ 60 by decide) _, ?_⟩
      have l : (row.map FV.int).length < 16000000 := by rw [List.length_map]; omega
      simp only [decide_eq_false hc, Bool.false_eq_true, if_false, add_ii, m2, m3, m4, q1, q2, q3, d13, int_i, mV_v, bnd_pur, app_lt l, List.map_append]
      rfl) hns ns.length 0 [] 17 (by omega) (by simp)
  obtain ⟨row, sd, h⟩ := key
  refine ⟨row, sd, ?_⟩
  have h' : (forN (fun | (law_row_5, law_seed_6), law_k_4 => (bnd (mV (bnd (oB gIx (.v (.sl (ns.map .int))) (.v law_k_4)) fun t_7 => (oU gAbs t_7))) fun law_cell_8 => (bnd (mV (bnd (bnd (bnd (bnd (oB gMul (.v law_seed_6) (.v (.int 31))) fun t_9 => (oB gAdd t_9 (.v law_cell_8))) fun t_10 => (oB gAdd t_10 (.v law_k_4))) fun t_11 => (oU gInt t_11)) fun t_12 => (oB gMod t_12 (.v (.int 2147483647))))) fun law_seed_13 => (bnd (bnd (oB gPow (.v (.int 10)) (.v (.int 18))) fun t_14 => (oC gGe (.v law_cell_8) t_14)) fun c_15 => if c_15 = true then (bnd (mV (bnd (oB gPow (.v (.int 10)) (.v (.int 18))) fun t_16 => (oB gMns (.v law_cell_8) t_16))) fun law_cell_17 => (bnd (oR1 (.v (.int 60))) fun xs_28 => seqN (forN (fun | (law_row_19, law_cell_20), law_j_18 => (bnd (oC gGt (.v law_cell_20) (.v (.int 0))) fun c_21 => if c_21 = true then (bnd (mV (bnd (oU gInt (.v law_cell_20)) fun t_23 => (oB gMod t_23 (.v (.int 840))))) fun v_25 => (bnd (oApp law_row_19 v_25) fun law_row_22 => (bnd (mV (oB gDiv (.v law_cell_20) (.v (.int 840)))) fun law_cell_24 => (pur (.nx (law_row_22, law_cell_24)))))) else (pur (.nx (law_row_19, law_cell_20))))) xs_28 (law_row_5, law_cell_17)) (fun | (law_row_26, law_cell_27) => (pur (.nx (law_row_26, law_seed_13)))))) else (bnd (mV (bnd (bnd (bnd (bnd (oB gAdd (.v law_cell_8) (.v (.int 1))) fun t_29 => (oB gMul t_29 (.v (.int 48271)))) fun t_30 => (bnd (oB gMul (.v law_k_4) (.v (.int 69621))) fun t_31 => (oB gAdd t_30 t_31))) fun t_32 => (oU gInt t_32)) fun t_33 => (oB gMod t_33 (.v (.int 2147483647))))) fun law_mixed_34 => (bnd (mV (bnd (bnd (bnd (oB gMul (.v law_mixed_34) (.v (.int 40692))) fun t_35 => (oB gAdd t_35 (.v (.int 5)))) fun t_36 => (oU gInt t_36)) fun t_37 => (oB gMod t_37 (.v (.int 2147483399))))) fun law_mixed_38 => (bnd (mV (bnd (oB gDiv (.v law_mixed_38) (.v (.int 13))) fun t_40 => (oB gMod t_40 (.v (.int 840))))) fun v_41 => (bnd (oApp law_row_5 v_41) fun law_row_39 => (pur (.nx (law_row_39, law_seed_13))))))))))) (rngL 0 ns.length) ([], .int 17) : M (Fl (List FV × FV) Empty)) = pur (.nx (row.map .int, .int sd)) := h
  rw [h', seqN_nx]
  simp only [lst_3, ret_pur, toF_rt]
  exact gcM_pur _
/-! ### a number drawn -/
/-- the drawing state: the numbers, the place, the seed -/
structure DS where
  row : List Int
  at' : Nat
  sd : Int
def DS.next (s : DS) : DS := ⟨s.row, s.at' + 1, s.sd⟩
def DS.ob (s : DS) : FO := .lst [.fl (s.row.map .int), .int s.at', .int s.sd]
theorem bnd_h {α β : Type} (m : M α) (k : α → M β) (h : FH) : bnd m k h = (m h).bind k := rfl
theorem pur_h {α : Type} (a : α) (h : FH) : pur a h = .ok a h := rfl
theorem ok_bind {α β : Type} (a : α) (h : FH) (k : α → M β) : (Rs.ok a h).bind k = k a h := rfl
theorem ix_r0 {ds : List FV} {i : Int} {d : FV} {r : FH} (e : atI ds i = some d) : oB gIx (.v (.ref 0)) (.v (.int i)) (.lst ds :: r) = .ok (.v d) (.lst ds :: r) := by
  show lift (gIx _ _) _ = _
  unfold lift
  have : gIx (.v (.ref 0)) (.v (.int i)) (.lst ds :: r) = some (.v d) := by
    show (atI ds i).map RV.v = _
    rw [e]; rfl
  rw [this]
theorem take_ok (s : DS) (r : FH) (k : Nat) (hk : 0 < k) (ha : s.at' < 2 ^ 60) : ∃ i : Nat, i < k ∧ gcM (toF (takeN (.ref 0) (.int k))) (s.ob :: r) = .ok (.v (.int i)) (s.next.ob :: r) := by
  have key : ∀ x : Int, ∃ i : Nat, i < k ∧ x % (k : Int) = i := fun x => by
    have h1 : 0 ≤ x % (k : Int) := Int.emod_nonneg _ (by omega)
    have h2 : x % (k : Int) < k := Int.emod_lt_of_pos _ (by omega)
    exact ⟨(x % k).toNat, by omega, by omega⟩
  have g0 : oB gIx (.v (.ref 0)) (.v (.int 1)) (s.ob :: r) = .ok (.v (.int s.at')) (s.ob :: r) := ix_r0 (atI_1 _ _ _)
  have g1 : oB gIx (.v (.ref 0)) (.v (.int 0)) (s.next.ob :: r) = .ok (.v (.fl (s.row.map .int))) (s.next.ob :: r) := ix_r0 (atI_0 _ _)
  have g2 : oB gIx (.v (.ref 0)) (.v (.int 2)) (s.next.ob :: r) = .ok (.v (.int s.sd)) (s.next.ob :: r) := ix_r0 (atI_2 _ _ _ _)
  have gs : oSet (.int ((s.at' : Int) + 1)) (.v (.ref 0)) (.v (.int 1)) (s.ob :: r) = .ok () (s.next.ob :: r) := rfl
  have hlen : (s.row.map FV.int).length = s.row.length := List.length_map _
  have go : ∀ i : Nat, toF (takeN (.ref 0) (.int k)) (s.ob :: r) = .ok (.v (.int i)) (s.next.ob :: r) → gcM (toF (takeN (.ref 0) (.int k))) (s.ob :: r) = .ok (.v (.int i)) (s.next.ob :: r) := fun i e => gcM_same e (Nat.le_refl _)
  have qk : ∀ i : Int, oB gMod (.v (.int i)) (.v (.int k)) = pur (.v (.int (i % k))) := fun i => mod_ii (by omega)
  by_cases hl : s.at' < s.row.length
  · have hat : atI (s.row.map FV.int) (s.at' : Nat) = some (.int s.row[s.at']) := atI_nat (by rw [List.getElem?_map, List.getElem?_eq_getElem hl]; rfl)
    obtain ⟨i, h1, h2⟩ := key s.row[s.at']
    refine ⟨i, h1, go i ?_⟩
    have hl' : decide (((s.at' : Nat) : Int) < (s.row.length : Nat)) = true := decide_eq_true (by omega)
    unfold takeN
    simp only [mV, bnd_h, g0, g1, ok_bind, vF, RV.frz, add_ii, pur_h, gs, len_f, hlen, lt_ii, hl', if_true, ix_f hat, int_i, qk, h2, ret, toF]
  · have hl' : decide (((s.at' : Nat) : Int) < (s.row.length : Nat)) = false := decide_eq_false (by omega)
    have m1 := fun i => mulL i (j := 40503) (by decide)
    have m2 := fun i => mulL i (j := 48271) (by decide)
    have m3 := fun i => mulL i (j := 69621) (by decide)
    have m4 : oB gMul (.v (.int s.at')) (.v (.int s.at')) = pur (.v (.int ((s.at' : Int) * s.at'))) := mul_ii (.inl ⟨by omega, by omega⟩)
    have d11 := fun i => divL i (j := 11) (by decide)
    have q1 : ∀ i : Int, oB gMod (.v (.int i)) (.v (.int 2147483647)) = pur (.v (.int (i % 2147483647))) := fun i => mod_ii (by decide)
    have q2 : ∀ i : Int, oB gMod (.v (.int i)) (.v (.int 2147483629)) = pur (.v (.int (i % 2147483629))) := fun i => mod_ii (by decide)
    obtain ⟨i, h1, h2⟩ := key (((((s.sd + s.at' * 40503) * 48271) % 2147483647) * 69621 + s.at' * s.at') % 2147483629 / 11)
    refine ⟨i, h1, go i ?_⟩
    unfold takeN
    simp only [mV, bnd_h, g0, g1, g2, ok_bind, vF, RV.frz, add_ii, pur_h, gs, len_f, hlen, lt_ii, hl', Bool.false_eq_true, if_false, int_i, qk, q1, q2, m1, m2, m3, m4, d11, h2, ret, toF]
end P
/-! R4: what is drawn. -/
namespace P
open PySem PySem.Spec PyProof.Rows L2 G
/-- objects that name no others -/
def Dt (r : FH) : Prop := r.all (·.lowB 0) = true
/-- m draws at most c numbers, changes nothing else, and gives what Q says -/
def Dr {α : Type} (m : M α) (Q : α → Prop) (c : Nat) : Prop := ∀ (s : DS) (r : FH), Dt r → s.at' + c ≤ 2 ^ 60 → ∃ (a : α) (s' : DS), m (s.ob :: r) = .ok a (s'.ob :: r) ∧ s'.at' ≤ s.at' + c ∧ Q a
section
variable {α β γ : Type} {m : M α} {k : α → M β} {Z Q : α → Prop} {R : β → Prop} {c d e : Nat}
theorem Dr.pur {a : α} (h : Q a) : Dr (P.pur a) Q 0 := fun s r _ _ => ⟨a, s, rfl, Nat.le_refl _, h⟩
theorem Dr.of {a : α} (e : m = P.pur a) (h : Q a) : Dr m Q 0 := e ▸ Dr.pur h
theorem Dr.mono (h : Dr m Z c) (l : c ≤ d) (k : ∀ a, Z a → Q a) : Dr m Q d := fun s r dr hs => by
  obtain ⟨a, s', e, h1, h2⟩ := h s r dr (by omega)
  exact ⟨a, s', e, by omega, k a h2⟩
theorem Dr.up (h : Dr m Q c) (l : c ≤ d) : Dr m Q d := h.mono l fun _ q => q
theorem Dr.bnd (h : Dr m Z c) (k' : ∀ a, Z a → Dr (k a) R d) (l : c + d ≤ e) : Dr (P.bnd m k) R e := fun s r dr hs => by
  obtain ⟨a, s1, e1, h1, h2⟩ := h s r dr (by omega)
  obtain ⟨b, s2, e2, h3, h4⟩ := k' a h2 s1 r dr (by omega)
  exact ⟨b, s2, by rw [bnd_ok e1]; exact e2, by omega, h4⟩
theorem Dr.ite {p : Prop} [Decidable p] {n : M α} (h1 : p → Dr m Q c) (h2 : ¬ p → Dr n Q c) : Dr (if p then m else n) Q c := by
  split
  · exact h1 ‹_›
  · exact h2 ‹_›
end
theorem Dr.mV {m : M RV} {Q : RV → Prop} {Z : FV → Prop} {c : Nat} (h : Dr m Q c) (k : ∀ r, Q r → ∃ d, r.frz = some d ∧ Z d) : Dr (mV m) Z c := fun s r dr hs => by
  obtain ⟨a, s', e, h1, h2⟩ := h s r dr hs
  obtain ⟨d, e2, h3⟩ := k a h2
  refine ⟨d, s', ?_, h1, h3⟩
  show vF (m _) = _
  rw [e]; unfold vF; dsimp only; rw [e2]
theorem Dr.gc {m : M RV} {Q : RV → Prop} {c : Nat} (h : Dr m Q c) : Dr (gcM m) Q c := fun s r dr hs => by
  obtain ⟨a, s', e, h1, h2⟩ := h s r dr hs
  exact ⟨a, s', gcM_same e (Nat.le_refl _), h1, h2⟩
theorem Dr.ret {m : M RV} {Q : RV → Prop} {Z : Fl Unit Empty → Prop} {c : Nat} (h : Dr m Q c) (k : ∀ r, Q r → Z (.rt r)) : Dr (ret m) Z c := Dr.bnd h (d := 0) (fun a q => Dr.pur (k a q)) (Nat.le_refl _)
/-- a block, then what follows -/
theorem Dr.seq {α γ : Type} {m : M (Fl α Empty)} {k : α → M (Fl γ Empty)} {Z : α → Prop} {R : Fl γ Empty → Prop} {c d e : Nat} (h : Dr m (fun f => ∃ a, f = .nx a ∧ Z a) c) (k' : ∀ a, Z a → Dr (k a) R d) (l : c + d ≤ e) : Dr (seqN m k) R e :=
  Dr.bnd h (fun f ⟨a, e, z⟩ => by subst e; exact k' a z) l
theorem Dr.nx {α β : Type} {m : M (Fl α β)} {a : α} {Z : α → Prop} (e : m = P.pur (.nx a)) (h : Z a) : Dr m (fun f => ∃ a, f = .nx a ∧ Z a) 0 := Dr.of e ⟨a, rfl, h⟩
/-- the result of a def's body -/
def RtQ (Q : RV → Prop) : Fl Unit Empty → Prop
  | .rt r => Q r
  | .nx _ => Q (.v .non)
  | .bk b => nomatch b
  | .ct b => nomatch b
theorem Dr.toF {m : M (Fl Unit Empty)} {Q : RV → Prop} {c : Nat} (h : Dr m (RtQ Q) c) : Dr (toF m) Q c := by
  refine Dr.bnd h (d := 0) (fun a q => ?_) (Nat.le_refl _)
  cases a with
  | nx u => exact Dr.pur q
  | rt r => exact Dr.pur q
  | bk b => cases b
  | ct b => cases b
/-- a def that draws -/
theorem Dr.fn {m : M (Fl Unit Empty)} {Q : RV → Prop} {c : Nat} (h : Dr m (RtQ Q) c) : Dr (gcM (P.toF m)) Q c := h.toF.gc
theorem Dr.take {m : M RV} {k : Nat} (e : m = gcM (P.toF (takeN (.ref 0) (.int k)))) (hk : 0 < k) : Dr m (fun r => ∃ i : Nat, i < k ∧ r = .v (.int i)) 1 := fun s r dr hs => by
  obtain ⟨i, h1, h2⟩ := take_ok s r k hk (by omega)
  exact ⟨_, _, by rw [e]; exact h2, Nat.le_refl _, i, h1, rfl⟩
/-- .. a comprehension -/
theorem Dr.filN {g : FV → M (Option FV)} {Z : FV → Prop} {Q : FV → Prop} {c : Nat} (hg : ∀ d, Z d → Dr (g d) (fun o => ∃ v, o = some v ∧ Q v) c) : ∀ ds : List FV, (∀ d, d ∈ ds → Z d) → Dr (P.filN g ds) (fun vs => vs.length = ds.length ∧ ∀ v, v ∈ vs → Q v) (ds.length * c)
  | [], _ => (Dr.pur ⟨rfl, fun v h => by cases h⟩).up (Nat.zero_le _)
  | d :: ds, hp => by
    have ex : Dr (noEx (g d)) (fun o => ∃ v, o = some v ∧ Q v) c := fun s r dr hs => by
      obtain ⟨a, s', e, h1, h2⟩ := hg d (hp d List.mem_cons_self) s r dr hs
      exact ⟨a, s', by unfold noEx; rw [e], h1, h2⟩
    refine Dr.bnd (d := ds.length * c) ex (fun o q => ?_) (by rw [List.length_cons, Nat.succ_mul]; omega)
    obtain ⟨v, rfl, hv⟩ := q
    refine Dr.bnd (d := 0) (Dr.filN hg ds fun d hd => hp d (List.mem_cons_of_mem _ hd)) (fun vs q => Dr.pur ⟨?_, fun w hw => ?_⟩) (Nat.le_refl _)
    · exact congrArg (· + 1) q.1
    · rcases List.mem_cons.mp hw with rfl | hw
      · exact hv
      · exact q.2 w hw
end P
/-! RT: terms. -/
namespace P
open PySem PySem.Spec PyProof.Rows L2 G
inductive Tm where
  | var (x : Str) | app (f : Str) (ts : List Tm)
mutual
def Tm.beq : Tm → Tm → Bool
  | .var x, .var y => decide (x = y)
  | .app f ts, .app g us => decide (f = g) && Tm.beqs ts us
  | _, _ => false
def Tm.beqs : List Tm → List Tm → Bool
  | [], [] => true
  | t :: ts, u :: us => t.beq u && Tm.beqs ts us
  | _, _ => false
end
mutual
theorem Tm.beq_iff : ∀ {t u : Tm}, t.beq u = true ↔ t = u
  | .var x, .var y => by simp [Tm.beq]
  | .app f ts, .app g us => by simp [Tm.beq, Tm.beqs_iff (ts := ts) (us := us)]
  | .var x, .app g us => by simp [Tm.beq]
  | .app f ts, .var y => by simp [Tm.beq]
theorem Tm.beqs_iff : ∀ {ts us : List Tm}, Tm.beqs ts us = true ↔ ts = us
  | [], [] => by simp [Tm.beqs]
  | t :: ts, u :: us => by simp [Tm.beqs, Tm.beq_iff (t := t) (u := u), Tm.beqs_iff (ts := ts) (us := us)]
  | [], u :: us => by simp [Tm.beqs]
  | t :: ts, [] => by simp [Tm.beqs]
end
instance : DecidableEq Tm := fun t u => if h : t.beq u = true then isTrue (Tm.beq_iff.mp h) else isFalse fun e => h (Tm.beq_iff.mpr e)
theorem Tm.beq_dec (t u : Tm) : t.beq u = decide (t = u) := by
  by_cases h : t = u
  · rw [decide_eq_true h, Tm.beq_iff.mpr h]
  · rw [decide_eq_false h]
    cases q : t.beq u with
    | false => rfl
    | true => exact absurd (Tm.beq_iff.mp q) h
mutual
def Tm.fv : Tm → FV
  | .var x => .str x
  | .app f ts => .tup (.str f :: Tm.fvs ts)
def Tm.fvs : List Tm → List FV
  | [] => []
  | t :: ts => t.fv :: Tm.fvs ts
end
@[simp] theorem fv_var (x : Str) : (Tm.var x).fv = .str x := by simp [Tm.fv]
@[simp] theorem fv_app (f : Str) (ts : List Tm) : (Tm.app f ts).fv = .tup (.str f :: Tm.fvs ts) := by simp [Tm.fv]
@[simp] theorem fvs_nil : Tm.fvs [] = [] := by simp [Tm.fvs]
@[simp] theorem fvs_cons (t : Tm) (ts : List Tm) : Tm.fvs (t :: ts) = t.fv :: Tm.fvs ts := by simp [Tm.fvs]
theorem fvs_map : ∀ ts : List Tm, Tm.fvs ts = ts.map Tm.fv
  | [] => by simp
  | t :: ts => by simp [fvs_map ts]
@[simp] theorem fvs_len (ts : List Tm) : (Tm.fvs ts).length = ts.length := by rw [fvs_map, List.length_map]
mutual
def Tm.dep : Tm → Nat
  | .var _ => 0
  | .app _ ts => Tm.deps ts + 1
def Tm.deps : List Tm → Nat
  | [] => 0
  | t :: ts => max t.dep (Tm.deps ts)
end
@[simp] theorem dep_var (x : Str) : (Tm.var x).dep = 0 := by simp [Tm.dep]
@[simp] theorem dep_app (f : Str) (ts : List Tm) : (Tm.app f ts).dep = Tm.deps ts + 1 := by simp [Tm.dep]
@[simp] theorem deps_nil : Tm.deps [] = 0 := by simp [Tm.deps]
@[simp] theorem deps_cons (t : Tm) (ts : List Tm) : Tm.deps (t :: ts) = max t.dep (Tm.deps ts) := by simp [Tm.deps]
theorem deps_mem : ∀ {ts : List Tm} {t : Tm}, t ∈ ts → t.dep ≤ Tm.deps ts
  | u :: ts, t, h => by
    rw [deps_cons]
    rcases List.mem_cons.mp h with rfl | h
    · omega
    · have := deps_mem h; omega
mutual
theorem fv_pure : ∀ t : Tm, t.fv.pure = true
  | .var x => by simp [FV.pure]
  | .app f ts => by simp [FV.pure, FV.pures, fvs_pure ts]
theorem fvs_pure : ∀ ts : List Tm, FV.pures (Tm.fvs ts) = true
  | [] => by simp [FV.pures]
  | t :: ts => by simp [FV.pures, fv_pure t, fvs_pure ts]
end
mutual
theorem fv_depth : ∀ t : Tm, t.fv.py.depth = t.dep
  | .var x => by simp [FV.py, PyData.depth]
  | .app f ts => by simp [FV.py, PyData.depth, FV.pys, PyData.depthAll, fvs_depth ts]
theorem fvs_depth : ∀ ts : List Tm, PyData.depthAll (FV.pys (Tm.fvs ts)) = Tm.deps ts
  | [] => by simp [FV.pys, PyData.depthAll]
  | t :: ts => by simp [FV.pys, PyData.depthAll, fv_depth t, fvs_depth ts]
end
theorem str_eqv (x y : Str) : PyData.eqv (.str x) (.str y) = decide (x = y) := by
  simp only [PyData.eqv]
  rfl
mutual
theorem fv_eqv : ∀ t u : Tm, PyData.eqv t.fv.py u.fv.py = t.beq u
  | .var x, .var y => by simp only [fv_var, FV.py, Tm.beq]; exact str_eqv x y
  | .app f ts, .app g us => by
    simp only [fv_app, FV.py, FV.pys, Tm.beq, PyData.eqv, PyData.eqvAll]
    rw [fvs_eqv ts us]
    congr 1
  | .var x, .app g us => by simp [FV.py, Tm.beq, PyData.eqv]
  | .app f ts, .var y => by simp [FV.py, Tm.beq, PyData.eqv]
theorem fvs_eqv : ∀ ts us : List Tm, PyData.eqvAll (FV.pys (Tm.fvs ts)) (FV.pys (Tm.fvs us)) = Tm.beqs ts us
  | [], [] => by simp [FV.pys, Tm.beqs, PyData.eqvAll]
  | t :: ts, u :: us => by simp only [fvs_cons, FV.pys, Tm.beqs, PyData.eqvAll, fv_eqv t u, fvs_eqv ts us]
  | [], u :: us => by simp [FV.pys, Tm.beqs, PyData.eqvAll]
  | t :: ts, [] => by simp [FV.pys, Tm.beqs, PyData.eqvAll]
end
/-- terms compared -/
theorem q_tt {neg : Bool} {t u : Tm} (h : min t.dep u.dep ≤ 64) : oC (gQ neg) (.v t.fv) (.v u.fv) = pur (if neg = true then !decide (t = u) else decide (t = u)) := by
  rw [q_vv (fv_pure t) (fv_pure u) (by rw [fv_depth, fv_depth]; exact h), fv_eqv, Tm.beq_dec]
/-! names -/
def capB (f : Str) : Bool := !decide ((cutS f none (some 1)).cps.toList < ("A" : Str).cps.toList) && !decide (("Z" : Str).cps.toList < (cutS f none (some 1)).cps.toList)
mutual
/-- a plain term: small heads -/
def Tm.plain : Tm → Bool
  | .var _ => true
  | .app f ts => decide (0 < f.length) && !capB f && Tm.plains ts
def Tm.plains : List Tm → Bool
  | [] => true
  | t :: ts => t.plain && Tm.plains ts
end
mutual
/-- short names -/
def Tm.short : Tm → Prop
  | .var x => x.length ≤ 1000
  | .app f ts => f.length ≤ 1000 ∧ Tm.shorts ts
def Tm.shorts : List Tm → Prop
  | [] => True
  | t :: ts => t.short ∧ Tm.shorts ts
end
@[simp] theorem plain_var (x : Str) : (Tm.var x).plain = true := by simp [Tm.plain]
@[simp] theorem plain_app (f : Str) (ts : List Tm) : (Tm.app f ts).plain = (decide (0 < f.length) && !capB f && Tm.plains ts) := by simp [Tm.plain]
@[simp] theorem plains_nil : Tm.plains [] = true := by simp [Tm.plains]
@[simp] theorem plains_cons (t : Tm) (ts : List Tm) : Tm.plains (t :: ts) = (t.plain && Tm.plains ts) := by simp [Tm.plains]
@[simp] theorem short_var (x : Str) : (Tm.var x).short ↔ x.length ≤ 1000 := by simp [Tm.short]
@[simp] theorem short_app (f : Str) (ts : List Tm) : (Tm.app f ts).short ↔ f.length ≤ 1000 ∧ Tm.shorts ts := by simp [Tm.short]
@[simp] theorem shorts_nil : Tm.shorts [] ↔ True := by simp [Tm.shorts]
@[simp] theorem shorts_cons (t : Tm) (ts : List Tm) : Tm.shorts (t :: ts) ↔ t.short ∧ Tm.shorts ts := by simp [Tm.shorts]
end P
/-! R5: objects with numbers; dicts from texts to terms. -/
namespace P
open PySem PySem.Spec PyProof.Rows L2 G
/-! ### dicts from texts to terms -/
abbrev Sb := List (Str × Tm)
def lookA {α : Type} (σ : List (Str × α)) (x : Str) : Option α := (σ.find? fun p => decide (p.1 = x)).map (·.2)
def putA {α : Type} (σ : List (Str × α)) (x : Str) (t : α) : List (Str × α) := if (σ.any fun p => decide (p.1 = x)) = true then σ.map (fun p => if p.1 = x then (p.1, t) else p) else σ ++ [(x, t)]
def keyS (x : Str) : Key := .inr x
def embA {α : Type} (e : α → FV) (σ : List (Str × α)) : List (Key × FV) := σ.map fun p => (keyS p.1, e p.2)
section
variable {α : Type} {e : α → FV}
theorem inr_iff (x y : Str) : ((keyS x : Key) = keyS y) ↔ x = y := ⟨fun h => Sum.inr.inj h, fun h => h ▸ rfl⟩
theorem look_emb (x : Str) : ∀ σ : List (Str × α), lookK (embA e σ) (keyS x) = (lookA σ x).map e
  | [] => rfl
  | p :: σ => by
    have ih := look_emb x σ
    unfold lookK lookA embA at *
    rw [List.map_cons, List.find?_cons, List.find?_cons]
    by_cases h : p.1 = x
    · rw [show decide (keyS p.1 = keyS x) = true from decide_eq_true ((inr_iff _ _).mpr h), show decide (p.1 = x) = true from decide_eq_true h]; rfl
    · rw [show decide (keyS p.1 = keyS x) = false from decide_eq_false (fun z => h ((inr_iff _ _).mp z)), show decide (p.1 = x) = false from decide_eq_false h]; exact ih
theorem any_emb (x : Str) : ∀ σ : List (Str × α), ((embA e σ).any fun kv => decide (kv.1 = keyS x)) = σ.any fun p => decide (p.1 = x)
  | [] => rfl
  | p :: σ => by
    show ((_ :: embA e σ).any _) = _
    rw [List.any_cons, List.any_cons, any_emb x σ]
    congr 1
    exact decide_eq_decide.mpr (inr_iff _ _)
theorem put_emb (x : Str) (t : α) (σ : List (Str × α)) : putF (embA e σ) (keyS x) (e t) = embA e (putA σ x t) := by
  unfold putF putA
  rw [any_emb]
  by_cases h : (σ.any fun p => decide (p.1 = x)) = true
  · rw [if_pos h, if_pos h]
    clear h
    induction σ with
    | nil => rfl
    | cons p σ ih =>
      show ((_ :: embA e σ).map _) = _ :: embA e _
      rw [List.map_cons, ih]
      congr 1
      dsimp only
      by_cases h : p.1 = x
      · rw [if_pos h, if_pos (by rw [h])]
      · rw [if_neg h, if_neg (fun z => h ((inr_iff _ _).mp z))]
  · rw [if_neg h, if_neg h]
    unfold embA
    rw [List.map_append]; rfl
theorem look_any {σ : List (Str × α)} {x : Str} : (σ.any fun p => decide (p.1 = x)) = (lookA σ x).isSome := by
  induction σ with
  | nil => rfl
  | cons p σ ih =>
    unfold lookA at *
    rw [List.any_cons, List.find?_cons]
    by_cases h : p.1 = x
    · rw [decide_eq_true h]; rfl
    · rw [decide_eq_false h, Bool.false_or, ih]
theorem put_new {σ : List (Str × α)} {x : Str} {t : α} (h : lookA σ x = none) : putA σ x t = σ ++ [(x, t)] := by
  unfold putA
  rw [look_any, h, if_neg (show ¬ (none : Option α).isSome = true from fun z => nomatch z)]
end
/-! ### behind calls -/
def LowH (h : FH) : Prop := h.all (·.lowB h.length) = true
theorem take_app {h x : FH} : (h ++ x).take h.length = h := by simp
theorem gc_val {m : M RV} {h x : FH} {d : FV} (e : m h = .ok (.v d) (h ++ x)) (lo : LowH h) (hd : d.lowB h.length = true) (nr : ∀ i, d ≠ .ref i) : gcM m h = .ok (.v d) h := by
  cases x with
  | nil => rw [List.append_nil] at e; exact gcM_same e (Nat.le_refl _)
  | cons o x =>
    have := gcM_cut (r' := .v d) e (by simp) (by rw [take_app]; exact lo) (by
      unfold RV.cut
      cases d with
      | ref i => exact absurd rfl (nr i)
      | _ => exact if_pos hd)
    rw [take_app] at this; exact this
mutual
theorem low_mono {n m : Nat} (l : n ≤ m) : ∀ d : FV, d.lowB n = true → d.lowB m = true
  | .ref i, h => by simp only [FV.lowB, decide_eq_true_eq] at h ⊢; omega
  | .tup xs, h => by simp only [FV.lowB] at h ⊢; exact lows_mono l xs h
  | .fl xs, h => by simp only [FV.lowB] at h ⊢; exact lows_mono l xs h
  | .sl xs, h => by simp only [FV.lowB] at h ⊢; exact lows_mono l xs h
  | .fd _ xs, h => by simp only [FV.lowB] at h ⊢; exact lows_mono l xs h
  | .ft _ xs, h => by simp only [FV.lowB] at h ⊢; exact lows_mono l xs h
  | .fo _ _ xs, h => by simp only [FV.lowB] at h ⊢; exact lows_mono l xs h
  | .non, _ => by simp [FV.lowB]
  | .bl _, _ => by simp [FV.lowB]
  | .int _, _ => by simp [FV.lowB]
  | .str _, _ => by simp [FV.lowB]
theorem lows_mono {n m : Nat} (l : n ≤ m) : ∀ ds : List FV, FV.lowsB n ds = true → FV.lowsB m ds = true
  | [], _ => by simp [FV.lowsB]
  | d :: ds, h => by
    simp only [FV.lowsB, Bool.and_eq_true] at h ⊢
    exact ⟨low_mono l d h.1, lows_mono l ds h.2⟩
end
theorem lowO_mono {n m : Nat} (l : n ≤ m) (o : FO) (h : o.lowB n = true) : o.lowB m = true := by
  cases o <;> exact lows_mono l _ h
theorem LowH.app {h x : FH} (a : LowH h) (b : x.all (·.lowB (h.length + x.length)) = true) : LowH (h ++ x) := by
  unfold LowH at *
  rw [List.all_append, List.length_append, b, Bool.and_true, List.all_eq_true]
  intro o ho
  exact lowO_mono (Nat.le_add_right _ _) o (List.all_eq_true.mp a o ho)
theorem ints_low (n : Nat) : ∀ l : List Int, FV.lowsB n (l.map FV.int) = true
  | [] => by simp [FV.lowsB]
  | i :: l => by simp [FV.lowsB, FV.lowB, ints_low n l]
theorem ob_low (s : DS) (n : Nat) : s.ob.lowB n = true := by
  unfold DS.ob FO.lowB
  simp [FV.lowsB, FV.lowB, ints_low]
theorem LowH.ob (s : DS) : LowH [s.ob] := by
  unfold LowH
  simp [ob_low]
theorem Dt.low {s : DS} {r : FH} (h : Dt r) : LowH (s.ob :: r) := by
  unfold LowH
  rw [List.all_cons, ob_low, Bool.true_and, List.all_eq_true]
  intro o ho
  exact lowO_mono (Nat.zero_le _) o (List.all_eq_true.mp h o ho)
/-- what draws nothing -/
theorem Dr.low {α : Type} {m : M α} {Q : α → Prop} {a : α} (e : ∀ h, LowH h → m h = .ok a h) (q : Q a) : Dr m Q 0 := fun s r dr _ => ⟨a, s, e _ dr.low, Nat.le_refl _, q⟩
end P
/-! R6: dicts compared. -/
namespace P
open PySem PySem.Spec PyProof.Rows L2 G
def dvs (σ : Sb) : DV := .d (σ.map fun p => (keyS p.1, .p p.2.fv.py))
/-! lists of dicts -/
/-! a list of dicts with numbers, behind its call -/
end P
/-! R7: sorted by text; lists without repeats; data compared. -/
namespace P
open PySem PySem.Spec PyProof.Rows L2 G
section
variable {α : Type} (k : α → Str)
/-- in the order of texts -/
def leS (a b : α) : Bool := PySem.W.dataLe false (fun x => .str (k x)) a b
theorem leS_tot : PySem.W.TotalLe (leS k) :=
  ⟨fun a b c h1 h2 => (PySem.W.sortLe_total (PyProof.Rows.listOrd PyProof.Rows.itemOrd) false fun x => PySem.W.keyToks (.str (k x))).trans a b c h1 h2, fun a b => (PySem.W.sortLe_total (PyProof.Rows.listOrd PyProof.Rows.itemOrd) false fun x => PySem.W.keyToks (.str (k x))).total a b⟩
theorem str_ext {x y : Str} (h : x.cps.toList = y.cps.toList) : x = y := by
  cases x; cases y
  have := Array.toList_inj.mp h
  cases this; rfl
theorem leS_anti {a b : α} (h1 : leS k a b = true) (h2 : leS k b a = true) : k a = k b := by
  have e : PySem.W.keyToks (.str (k a)) = PySem.W.keyToks (.str (k b)) := (PyProof.Rows.listOrd PyProof.Rows.itemOrd).total _ _ (by
    have : (!(PyProof.Rows.listOrd PyProof.Rows.itemOrd).blt (PySem.W.keyToks (.str (k a))) (PySem.W.keyToks (.str (k b)))) = true := h2
    simpa using this) (by
    have : (!(PyProof.Rows.listOrd PyProof.Rows.itemOrd).blt (PySem.W.keyToks (.str (k b))) (PySem.W.keyToks (.str (k a)))) = true := h1
    simpa using this)
  simp only [PySem.W.keyToks, List.cons.injEq, Sum.inr.injEq, and_true] at e
  exact str_ext e
def srt (xs : List α) : List α := xs.mergeSort (leS k)
theorem mem_srt {xs : List α} {a : α} : a ∈ srt k xs ↔ a ∈ xs := (List.mergeSort_perm xs _).mem_iff
theorem len_srt (xs : List α) : (srt k xs).length = xs.length := List.length_mergeSort _
theorem srt_pw (xs : List α) : (srt k xs).Pairwise (fun a b => leS k a b = true) := PySem.W.sort_pairwise (leS_tot k) xs
theorem srt_nodup {xs : List α} (h : xs.Nodup) : (srt k xs).Nodup := (List.mergeSort_perm xs _).nodup_iff.mpr h
variable [DecidableEq α]
def addD (acc : List α) (x : α) : List α := if x ∈ acc then acc else acc ++ [x]
/-- each once, where it stood first -/
def dd (xs : List α) : List α := xs.foldl addD []
theorem dd_loop : ∀ (xs acc : List α), ∃ ys, xs.foldl addD acc = acc ++ ys ∧ ys.Sublist xs
  | [], acc => ⟨[], by simp, .slnil⟩
  | x :: xs, acc => by
    rw [List.foldl_cons]
    by_cases h : x ∈ acc
    · rw [show addD acc x = acc from if_pos h]
      obtain ⟨ys, h1, h2⟩ := dd_loop xs acc
      exact ⟨ys, h1, .cons x h2⟩
    · rw [show addD acc x = acc ++ [x] from if_neg h]
      obtain ⟨ys, h1, h2⟩ := dd_loop xs (acc ++ [x])
      exact ⟨x :: ys, by rw [h1]; simp, .cons₂ x h2⟩
theorem dd_sub (xs : List α) : (dd xs).Sublist xs := by
  obtain ⟨ys, h1, h2⟩ := dd_loop xs []
  unfold dd; rw [h1]; simpa using h2
theorem mem_fold : ∀ (xs acc : List α) (a : α), a ∈ xs.foldl addD acc ↔ a ∈ acc ∨ a ∈ xs
  | [], acc, a => by simp
  | x :: xs, acc, a => by
    rw [List.foldl_cons, mem_fold xs]
    unfold addD
    split
    · constructor
      · rintro (h | h)
        · exact .inl h
        · exact .inr (List.mem_cons_of_mem _ h)
      · rintro (h | h)
        · exact .inl h
        · rcases List.mem_cons.mp h with rfl | h
          · exact .inl ‹_›
          · exact .inr h
    · simp [or_assoc]
theorem mem_dd {xs : List α} {a : α} : a ∈ dd xs ↔ a ∈ xs := by unfold dd; rw [mem_fold]; simp
theorem fold_nodup : ∀ (xs acc : List α), acc.Nodup → (xs.foldl addD acc).Nodup
  | [], acc, h => h
  | x :: xs, acc, h => by
    rw [List.foldl_cons]
    refine fold_nodup xs _ ?_
    unfold addD
    split
    · exact h
    · rw [List.nodup_append]
      exact ⟨h, by simp, fun a ha b hb e => by simp at hb; subst hb; subst e; exact absurd ha ‹_›⟩
theorem dd_nodup (xs : List α) : (dd xs).Nodup := fold_nodup xs [] List.nodup_nil
theorem fold_snoc (xs acc : List α) (x : α) : (xs ++ [x]).foldl addD acc = addD (xs.foldl addD acc) x := by rw [List.foldl_append]; rfl
/-- sorted without repeats: one list, if the texts tell apart -/
theorem srt_dd {xs ys : List α} (hm : ∀ a, a ∈ xs ↔ a ∈ ys) (inj : ∀ a b, a ∈ xs → b ∈ xs → k a = k b → a = b) : dd (srt k xs) = srt k (dd ys) := by
  refine List.Perm.eq_of_pairwise (le := fun a b => leS k a b = true) (fun a b ha hb h1 h2 => ?_) ((srt_pw k xs).sublist (dd_sub _)) (srt_pw k _) ?_
  · exact inj a b ((mem_srt k).mp (mem_dd.mp ha)) ((hm b).mpr (mem_dd.mp ((mem_srt k).mp hb))) (leS_anti k h1 h2)
  · refine (List.perm_ext_iff_of_nodup (dd_nodup _) (srt_nodup k (dd_nodup ys))).mpr fun a => ?_
    rw [mem_dd, mem_srt, mem_srt, mem_dd]; exact hm a
end
theorem al_strs {α : Type} (xs : List α) (f : α → PyData) (k : α → Str) (h : ∀ a, a ∈ xs → f a = .str (k a)) : PySem.W.AllAlike (xs.map f) := fun d hd d' hd' => by
  obtain ⟨a, ha, rfl⟩ := List.mem_map.mp hd
  obtain ⟨b, hb, rfl⟩ := List.mem_map.mp hd'
  rw [h a ha, h b hb]; simp [PySem.W.alike]
theorem sortK_ok {α : Type} {g : FV → M RV} {e : α → FV} {k : α → Str} {xs : List α} {x : RV} {b : Bool} (hx : ∀ h, x.seq h = some (b, xs.map e)) (hk : ∀ a, a ∈ xs → g (e a) = pur (.v (.str (k a)))) : oSortK g x = pur (.l ((srt k xs).map e)) := by
  funext h
  have ka : ∀ a, a ∈ xs → keyAt g h (e a) = .str (k a) := fun a ha => by
    unfold keyAt
    rw [hk a ha]; rfl
  unfold oSortK
  rw [hx h]
  dsimp only
  have c1 : ∀ d, d ∈ xs.map e → ∃ kx, g d h = .ok (.v kx) h ∧ scal kx = true := fun d hd => by
    obtain ⟨a, ha, rfl⟩ := List.mem_map.mp hd
    exact ⟨.str (k a), by rw [hk a ha]; rfl, rfl⟩
  have c2 : PySem.W.AllAlike ((xs.map e).map (keyAt g h)) := by
    rw [List.map_map]
    exact al_strs xs _ k fun a ha => ka a ha
  rw [if_pos ⟨c1, c2⟩]
  show Rs.ok _ h = Rs.ok _ h
  unfold srt
  rw [List.map_mergeSort (s := PySem.W.dataLe false (keyAt g h)) fun a ha b hb => ?_]
  unfold leS PySem.W.dataLe PySem.W.sortLe
  simp only [ka a ha, ka b hb]
/-! data -/
def memD {α : Type} [DecidableEq α] (a : α) (xs : List α) : Bool := decide (a ∈ xs)
/-- things as data -/
structure Enc {α : Type} [DecidableEq α] (e : α → FV) (A : α → Prop) : Prop where
  pu : ∀ a, (e a).pure = true
  dp : ∀ a, A a → (e a).py.depth ≤ 60
  eq : ∀ a b, PyData.eqv (e a).py (e b).py = decide (a = b)
section
variable {α : Type} [DecidableEq α] {e : α → FV} {A : α → Prop}
theorem Enc.pus (E : Enc e A) : ∀ xs : List α, FV.pures (xs.map e) = true
  | [] => rfl
  | x :: xs => by rw [List.map_cons, FV.pures, E.pu x, E.pus xs]; rfl
theorem Enc.dps (E : Enc e A) : ∀ xs : List α, (∀ a, a ∈ xs → A a) → PyData.depthAll (FV.pys (xs.map e)) ≤ 60
  | [], _ => by simp [FV.pys, PyData.depthAll]
  | x :: xs, h => by
    have h1 := E.dp x (h x List.mem_cons_self)
    have h2 := E.dps xs fun a ha => h a (List.mem_cons_of_mem _ ha)
    rw [List.map_cons, FV.pys, PyData.depthAll]; omega
theorem Enc.q (E : Enc e A) {neg : Bool} {a b : α} (ha : A a) : oC (gQ neg) (.v (e a)) (.v (e b)) = pur (if neg = true then !decide (a = b) else decide (a = b)) := by
  have := E.dp a ha
  rw [q_vv (E.pu a) (E.pu b) (by omega), E.eq]
theorem Enc.any (E : Enc e A) (a : α) : ∀ xs : List α, ((FV.pys (xs.map e)).any fun z => PyData.eqv z (e a).py) = decide (a ∈ xs)
  | [] => by simp [FV.pys]
  | x :: xs => by
    rw [List.map_cons, FV.pys, List.any_cons, E.any a xs, E.eq]
    by_cases h : x = a
    · subst h; simp
    · have : ¬ a = x := fun z => h z.symm
      simp [h, this]
theorem Enc.mx (E : Enc e A) {neg : Bool} {a : α} {xs : List α} {y : RV} {b : Bool} (ha : A a) (nr : ∀ z, e a ≠ .ref z) (hy : ∀ h, y.seq h = some (b, xs.map e)) : oC (gMx neg) (.v (e a)) y = pur (if neg = true then !memD a xs else memD a xs) := by
  unfold memD
  refine lift_ok fun h => ?_
  have dt : (RV.v (e a)).dat h = some (e a).py := by
    have p := E.pu a
    unfold RV.dat
    cases q : e a <;> rw [q] at p
    case ref z => exact absurd q (nr z)
    all_goals simp [p]
  have d := E.dp a ha
  have : gIn neg (.v (e a)) y h = some (if neg = true then !decide (a ∈ xs) else decide (a ∈ xs)) := by
    unfold gIn
    rw [hy h, dt]
    dsimp only
    rw [if_pos ⟨E.pus xs, by omega⟩, E.any a xs]
  show gMx neg _ _ h = _
  unfold gMx
  rw [this]
end
/-- the same data on both sides -/
theorem q_data {neg : Bool} {x y : RV} {d : PyData} (hx : ∀ h, x.dv h = some (.p d)) (hy : ∀ h, y.dv h = some (.p d)) (hd : d.depth ≤ 64) (hp : d.plain = true) : oC (gQ neg) x y = pur (!neg) := by
  refine lift_ok fun h => ?_
  show gQ neg x y h = _
  unfold gQ
  rw [hx h, hy h]
  dsimp only
  rw [eqX, if_pos (by omega)]
  show (some (PyData.eqv d d)).map _ = _
  rw [PySem.SeqAt.eqv_refl_plain d hp]
  cases neg <;> rfl
end P
/-! R8: a drawing run that changes the heap; texts by their signs; how many may be alike. -/
namespace P
open PySem PySem.Spec PyProof.Rows L2 G
/-! ### no more in a list without repeats than in one that has them all -/
/-! ### objects behind -/
/-! ### drawing with objects that change -/
def Dm {α : Type} (m : M α) (r : FH) (Q : α → FH → Prop) (c : Nat) : Prop := ∀ s : DS, s.at' + c ≤ 2 ^ 60 → ∃ (a : α) (s' : DS) (r' : FH), m (s.ob :: r) = .ok a (s'.ob :: r') ∧ s'.at' ≤ s.at' + c ∧ Q a r'
section
variable {α β γ : Type} {m : M α} {k : α → M β} {r r' : FH} {Z : α → FH → Prop} {Q : α → FH → Prop} {R : β → FH → Prop} {c d e : Nat}
theorem Dm.pur {a : α} (h : Q a r) : Dm (P.pur a) r Q 0 := fun s _ => ⟨a, s, r, rfl, Nat.le_refl _, h⟩
theorem Dm.of {a : α} (e : m = P.pur a) (h : Q a r) : Dm m r Q 0 := e ▸ Dm.pur h
theorem Dm.ok {a : α} (e : ∀ s : DS, m (s.ob :: r) = .ok a (s.ob :: r')) (h : Q a r') : Dm m r Q 0 := fun s _ => ⟨a, s, r', e s, Nat.le_refl _, h⟩
theorem Dm.mono (h : Dm m r Z c) (l : c ≤ d) (k : ∀ a r', Z a r' → Q a r') : Dm m r Q d := fun s hs => by
  obtain ⟨a, s', r', e, h1, h2⟩ := h s (by omega)
  exact ⟨a, s', r', e, by omega, k a r' h2⟩
theorem Dm.up (h : Dm m r Q c) (l : c ≤ d) : Dm m r Q d := h.mono l fun _ _ q => q
theorem Dm.bnd (h : Dm m r Z c) (k' : ∀ a r', Z a r' → Dm (k a) r' R d) (l : c + d ≤ e) : Dm (P.bnd m k) r R e := fun s hs => by
  obtain ⟨a, s1, r1, e1, h1, h2⟩ := h s (by omega)
  obtain ⟨b, s2, r2, e2, h3, h4⟩ := k' a r1 h2 s1 (by omega)
  exact ⟨b, s2, r2, by rw [bnd_ok e1]; exact e2, by omega, h4⟩
theorem Dm.dr {Q' : α → Prop} (h : Dr m Q' c) (hr : Dt r) : Dm m r (fun a r' => r' = r ∧ Q' a) c := fun s hs => by
  obtain ⟨a, s', e, h1, h2⟩ := h s r hr hs
  exact ⟨a, s', r, e, h1, rfl, h2⟩
end
theorem Dm.mV {m : M RV} {r : FH} {Q : RV → FH → Prop} {Z : FV → FH → Prop} {c : Nat} (h : Dm m r Q c) (k : ∀ a r', Q a r' → ∃ d, a.frz = some d ∧ Z d r') : Dm (P.mV m) r Z c := fun s hs => by
  obtain ⟨a, s', r', e, h1, h2⟩ := h s hs
  obtain ⟨d, e2, h3⟩ := k a r' h2
  refine ⟨d, s', r', ?_, h1, h3⟩
  show vF (m _) = _
  rw [e]; unfold vF; dsimp only; rw [e2]
theorem Dm.ret {m : M RV} {r : FH} {Q : RV → FH → Prop} {Z : Fl Unit Empty → FH → Prop} {c : Nat} (h : Dm m r Q c) (k : ∀ a r', Q a r' → Z (.rt a) r') : Dm (P.ret m) r Z c := Dm.bnd h (d := 0) (fun a r' q => Dm.pur (k a r' q)) (Nat.le_refl _)
theorem Dm.seq {α γ : Type} {m : M (Fl α Empty)} {k : α → M (Fl γ Empty)} {r : FH} {Z : α → FH → Prop} {R : Fl γ Empty → FH → Prop} {c d e : Nat} (h : Dm m r (fun f r' => ∃ a, f = .nx a ∧ Z a r') c) (k' : ∀ a r', Z a r' → Dm (k a) r' R d) (l : c + d ≤ e) : Dm (seqN m k) r R e :=
  Dm.bnd h (fun f r' ⟨a, e, z⟩ => by subst e; exact k' a r' z) l
/-- the result of a def's body -/
def RtM (Q : RV → FH → Prop) : Fl Unit Empty → FH → Prop
  | .rt r, h => Q r h
  | .nx _, h => Q (.v .non) h
  | .bk b, _ => nomatch b
  | .ct b, _ => nomatch b
theorem Dm.toF {m : M (Fl Unit Empty)} {r : FH} {Q : RV → FH → Prop} {c : Nat} (h : Dm m r (RtM Q) c) : Dm (P.toF m) r Q c := by
  refine Dm.bnd h (d := 0) (fun a r' q => ?_) (Nat.le_refl _)
  cases a with
  | nx u => exact Dm.pur q
  | rt r => exact Dm.pur q
  | bk b => cases b
  | ct b => cases b
/-- behind the def only its result is left -/
theorem Dm.fn {m : M (Fl Unit Empty)} {Q : RV → Prop} {c : Nat} (h : ∀ r, Dt r → Dm m r (RtM fun a r' => (∃ x, r' = r ++ x) ∧ (∀ n, a.cut (n + 1) [] = some a) ∧ (∀ i, a ≠ .v (.ref i)) ∧ Q a) c) : Dr (gcM (P.toF m)) Q c := fun s r dr hs => by
  obtain ⟨a, s', r', e, h1, ⟨x, ex⟩, h2, h3, h4⟩ := (h r dr).toF s hs
  subst ex
  refine ⟨a, s', ?_, h1, h4⟩
  cases x with
  | nil => rw [List.append_nil] at e; exact gcM_same e (Nat.le_refl _)
  | cons o x =>
    have hc : a.cut (s.ob :: r).length (s'.ob :: (r ++ o :: x)) = some a := by
      have h2' := h2 r.length
      rw [List.length_cons]
      cases a with
      | v d => cases d with
        | ref i => exact absurd rfl (h3 i)
        | _ => exact h2'
      | _ => exact h2'
    have tk : (s'.ob :: (r ++ o :: x)).take (s.ob :: r).length = s'.ob :: r := by
      rw [List.length_cons, List.take_succ_cons, take_app]
    have := gcM_cut (h := s.ob :: r) (r' := a) e (by simp) (by rw [tk]; exact (Dt.low (s := s') dr)) hc
    rw [tk] at this; exact this
end P
/-! R9: names. -/
namespace P
open PySem PySem.Spec PyProof.Rows L2 G
abbrev txF (x : Str) : FV := .str x
theorem encS : Enc txF (fun _ : Str => True) where
  pu a := rfl
  dp a _ := by simp [FV.py, PyData.depth]
  eq a b := str_eqv a b
/-- a text's signs -/
abbrev sgs (x : Str) : List Nat := x.cps.toList
theorem sgs_len (x : Str) : (sgs x).length = x.length := Array.length_toList
theorem sgs_app (x y : Str) : sgs (x ++ y) = sgs x ++ sgs y := Array.toList_append
theorem slen (a b : Str) : (a ++ b).length = a.length + b.length := Str.length_append a b
/-! ### letters and digits -/
def isSg (c : Nat) : Bool := (decide (97 ≤ c) && decide (c ≤ 122)) || (decide (65 ≤ c) && decide (c ≤ 90)) || (decide (48 ≤ c) && decide (c ≤ 57))
theorem sg_le {c : Nat} (h : isSg c = true) : c < 123 := by
  unfold isSg at h
  simp only [Bool.or_eq_true, Bool.and_eq_true, decide_eq_true_eq] at h
  omega
theorem sg_aln : ∀ c, c < 123 → isSg c = true → Unicode.isAlnum c = true := by decide +kernel
structure Nm (cap : Bool) (x : Str) : Prop where
  lo : 1 ≤ x.length
  hi : x.length ≤ 12
  sg : ∀ c, c ∈ sgs x → isSg c = true
  hd : ∃ c l, sgs x = c :: l ∧ if cap = true then 65 ≤ c ∧ c ≤ 90 else 97 ≤ c ∧ c ≤ 122
section
variable {cap : Bool} {x : Str}
theorem Nm.asc (h : Nm cap x) : Txt.isascii x = true := by
  unfold Txt.isascii
  rw [Array.all_eq_true']
  intro c hc
  have := sg_le (h.sg c (Array.mem_toList_iff.mpr hc))
  exact decide_eq_true (by omega)
theorem Nm.aln (h : Nm cap x) : Txt.isalnum x = true := by
  unfold Txt.isalnum
  rw [Bool.and_eq_true]
  refine ⟨decide_eq_true h.lo, ?_⟩
  rw [Array.all_eq_true']
  intro c hc
  have := h.sg c (Array.mem_toList_iff.mpr hc)
  exact sg_aln c (sg_le this) this
theorem Nm.no (h : Nm false x) (h' : Nm true x) : False := by
  obtain ⟨c, l, e, hc⟩ := h.hd
  obtain ⟨c', l', e', hc'⟩ := h'.hd
  rw [e] at e'
  cases e'
  rw [if_neg Bool.false_ne_true] at hc
  rw [if_pos rfl] at hc'
  omega
end
theorem lt1 (a b : Nat) : ([a] < [b] : Prop) ↔ a < b := by
  constructor
  · intro h
    cases h with
    | rel h => exact h
    | cons h => cases h
  · exact fun h => .rel h
/-! ### str(k) of small numbers -/
/-! ### x in a told list of texts -/
/-! ### the signs that are drawn from -/
end P
/-! R10: told and frozen instances, told dicts, signatures. -/
namespace P
open PySem PySem.Spec PyProof.Rows L2 G
/-! ### fields -/
/-! ### dicts from names to values -/
section
variable {α : Type} {e : α → FV} {σ : List (Str × α)} {h : FH} {r : Nat} {x : Str}
theorem lookA_none {x : Str} {σ : List (Str × α)} : lookA σ x = none ↔ x ∉ σ.map (·.1) := by
  constructor
  · intro h z
    obtain ⟨p, hp, e⟩ := List.mem_map.mp z
    have : (σ.any fun p => decide (p.1 = x)) = true := List.any_eq_true.mpr ⟨p, hp, decide_eq_true e⟩
    rw [look_any, h] at this; cases this
  · intro h
    cases q : lookA σ x with
    | none => rfl
    | some t =>
      have : (σ.any fun p => decide (p.1 = x)) = true := by rw [look_any, q]; rfl
      obtain ⟨p, hp, e⟩ := List.any_eq_true.mp this
      exact absurd (List.mem_map.mpr ⟨p, hp, of_decide_eq_true e⟩) h
end
/-! ### signatures -/
def iN (k : Nat) : FV := .int k
/-- well made -/
structure SgOk (F R : List (Str × Nat)) : Prop where
  fn : ∀ p, p ∈ F → Nm false p.1
  rn : ∀ p, p ∈ R → Nm true p.1
  fr : ∀ p, p ∈ F → p.1 ∉ (["all", "some", "not", "and", "or", "implies", "iff", "true", "false"] : List Str)
  ar : ∀ p, p ∈ F ++ R → p.2 ≤ 3
  nd : ((F ++ R).map (·.1)).Nodup
  ln : (F ++ R).length ≤ 1000
/-! freezing deeply -/
/-! told lists -/
/-- the heap with the drawing state and one told list behind the rest -/
def hT (s : DS) (r : FH) (ds : List FV) : FH := s.ob :: (r ++ [.lst ds])
def resS : List Str := ["all", "some", "not", "and", "or", "implies", "iff", "true", "false"]
/-! ### tables -/
inductive Tb
  | f (ks : List Nat) | r (bs : List Bool)
def tbF : Tb → List FV
  | .f ks => ks.map iN
  | .r bs => bs.map .bl
def TOk : Bool → Nat → Nat → Tb → Prop
  | false, s, l, .f ks => ks.length = l ∧ ∀ k, k ∈ ks → k < s
  | true, _, l, .r bs => bs.length = l
  | _, _, _, _ => False
theorem TOk.len {cap : Bool} {s l : Nat} {t : Tb} (h : TOk cap s l t) : (tbF t).length = l := by
  cases cap <;> cases t
  · exact (List.length_map _).trans h.1
  · exact h.elim
  · exact h.elim
  · exact (List.length_map _).trans h
/-- tables for names in order -/
def TbsOk (s : Nat) : List (Str × Nat) → List (Str × Tb) → Prop
  | [], [] => True
  | p :: P, q :: σ => (q.1 = p.1 ∧ ∃ cap, Nm cap p.1 ∧ TOk cap s (s ^ p.2) q.2) ∧ TbsOk s P σ
  | _, _ => False
theorem TbsOk.names {s : Nat} : ∀ {P : List (Str × Nat)} {σ : List (Str × Tb)}, TbsOk s P σ → σ.map (·.1) = P.map (·.1)
  | [], [], _ => rfl
  | p :: P, q :: σ, h => by rw [List.map_cons, List.map_cons, h.1.1, h.2.names]
  | [], _ :: _, h => h.elim
  | _ :: _, [], h => h.elim
theorem TbsOk.len {s : Nat} {P : List (Str × Nat)} {σ : List (Str × Tb)} (h : TbsOk s P σ) : σ.length = P.length := by
  have := congrArg List.length h.names
  simpa using this
theorem TbsOk.get {s : Nat} : ∀ {P : List (Str × Nat)} {σ : List (Str × Tb)} {k : Nat} {p : Str × Nat}, TbsOk s P σ → P[k]? = some p → ∃ q, σ[k]? = some q ∧ q.1 = p.1 ∧ ∃ cap, Nm cap p.1 ∧ TOk cap s (s ^ p.2) q.2
  | p' :: P, q :: σ, 0, p, h, e => by cases e; exact ⟨q, rfl, h.1⟩
  | _ :: P, _ :: σ, k + 1, p, h, e => h.2.get (k := k) (by simpa using e)
  | [], [], _, _, _, e => by simp at e
  | [], _ :: _, _, _, h, _ => h.elim
  | _ :: _, [], _, _, h, _ => h.elim
theorem TbsOk.map {s : Nat} {x : Str} {t : Tb} : ∀ {P : List (Str × Nat)} {σ : List (Str × Tb)}, TbsOk s P σ → (∀ p, p ∈ P → p.1 = x → ∃ cap, Nm cap p.1 ∧ TOk cap s (s ^ p.2) t) → TbsOk s P (σ.map fun q => if q.1 = x then (q.1, t) else q)
  | [], [], _, _ => trivial
  | p :: P, q :: σ, h, ht => by
    refine ⟨?_, h.2.map fun p' hp => ht p' (List.mem_cons_of_mem _ hp)⟩
    dsimp only
    by_cases e : q.1 = x
    · rw [if_pos e]
      exact ⟨h.1.1, ht p List.mem_cons_self (by rw [← h.1.1, e])⟩
    · rw [if_neg e]; exact h.1
  | [], _ :: _, h, _ => h.elim
  | _ :: _, [], h, _ => h.elim
/-- a table put for a name that has one -/
theorem TbsOk.put {s : Nat} {x : Str} {t : Tb} {P : List (Str × Nat)} {σ : List (Str × Tb)} (h : TbsOk s P σ) (hx : x ∈ P.map (·.1)) (ht : ∀ p, p ∈ P → p.1 = x → ∃ cap, Nm cap p.1 ∧ TOk cap s (s ^ p.2) t) : TbsOk s P (putA σ x t) := by
  unfold putA
  rw [if_pos]
  · exact h.map ht
  · rw [← h.names] at hx
    obtain ⟨q, hq, e⟩ := List.mem_map.mp hx
    exact List.any_eq_true.mpr ⟨q, hq, decide_eq_true e⟩
end P
/-! R11: texts: blanks, padding, joined lines, greatest lengths. -/
namespace P
open PySem PySem.Spec PyProof.Rows L2 G
def spN (n : Nat) : Str := ⟨Array.replicate n 32⟩
@[simp] theorem sgs_spN (n : Nat) : sgs (spN n) = List.replicate n 32 := Array.toList_replicate
/-! ### joined lines -/
theorem join_snoc (a : Str) (l : List Str) (x y : Str) : Txt.join a (x :: (l ++ [y])) = Txt.join a (x :: l) ++ a ++ y := by
  unfold Txt.join PySem.Builtin.Str.glued
  show Str.mk ((l ++ [y]).foldl _ x.cps) = _
  rw [List.foldl_append]; rfl
theorem join_one (a x : Str) : Txt.join a [x] = x := rfl
theorem txts_str (l : List Str) : txts (l.map .str) = some l := by
  induction l with
  | nil => rfl
  | cons x l ih => rw [List.map_cons, txts, ih]; rfl
/-! ### greatest lengths -/
/-! ### the words of a table -/
end P
/-! R12: more of drawing runs. -/
namespace P
open PySem PySem.Spec PyProof.Rows L2 G
@[simp] theorem oTru_bl (b : Bool) : oTru (.v (.bl b)) = pur b := lift_ok fun _ => rfl
@[simp] theorem oTru_f (ds : List FV) : oTru (.v (.fl ds)) = pur (!ds.isEmpty) := lift_ok fun _ => rfl
@[simp] theorem oTru_l (ds : List FV) : oTru (.l ds) = pur (!ds.isEmpty) := lift_ok fun _ => rfl
@[simp] theorem oTru_t (ds : List FV) : oTru (.v (.tup ds)) = pur (!ds.isEmpty) := lift_ok fun _ => rfl
@[simp] theorem oTru_i (i : Int) : oTru (.v (.int i)) = pur (i != 0) := lift_ok fun _ => rfl
@[simp] theorem oTru_n : oTru (.v .non) = pur false := lift_ok fun _ => rfl
theorem Dr.eqb {α β : Type} {m : M α} {a : α} {k : α → M β} {Q : β → Prop} {c : Nat} (e : m = P.pur a) (h : Dr (k a) Q c) : Dr (P.bnd m k) Q c := by
  rw [e, bnd_pur]; exact h
theorem Dr.eqs {α γ : Type} {m : M (Fl α Empty)} {a : α} {k : α → M (Fl γ Empty)} {Q : Fl γ Empty → Prop} {c : Nat} (e : m = P.pur (.nx a)) (h : Dr (k a) Q c) : Dr (seqN m k) Q c := by
  rw [e, seqN_nx]; exact h
theorem Dr.no {α : Type} {m n : M α} {Q : α → Prop} {c : Nat} (h : Dr n Q c) : Dr (if false = true then m else n) Q c := by
  rw [if_neg Bool.false_ne_true]; exact h
end P
/-! R13: texts cut, split at ends of lines, places; what a scanner of words gives. -/
namespace P
open PySem PySem.Spec PyProof.Rows L2 G
def mk (l : List Nat) : Str := ⟨l.toArray⟩
@[simp] theorem sgs_mk (l : List Nat) : sgs (mk l) = l := rfl
theorem mk_sgs (x : Str) : mk (sgs x) = x := str_ext rfl
theorem mk_len (l : List Nat) : (mk l).length = l.length := by rw [← sgs_len]; rfl
/-! ### cuts -/
/-! ### small numbers have texts -/
/-! ### places -/
def adv (p : Nat × Nat) (cs : List Nat) : Nat × Nat := cs.foldl (fun p c => if c = 10 then (p.1 + 1, 1) else (p.1, p.2 + 1)) p
theorem adv_app (p : Nat × Nat) (a b : List Nat) : adv p (a ++ b) = adv (adv p a) b := List.foldl_append
theorem adv_word : ∀ (w : List Nat) (p : Nat × Nat), (∀ c, c ∈ w → c ≠ 10) → adv p w = (p.1, p.2 + w.length)
  | [], p, _ => rfl
  | c :: w, p, h => by
    show adv (if c = 10 then (p.1 + 1, 1) else (p.1, p.2 + 1)) w = _
    rw [if_neg (h c List.mem_cons_self), adv_word w _ fun d hd => h d (List.mem_cons_of_mem _ hd), List.length_cons]
    show (p.1, p.2 + 1 + w.length) = _
    rw [show p.2 + 1 + w.length = p.2 + (w.length + 1) by omega]
/-! ### lines -/
end P
/-! R14: places by count and rfind; the words of a text. -/
namespace P
open PySem PySem.Spec PyProof.Rows L2 G
/-! ### words -/
abbrev W3 := Str × Nat × Nat
def isMk (c : Nat) : Bool := decide (c = 40) || decide (c = 41) || decide (c = 44) || decide (c = 46) || decide (c = 61)
def wl : List Nat → Nat
  | [] => 0
  | c :: cs => if isMk c = true then 1 else if c = 33 ∧ cs.head? = some 61 then 2 else ((c :: cs).takeWhile isSg).length
theorem wl_cons (c : Nat) (cs : List Nat) : wl (c :: cs) = if isMk c = true then 1 else if c = 33 ∧ cs.head? = some 61 then 2 else ((c :: cs).takeWhile isSg).length := rfl
theorem wl_le (cs : List Nat) : wl cs ≤ cs.length := by
  cases cs with
  | nil => exact Nat.le_refl _
  | cons c cs =>
    rw [wl_cons]
    split
    · rw [List.length_cons]; omega
    · split
      · rename_i h
        cases cs with
        | nil => cases h.2
        | cons d cs => rw [List.length_cons, List.length_cons]; omega
      · exact (List.takeWhile_sublist _).length_le
/-- the words of a line from a column on, with the end or the sign that is no word's -/
def lw (n col : Nat) (cs : List Nat) : List W3 := match cs with
  | [] => [(mk [], n, col)]
  | c :: r => if _h : 0 < wl (c :: r) then (mk ((c :: r).take (wl (c :: r))), n, col) :: lw n (col + wl (c :: r)) ((c :: r).drop (wl (c :: r)))
    else if c = 32 then lw n (col + 1) r else [(mk [c], n, col)]
termination_by cs.length
decreasing_by
  · rw [List.length_drop]; have := wl_le (c :: r); rw [List.length_cons] at this ⊢; omega
  · rw [List.length_cons]; omega
/-- .. of a whole text -/
def sc (n col : Nat) (cs : List Nat) : List W3 := match cs with
  | [] => [(mk [], n, col)]
  | c :: r => if _h : 0 < wl (c :: r) then (mk ((c :: r).take (wl (c :: r))), n, col) :: sc n (col + wl (c :: r)) ((c :: r).drop (wl (c :: r)))
    else if c = 10 then sc (n + 1) 1 r
    else if c = 32 then sc n (col + 1) r else [(mk [c], n, col)]
termination_by cs.length
decreasing_by
  · rw [List.length_drop]; have := wl_le (c :: r); rw [List.length_cons] at this ⊢; omega
  · rw [List.length_cons]; omega
  · rw [List.length_cons]; omega
/-- the words of lines: a line's end falls away when another follows -/
def aw (n : Nat) : List (List Nat) → List W3
  | [] => []
  | l :: ls => let r := lw n 1 l
    if ls = [] ∨ (r.getLast?.map (·.1)) ≠ some (mk []) then r else r.dropLast ++ aw (n + 1) ls
end P
/-! R15: texts put together of words; texts spoilt by a sign; the scanner's loops. -/
namespace P
open PySem PySem.Spec PyProof.Rows L2 G
theorem sg_mk {c : Nat} (h : isSg c = true) : isMk c = false := by
  have := sg_le h
  revert c
  have : ∀ c, c < 123 → isSg c = true → isMk c = false := by decide +kernel
  intro c h l; exact this c l h
theorem sg_no {c : Nat} (h : isSg c = true) : c ≠ 33 ∧ c ≠ 10 ∧ c ≠ 32 ∧ c ≠ 61 := by
  refine ⟨?_, ?_, ?_, ?_⟩ <;> (rintro rfl; exact absurd h (by decide))
theorem mk_no {c : Nat} (h : isMk c = true) : c ≠ 33 ∧ c ≠ 10 ∧ c ≠ 32 ∧ isSg c = false := by
  refine ⟨?_, ?_, ?_, ?_⟩
  · rintro rfl; exact absurd h (by decide)
  · rintro rfl; exact absurd h (by decide)
  · rintro rfl; exact absurd h (by decide)
  · cases e : isSg c
    · rfl
    · rw [sg_mk e] at h; cases h
theorem tw_all {p : Nat → Bool} : ∀ (w r : List Nat), (∀ c, c ∈ w → p c = true) → (∀ c, r.head? = some c → p c = false) → (w ++ r).takeWhile p = w
  | [], r, _, h => by
    cases r with
    | nil => rfl
    | cons c r => rw [List.nil_append, List.takeWhile_cons_of_neg (by rw [h c rfl]; exact Bool.false_ne_true)]
  | c :: w, r, h, h2 => by
    rw [List.cons_append, List.takeWhile_cons_of_pos (h c List.mem_cons_self), tw_all w r (fun d hd => h d (List.mem_cons_of_mem _ hd)) h2]
theorem sc_name {w r : List Nat} (n col : Nat) (hw : w ≠ []) (h : ∀ c, c ∈ w → isSg c = true) (h2 : ∀ c, r.head? = some c → isSg c = false) : sc n col (w ++ r) = (mk w, n, col) :: sc n (col + w.length) r := by
  cases w with
  | nil => exact absurd rfl hw
  | cons c w =>
    have hc := h c List.mem_cons_self
    have e : wl (c :: (w ++ r)) = (c :: w).length := by
      rw [wl_cons, if_neg (by rw [sg_mk hc]; exact Bool.false_ne_true), if_neg (fun z => (sg_no hc).1 z.1), ← List.cons_append, tw_all (c :: w) r h h2]
    rw [List.cons_append, sc, dif_pos (by rw [e, List.length_cons]; omega), e, ← List.cons_append, List.take_left, List.drop_left]
theorem sc_mark {c : Nat} {r : List Nat} (n col : Nat) (h : isMk c = true) : sc n col (c :: r) = (mk [c], n, col) :: sc n (col + 1) r := by
  have e : wl (c :: r) = 1 := by rw [wl_cons, if_pos h]
  rw [sc, dif_pos (by omega), e]; rfl
theorem sc_unlike (r : List Nat) (n col : Nat) : sc n col (33 :: 61 :: r) = (mk [33, 61], n, col) :: sc n (col + 2) r := by
  have e : wl (33 :: 61 :: r) = 2 := by rw [wl_cons, if_neg (by decide), if_pos ⟨rfl, rfl⟩]
  rw [sc, dif_pos (by omega), e]; rfl
theorem wl_0 {c : Nat} {r : List Nat} (h1 : isMk c = false) (h2 : c = 33 → r.head? ≠ some 61) (h3 : isSg c = false) : wl (c :: r) = 0 := by
  rw [wl_cons, if_neg (by rw [h1]; exact Bool.false_ne_true), if_neg (fun z => h2 z.1 z.2), List.takeWhile_cons_of_neg (by rw [h3]; exact Bool.false_ne_true)]; rfl
theorem sc_nl (r : List Nat) (n col : Nat) : sc n col (10 :: r) = sc (n + 1) 1 r := by
  rw [sc, dif_neg (by rw [wl_0 rfl (fun z => by cases z) rfl]; exact Nat.lt_irrefl 0), if_pos rfl]
theorem sc_sp (r : List Nat) (n col : Nat) : sc n col (32 :: r) = sc n (col + 1) r := by
  rw [sc, dif_neg (by rw [wl_0 rfl (fun z => by cases z) rfl]; exact Nat.lt_irrefl 0), if_neg (by decide), if_pos rfl]
theorem sc_nil (n col : Nat) : sc n col [] = [(mk [], n, col)] := by rw [sc]
def Gp (g : List Nat) : Prop := ∀ c, c ∈ g → c = 32 ∨ c = 10
theorem sc_gap : ∀ (g r : List Nat) (p : Nat × Nat), Gp g → sc p.1 p.2 (g ++ r) = sc (adv p g).1 (adv p g).2 r
  | [], r, p, _ => rfl
  | c :: g, r, p, h => by
    have ih := fun q => sc_gap g r q fun d hd => h d (List.mem_cons_of_mem _ hd)
    rcases h c List.mem_cons_self with rfl | rfl
    · rw [List.cons_append, sc_sp]; exact ih (p.1, p.2 + 1)
    · rw [List.cons_append, sc_nl]; exact ih (p.1 + 1, 1)
/-- a word -/
def nmB (w : List Nat) : Bool := match w with
  | [] => false
  | c :: _ => isSg c
def Wk (w : List Nat) : Prop := (w ≠ [] ∧ ∀ c, c ∈ w → isSg c = true) ∨ (∃ c, w = [c] ∧ isMk c = true) ∨ w = [33, 61]
theorem Wk.no {w : List Nat} (h : Wk w) : ∀ c, c ∈ w → c ≠ 10 := by
  intro c hc
  rcases h with ⟨_, h⟩ | ⟨d, rfl, h⟩ | rfl
  · exact (sg_no (h c hc)).2.1
  · rw [List.mem_singleton] at hc; subst hc; exact (mk_no h).2.1
  · rintro rfl; exact absurd hc (by decide)
theorem Wk.adv {w : List Nat} (h : Wk w) (p : Nat × Nat) : adv p w = (p.1, p.2 + w.length) := adv_word w p h.no
theorem sc_word {w r : List Nat} (p : Nat × Nat) (h : Wk w) (h2 : nmB w = true → ∀ c, r.head? = some c → isSg c = false) : sc p.1 p.2 (w ++ r) = (mk w, p.1, p.2) :: sc (adv p w).1 (adv p w).2 r := by
  rw [h.adv]
  rcases h with ⟨h1, h⟩ | ⟨c, rfl, h⟩ | rfl
  · refine sc_name _ _ h1 h (h2 ?_)
    cases w with
    | nil => exact absurd rfl h1
    | cons c w => exact h c List.mem_cons_self
  · exact sc_mark _ _ h
  · exact sc_unlike _ _ _
/-- gaps and words -/
abbrev GW := List Nat × List Nat
def jt : List GW → List Nat → List Nat
  | [], g => g
  | (g, w) :: ps, e => g ++ (w ++ jt ps e)
def Gd2 : Bool → List GW → Prop
  | _, [] => True
  | b, (g, w) :: ps => Gp g ∧ Wk w ∧ (b = true → nmB w = true → g ≠ []) ∧ Gd2 (nmB w) ps
def lastB : Bool → List GW → Bool
  | b, [] => b
  | _, (_, w) :: ps => lastB (nmB w) ps
def wsP (p : Nat × Nat) : List GW → List W3
  | [] => []
  | (g, w) :: ps => (mk w, (adv p g).1, (adv p g).2) :: wsP (adv (adv p g) w) ps
theorem head_jt {ps : List GW} {e : List Nat} (h : Gd2 true ps) (he : Gp e) : ∀ c, (jt ps e).head? = some c → isSg c = false := by
  have gap : ∀ (g : List Nat), Gp g → ∀ c, g.head? = some c → isSg c = false := fun g hg c hc => by
    cases g with
    | nil => cases hc
    | cons d g =>
      cases hc
      rcases hg _ List.mem_cons_self with rfl | rfl <;> rfl
  cases ps with
  | nil => exact gap e he
  | cons q ps =>
    obtain ⟨g, w⟩ := q
    obtain ⟨h1, h2, h3, h4⟩ := h
    intro c hc
    cases g with
    | cons d g => exact gap (d :: g) h1 c (by simpa [jt] using hc)
    | nil =>
      cases e2 : nmB w with
      | true => exact absurd rfl (h3 rfl e2)
      | false =>
        have hc2 : (w ++ jt ps e).head? = some c := hc
        rcases h2 with ⟨n1, n2⟩ | ⟨d, rfl, hd⟩ | rfl
        · cases w with
          | nil => exact absurd rfl n1
          | cons d w =>
            have := n2 d List.mem_cons_self
            rw [show nmB (d :: w) = isSg d from rfl] at e2
            rw [e2] at this; cases this
        · cases hc2; exact (mk_no hd).2.2.2
        · cases hc2; rfl
theorem sc_jt : ∀ (ps : List GW) (b : Bool) (e : List Nat) (p : Nat × Nat), Gd2 b ps → Gp e → sc p.1 p.2 (jt ps e) = wsP p ps ++ [(mk [], (adv p (jt ps e)).1, (adv p (jt ps e)).2)]
  | [], b, e, p, _, he => by
    have := sc_gap e [] p he
    rw [List.append_nil] at this
    show sc p.1 p.2 e = [] ++ [(mk [], (adv p e).1, (adv p e).2)]
    rw [this, sc_nil]; rfl
  | (g, w) :: ps, b, e, p, h, he => by
    obtain ⟨h1, h2, h3, h4⟩ := h
    rw [jt, sc_gap _ _ _ h1, sc_word _ h2 (fun q => by rw [q] at h4; exact head_jt h4 he), sc_jt ps _ e _ h4 he, wsP, adv_app, adv_app]; rfl
/-! ### spoilt texts -/
/-! ### the program's loops -/
section
variable {β : Type} {line : Str}
def encW (w : W3) : FV := .tup [.str w.1, .int w.2.1, .int w.2.2]
end
theorem pop_o {ds : List FV} {d : FV} : oPopO (ds ++ [d]) = pur (d, ds) := by
  unfold oPopO
  rw [List.getLast?_append, List.dropLast_append_of_ne_nil (by simp)]
  show pur (d, ds ++ []) = _
  rw [List.append_nil]
end P
/-! R16: walks over told lists; errors caught. -/
namespace P
open PySem PySem.Spec PyProof.Rows L2 G
end P
/-! R17: what a reader of words gives (a function on the words left), and runs that are as it says. -/
namespace P
open PySem PySem.Spec PyProof.Rows L2 G
/-- read, the words left; refused at the first of the words left; nothing said -/
inductive Res (α : Type) where
  | ok (a : α) (r : List W3)
  | bad (r : List W3)
  | no
def Res.bind {α β : Type} (x : Res α) (k : α → List W3 → Res β) : Res β := match x with
  | .ok a r => k a r
  | .bad r => .bad r
  | .no => .no
def Res.map {α β : Type} (f : α → β) (x : Res α) : Res β := x.bind fun a r => .ok (f a) r
def tk (acc : Bool) : List W3 → Res Str
  | [] => .no
  | w :: r => if acc = true then .ok w.1 r else .bad (w :: r)
def withW {α : Type} (ws : List W3) (k : Str → Res α) : Res α := match ws with
  | [] => .no
  | w :: _ => k w.1
def mkk (m : Str) (ws : List W3) : Res Str := withW ws fun x => tk (decide (x = m)) ws
def many (tm : List W3 → Res FV) : List Str → List W3 → Res (List FV)
  | [], ws => .ok [] ws
  | m :: ms, ws => (mkk m ws).bind fun _ r => (tm r).bind fun x r2 => (many tm ms r2).map (x :: ·)
def pairsL : List Str := ["and", "or", "implies", "iff"]
def row (sm : List W3 → Res FV) : Nat → List W3 → Res (List (Str × FV))
  | 0, _ => .no
  | g + 1, ws => withW ws fun x => if x ∈ pairsL then (tk true ws).bind fun l r => (sm r).bind fun p r2 => (row sm g r2).map ((l, p) :: ·) else .ok [] ws
/-! grouping -/
def jl (w : Str) : FV → List (Str × FV) → FV × List (Str × FV)
  | p, [] => (p, [])
  | p, (o, q) :: ls => if o = w then jl w (.tup [.str w, p, q]) ls else (p, (o, (jl w q ls).1) :: (jl w q ls).2)
def jr (w : Str) : FV → List (Str × FV) → FV × List (Str × FV)
  | p, [] => (p, [])
  | p, (o, q) :: ls => if o = w then (.tup [.str w, p, (jr w q ls).1], (jr w q ls).2) else (p, (o, (jr w q ls).1) :: (jr w q ls).2)
def stepG (w : Str) (y : FV × List (Str × FV)) : FV × List (Str × FV) := if w = "implies" then jr w y.1 y.2 else jl w y.1 y.2
def grp (p : FV) (ls : List (Str × FV)) : FV := (pairsL.foldl (fun y w => stepG w y) (p, ls)).1
/-! the reader -/
def smallB (x : Str) : Bool := decide (x.length ≤ 12) && (Txt.isascii x && (Txt.isalnum x && ((match sgs x with | c :: _ => decide (97 ≤ c) && decide (c ≤ 122) | [] => false) && !decide (x ∈ resS))))
structure Rd where
  term : List Str → List W3 → Res FV
  args : Str → List Str → List W3 → Res (List FV)
  sent : List Str → List W3 → Res FV
  simp : List Str → List W3 → Res FV
  bound : List Str → List W3 → Res FV
  eqn : List Str → List W3 → Res FV
section
variable (F R : List (Str × Nat))
def arOf (x : Str) : Option Nat := match lookA F x with
  | some k => some k
  | none => lookA R x
def termB (q : Rd) (kn : List Str) (ws : List W3) : Res FV := withW ws fun x => if x ∈ kn then (tk true ws).map .str else (tk (lookA F x).isSome ws).bind fun nm r => (q.args nm kn r).map fun xs => .tup (.str nm :: xs)
def argsB (q : Rd) (nm : Str) (kn : List Str) (ws : List W3) : Res (List FV) := match arOf F R nm with
  | none => .no
  | some 0 => .ok [] ws
  | some (k + 1) => (many (q.term kn) ("(" :: List.replicate k ",") ws).bind fun xs r => (mkk ")" r).map fun _ => xs
def sentB (q : Rd) (kn : List Str) (ws : List W3) : Res FV := (q.simp kn ws).bind fun p r => (row (q.simp kn) FUEL r).map fun ls => grp p ls
def simpB (q : Rd) (kn : List Str) (ws : List W3) : Res FV := withW ws fun x =>
  if x = "not" then (tk true ws).bind fun _ r => (q.simp kn r).map fun p => .tup [.str "not", p]
  else if x ∈ (["all", "some"] : List Str) then q.bound kn ws
  else if x = "(" then (tk true ws).bind fun _ r => (q.sent kn r).bind fun p r2 => (mkk ")" r2).map fun _ => p
  else if (lookA R x).isSome = true then (tk true ws).bind fun _ r => (q.args x kn r).map fun xs => .tup [.str "holds", .tup (.str x :: xs)]
  else q.eqn kn ws
def boundB (q : Rd) (kn : List Str) (ws : List W3) : Res FV := (tk true ws).bind fun b r => withW r fun x => (tk (smallB x && !((lookA F x).isSome || (lookA R x).isSome)) r).bind fun nm r2 => (mkk "." r2).bind fun _ r3 =>
  (q.sent (kn ++ [nm]) r3).map fun p => .tup [.str b, .str nm, p]
def eqnB (q : Rd) (kn : List Str) (ws : List W3) : Res FV := (q.term kn ws).bind fun l r => withW r fun x => (tk (decide (x ∈ (["=", "!="] : List Str))) r).bind fun m r2 => (q.term kn r2).map fun u =>
  if m = "=" then .tup [.str "same", l, u] else .tup [.str "not", .tup [.str "same", l, u]]
def rd : Nat → Rd
  | 0 => ⟨fun _ _ => .no, fun _ _ _ => .no, fun _ _ => .no, fun _ _ => .no, fun _ _ => .no, fun _ _ => .no⟩
  | f + 1 => ⟨termB F (rd f), argsB F R (rd f), sentB (rd f), simpB R (rd f), boundB F R (rd f), eqnB (rd f)⟩
end
/-! ### runs -/
def rdKs : List Str := ["words", "position"]
def rdO (all : List W3) (p : Nat) : FO := .ins "Reader" (rdKs.zip [.fl (all.map encW), .int p])
section
variable {α β γ δ : Type} (h : FH) (all : List W3)
def rh (ws : List W3) : FH := h ++ [rdO all (all.length - ws.length)]
def btE (w : W3) : Exn := ⟨"BadText", some [("column", .int w.2.2), ("line", .int w.2.1)]⟩
def Den (m : M α) (ws : List W3) (x : Res β) (f : β → α) : Prop := match x with
  | .ok a r => m (rh h all ws) = .ok (f a) (rh h all r) ∧ r <:+ all
  | .bad r => (∃ w r2, r = w :: r2 ∧ m (rh h all ws) = .ex (btE w) (rh h all r)) ∧ r <:+ all
  | .no => True
variable {h all}
variable {m : M α} {ws : List W3} {x : Res β} {f : β → α} {k : α → M γ}
theorem Den.bnd {y : β → List W3 → Res δ} {g : δ → γ} (a : Den h all m ws x f) (b : ∀ z r, r <:+ all → Den h all (k (f z)) r (y z r) g) : Den h all (P.bnd m k) ws (x.bind y) g := by
  cases x with
  | no => trivial
  | bad r =>
    obtain ⟨⟨w, r2, e1, e2⟩, e3⟩ := a
    exact ⟨⟨w, r2, e1, by show (m _).bind k = _; rw [e2]; rfl⟩, e3⟩
  | ok z r =>
    obtain ⟨e1, e2⟩ := a
    have := b z r e2
    show Den h all (P.bnd m k) ws (y z r) g
    unfold Den at this ⊢
    rw [bnd_ok e1]
    exact this
theorem Den.run {a : α} {x : Res δ} {g : δ → γ} (e : m (rh h all ws) = .ok a (rh h all ws)) (b : Den h all (k a) ws x g) : Den h all (P.bnd m k) ws x g := by
  unfold Den at b ⊢
  rw [bnd_ok e]
  exact b
theorem Den.eq {m n : M α} (e : m = n) (b : Den h all n ws x f) : Den h all m ws x f := e ▸ b
theorem Den.pur {a : β} (s : ws <:+ all) : Den h all (P.pur (f a)) ws (.ok a ws) f := ⟨rfl, s⟩
theorem Den.map {y : β → δ} {g : δ → γ} (a : Den h all m ws x f) (b : ∀ z, k (f z) = P.pur (g (y z))) : Den h all (P.bnd m k) ws (x.map y) g :=
  a.bnd fun z r s => by rw [b z]; exact ⟨rfl, s⟩
theorem Den.to {g : β → α} (a : Den h all m ws x f) (e : ∀ z, f z = g z) : Den h all m ws x g := by
  have : f = g := funext e
  exact this ▸ a
theorem Den.as {y : δ → β} {x : Res δ} {f : β → α} (a : Den h all m ws x (fun z => f (y z))) : Den h all m ws (x.map y) f := by
  cases x with
  | no => trivial
  | bad r => exact a
  | ok z r => exact a
end
section
variable {β : Type} {h : FH} {all ws : List W3} {x : Res β}
theorem Den.mV {m : M RV} {g : β → FV} (a : Den h all m ws x fun z => .v (g z)) : Den h all (P.mV m) ws x g := by
  cases x with
  | no => trivial
  | bad r =>
    obtain ⟨⟨w, r2, e1, e2⟩, e3⟩ := a
    exact ⟨⟨w, r2, e1, by show vF (m _) = _; rw [e2]; rfl⟩, e3⟩
  | ok z r =>
    obtain ⟨e1, e2⟩ := a
    exact ⟨by show vF (m _) = _; rw [e1]; rfl, e2⟩
theorem rh_len (ws : List W3) : (rh h all ws).length = h.length + 1 := by unfold rh; rw [List.length_append]; rfl
theorem Den.fn {m : M (Fl Unit Empty)} {f : β → RV} (a : Den h all m ws x fun z => .rt (f z)) : Den h all (gcM (P.toF m)) ws x f := by
  cases x with
  | no => trivial
  | bad r =>
    obtain ⟨⟨w, r2, e1, e2⟩, e3⟩ := a
    refine ⟨⟨w, r2, e1, ?_⟩, e3⟩
    unfold gcM
    rw [show P.toF m (rh h all ws) = .ex (btE w) (rh h all r) from by show (m _).bind _ = _; rw [e2]; rfl]
  | ok z r =>
    obtain ⟨e1, e2⟩ := a
    refine ⟨gcM_same ?_ (by rw [rh_len, rh_len]; exact Nat.le_refl _), e2⟩
    show (m _).bind _ = _
    rw [e1]; rfl
theorem Den.ret {m : M RV} {f : β → RV} (a : Den h all m ws x f) : Den h all (P.ret m : M (Fl Unit Empty)) ws x fun z => .rt (f z) := by
  cases x with
  | no => trivial
  | bad r =>
    obtain ⟨⟨w, r2, e1, e2⟩, e3⟩ := a
    exact ⟨⟨w, r2, e1, by show (m _).bind _ = _; rw [e2]; rfl⟩, e3⟩
  | ok z r =>
    obtain ⟨e1, e2⟩ := a
    exact ⟨by show (m _).bind _ = _; rw [e1]; rfl, e2⟩
/-- the loop over pairs -/
theorem Den.row {t : List FV × List FV → M Bool} {G : List FV × List FV → M (Fl (List FV × List FV) (List FV × List FV))} {sm : List W3 → Res FV}
    (ht : ∀ a w r, w :: r <:+ all → t a (rh h all (w :: r)) = .ok (decide (w.1 ∈ pairsL)) (rh h all (w :: r)))
    (hG : ∀ (ps ls : List FV) w r, w :: r <:+ all → ps.length ≤ 3000000 → ls.length ≤ 3000000 → Den h all (G (ps, ls)) (w :: r) (sm r) fun p => .nx (ps ++ [p], ls ++ [.str w.1])) :
    ∀ (g : Nat) (ps ls : List FV) (ws : List W3), ws <:+ all → ps.length + g ≤ 3000000 → ls.length + g ≤ 3000000 → Den h all (whileN t G g (ps, ls) : M (Fl (List FV × List FV) Empty)) ws (P.row sm g ws) fun ys => .nx (ps ++ ys.map (·.2), ls ++ ys.map fun y => .str y.1)
  | 0, ps, ls, ws, s, _, _ => trivial
  | g + 1, ps, ls, [], s, _, _ => trivial
  | g + 1, ps, ls, w :: r, s, h1, h2 => by
    rw [whileN]
    refine Den.run (ht _ w r s) ?_
    rw [P.row]
    show Den h all _ _ (if w.1 ∈ pairsL then _ else _) _
    by_cases e : w.1 ∈ pairsL
    · rw [if_pos e, decide_eq_true e, if_pos rfl]
      show Den h all _ _ ((sm r).bind _) _
      refine (hG ps ls w r s (by omega) (by omega)).bnd fun p r2 s2 => ?_
      dsimp only
      refine Den.as ((Den.row ht hG g (ps ++ [p]) (ls ++ [.str w.1]) r2 s2 (by rw [List.length_append, List.length_cons, List.length_nil]; omega) (by rw [List.length_append, List.length_cons, List.length_nil]; omega)).to fun ys => ?_)
      rw [List.append_assoc, List.append_assoc]; rfl
    · rw [if_neg e, decide_eq_false e, if_neg Bool.false_ne_true]
      exact ⟨by show _ = Rs.ok (Fl.nx (ps ++ [], ls ++ [])) _; rw [List.append_nil, List.append_nil]; rfl, s⟩
end
end P
/-! R18: bounds of what is scanned. -/
namespace P
open PySem PySem.Spec PyProof.Rows L2 G
section
variable (F R : List (Str × Nat))
/-- a whole text's words read as a sentence -/
def rdW (f : Nat) (kn : List Str) (ws : List W3) : Res FV := ((rd F R f).sent kn ws).bind fun d r => (mkk "" r).map fun _ => d
end
end P
/-! R19: rows of words that are read. -/
namespace P
open PySem PySem.Spec PyProof.Rows L2 G
def TX (ws : List W3) : List Str := ws.map (·.1)
theorem TX_app {u : List W3} {a b : List Str} (h : TX u = a ++ b) : ∃ u1 u2, u = u1 ++ u2 ∧ TX u1 = a ∧ TX u2 = b := List.map_eq_append_iff.mp h
theorem TX_cons {u : List W3} {a : Str} {b : List Str} (h : TX u = a :: b) : ∃ w u2, u = w :: u2 ∧ w.1 = a ∧ TX u2 = b := by
  cases u with
  | nil => cases h
  | cons w u2 => exact ⟨w, u2, rfl, (List.cons.inj h).1, (List.cons.inj h).2⟩
theorem TX_nil {u : List W3} (h : TX u = []) : u = [] := List.map_eq_nil_iff.mp h
theorem mkk_eq {w : W3} {m : Str} (r : List W3) (h : w.1 = m) : mkk m (w :: r) = .ok w.1 r := by
  show (if decide (w.1 = m) = true then _ else _) = _
  rw [decide_eq_true h, if_pos rfl]
theorem tk_t (w : W3) (r : List W3) : tk true (w :: r) = .ok w.1 r := rfl
theorem bind_ok {α β : Type} (a : α) (r : List W3) (k : α → List W3 → Res β) : (Res.ok a r).bind k = k a r := rfl
theorem map_ok {α β : Type} (a : α) (r : List W3) (k : α → β) : (Res.ok a r).map k = .ok (k a) r := rfl
theorem withW_c {α : Type} (w : W3) (r : List W3) (k : Str → Res α) : withW (w :: r) k = k w.1 := rfl
/-! ### words of terms -/
def endw : List Tm → List Str
  | [] => []
  | _ :: _ => [")"]
mutual
def Tm.ws : Tm → List Str
  | .var x => [x]
  | .app f ts => f :: (Tm.argw "(" ts ++ endw ts)
def Tm.argw (m : Str) : List Tm → List Str
  | [] => []
  | t :: ts => m :: (t.ws ++ Tm.argw "," ts)
end
theorem ws_var (x : Str) : (Tm.var x).ws = [x] := by simp [Tm.ws]
theorem ws_app (f : Str) (ts : List Tm) : (Tm.app f ts).ws = f :: (Tm.argw "(" ts ++ endw ts) := by simp [Tm.ws]
theorem argw_nil (m : Str) : Tm.argw m [] = [] := by simp [Tm.argw]
theorem argw_cons (m : Str) (t : Tm) (ts : List Tm) : Tm.argw m (t :: ts) = m :: (t.ws ++ Tm.argw "," ts) := by simp [Tm.argw]
section
variable (F : List (Str × Nat)) (kn : List Str)
mutual
def Tm.gd : Tm → Prop
  | .var x => x ∈ kn
  | .app f ts => lookA F f = some ts.length ∧ f ∉ kn ∧ Tm.gds ts
def Tm.gds : List Tm → Prop
  | [] => True
  | t :: ts => t.gd ∧ Tm.gds ts
end
end
theorem gd_var {F : List (Str × Nat)} {kn : List Str} {x : Str} : (Tm.var x).gd F kn ↔ x ∈ kn := by simp [Tm.gd]
theorem gd_app {F : List (Str × Nat)} {kn : List Str} {f : Str} {ts : List Tm} : (Tm.app f ts).gd F kn ↔ lookA F f = some ts.length ∧ f ∉ kn ∧ ∀ t, t ∈ ts → t.gd F kn := by
  have : ∀ ts : List Tm, Tm.gds F kn ts ↔ ∀ t, t ∈ ts → t.gd F kn := fun ts => by
    induction ts with
    | nil => simp [Tm.gds]
    | cons t ts ih => simp [Tm.gds, ih]
  simp [Tm.gd, this]
def marks (m : Str) : Nat → List Str
  | 0 => []
  | k + 1 => m :: List.replicate k ","
theorem marks_s (m : Str) (k : Nat) : marks m (k + 1) = m :: marks "," k := by
  cases k <;> rfl
theorem rd_many {tm : List W3 → Res FV} : ∀ (ts : List Tm), (∀ t, t ∈ ts → ∀ u r, TX u = t.ws → tm (u ++ r) = .ok t.fv r) → ∀ (m : Str) (u r : List W3), TX u = Tm.argw m ts → many tm (marks m ts.length) (u ++ r) = .ok (Tm.fvs ts) r
  | [], _, m, u, r, h => by
    rw [argw_nil] at h
    rw [TX_nil h, fvs_nil]; rfl
  | t :: ts, ht, m, u, r, h => by
    rw [argw_cons] at h
    obtain ⟨w, u2, rfl, hw, h2⟩ := TX_cons h
    obtain ⟨u3, u4, rfl, h3, h4⟩ := TX_app h2
    rw [List.length_cons, marks_s, many, List.cons_append, mkk_eq _ hw, bind_ok, List.append_assoc, ht t List.mem_cons_self u3 _ h3, bind_ok, rd_many ts (fun t h => ht t (List.mem_cons_of_mem _ h)) "," u4 r h4, map_ok, fvs_cons]
section
variable {F R : List (Str × Nat)} {kn : List Str}
theorem rd_args {q : Rd} {f : Str} {ts : List Tm} (ha : arOf F R f = some ts.length) (ht : ∀ t, t ∈ ts → ∀ u r, TX u = t.ws → q.term kn (u ++ r) = .ok t.fv r) (u r : List W3) (h : TX u = Tm.argw "(" ts ++ endw ts) : argsB F R q f kn (u ++ r) = .ok (Tm.fvs ts) r := by
  unfold argsB
  rw [ha]
  cases ts with
  | nil =>
    rw [argw_nil] at h
    rw [TX_nil h, fvs_nil]; rfl
  | cons t ts =>
    obtain ⟨u1, u2, rfl, h1, h2⟩ := TX_app h
    obtain ⟨w, u3, rfl, hw, h3⟩ := TX_cons h2
    rw [TX_nil h3]
    have := rd_many (t :: ts) ht "(" u1 (w :: r) h1
    show ((many (q.term kn) (marks "(" (t :: ts).length) _).bind fun xs r => (mkk ")" r).map fun _ => xs) = _
    rw [List.append_assoc, List.cons_append, List.nil_append, this, bind_ok, mkk_eq _ hw]; rfl
theorem rd_term : ∀ (d : Nat) (t : Tm), t.dep ≤ d → t.gd F kn → ∀ g, 2 * d + 1 ≤ g → ∀ u r, TX u = t.ws → (rd F R g).term kn (u ++ r) = .ok t.fv r
  | d, .var x, _, h, g, hg, u, r, hu => by
    obtain ⟨g, rfl⟩ : ∃ k, g = k + 1 := ⟨g - 1, by omega⟩
    rw [ws_var] at hu
    obtain ⟨w, u2, rfl, hw, h2⟩ := TX_cons hu
    rw [TX_nil h2, fv_var]
    have h := gd_var.mp h
    show (if w.1 ∈ kn then _ else _) = _
    rw [hw, if_pos h, ← hw]; rfl
  | 0, .app f ts, hd, _, _, _, _, _, _ => by
    rw [dep_app] at hd; omega
  | d + 1, .app f ts, hd, h, g, hg, u, r, hu => by
    obtain ⟨g, rfl⟩ : ∃ k, g = k + 2 := ⟨g - 2, by omega⟩
    rw [dep_app] at hd
    rw [ws_app] at hu
    obtain ⟨h1, h2, h3⟩ := gd_app.mp h
    obtain ⟨w, u2, rfl, hw, hu2⟩ := TX_cons hu
    have ar : arOf F R f = some ts.length := by unfold arOf; rw [h1]
    have A := rd_args (R := R) (q := rd F R g) ar (fun t ht u r hu => rd_term d t (by have := deps_mem ht; omega) (h3 t ht) g (by omega) u r hu) u2 r hu2
    show (if w.1 ∈ kn then _ else (tk (lookA F w.1).isSome (w :: (u2 ++ r))).bind fun nm r => ((rd F R (g + 1)).args nm kn r).map fun xs => FV.tup (.str nm :: xs)) = _
    rw [hw, if_neg h2, h1]
    show ((argsB F R (rd F R g) w.1 kn (u2 ++ r)).map fun xs => FV.tup (.str w.1 :: xs)) = _
    rw [hw, A, fv_app]; rfl
/-! ### simple sentences, rows, sentences -/
variable (F R kn)
def SimR (f : Nat) (W : List Str) (d : FV) (cl : Bool) : Prop := ∀ g, f ≤ g → ∀ u w r, TX u = W → (cl = true → w.1 ∉ pairsL) → (rd F R g).simp kn (u ++ w :: r) = .ok d (w :: r)
def SenR (f : Nat) (W : List Str) (d : FV) : Prop := ∀ g, f ≤ g → ∀ u w r, TX u = W → w.1 ∉ pairsL → (rd F R g).sent kn (u ++ w :: r) = .ok d (w :: r)
def RowR (f : Nat) (W : List Str) (d : FV) (ls : List (Str × FV)) (cl : Bool) : Prop := ∀ g, f ≤ g → ∀ g2, f ≤ g2 → ∀ N, ls.length ≤ N → ∀ u w r, TX u = W → (cl = true → w.1 ∉ pairsL) →
  (((rd F R g).simp kn (u ++ w :: r)).bind fun p r2 => (row ((rd F R g2).simp kn) N r2).map fun ls => (p, ls)) = (row ((rd F R g2).simp kn) (N - ls.length) (w :: r)).map fun ls2 => (d, ls ++ ls2)
variable {F R kn}
theorem SimR.row {f : Nat} {W : List Str} {d : FV} {cl : Bool} (h : SimR F R kn f W d cl) : RowR F R kn f W d [] cl := fun g hg g2 hg2 N hN u w r hu hw => by
  rw [h g hg u w r hu hw, bind_ok]; rfl
theorem mapBind {α β γ : Type} (x : Res α) (f : β → γ) (k : α → List W3 → Res β) : (x.bind k).map f = x.bind fun a r => (k a r).map f := by cases x <;> rfl
theorem map_map' {α β γ : Type} (x : Res α) (f : α → β) (g : β → γ) : (x.map f).map g = x.map fun a => g (f a) := by cases x <;> rfl
theorem RowR.app {f : Nat} {W W2 : List Str} {d d2 : FV} {ls ls2 : List (Str × FV)} {o : Str} {cl : Bool} (h : RowR F R kn f W d ls false) (ho : o ∈ pairsL) (h2 : RowR F R kn f W2 d2 ls2 cl) : RowR F R kn f (W ++ o :: W2) d (ls ++ (o, d2) :: ls2) cl := fun g hg g2 hg2 N hN u w r hu hw => by
  obtain ⟨u1, u2, rfl, hu1, hu2⟩ := TX_app hu
  obtain ⟨v, u3, rfl, hv, hu3⟩ := TX_cons hu2
  rw [List.length_append, List.length_cons] at hN
  have A := h g hg g2 hg2 N (by omega) u1 v (u3 ++ w :: r) hu1 (fun z => by cases z)
  rw [List.append_assoc, List.cons_append, A]
  obtain ⟨M, hM⟩ : ∃ M, N - ls.length = M + 1 := ⟨N - ls.length - 1, by omega⟩
  have B := h2 g2 hg2 g2 hg2 M (by omega) u3 w r hu3 hw
  rw [hM, P.row, withW_c, hv, if_pos ho, tk_t, bind_ok]
  have C : ((rd F R g2).simp kn (u3 ++ w :: r)).bind (fun p r2 => (P.row ((rd F R g2).simp kn) M r2).map ((v.1, p) :: ·)) = (((rd F R g2).simp kn (u3 ++ w :: r)).bind fun p r2 => (P.row ((rd F R g2).simp kn) M r2).map fun ls => (p, ls)).map fun q => (v.1, q.1) :: q.2 := by
    rw [mapBind]
    congr 1
    funext p r2
    rw [map_map']
  rw [C, B, map_map', map_map', hv, List.length_append, List.length_cons, show N - (ls.length + (ls2.length + 1)) = M - ls2.length by omega]
  congr 1
  funext q
  rw [List.append_assoc]; rfl
theorem nm_ne {cap : Bool} {x s : Str} {c : Nat} {l : List Nat} (h : Nm cap x) (hs : sgs s = c :: l) (hc : if cap = true then ¬ (65 ≤ c ∧ c ≤ 90) else ¬ (97 ≤ c ∧ c ≤ 122)) : x ≠ s := by
  rintro rfl
  obtain ⟨d, m, e, hd⟩ := h.hd
  rw [hs] at e
  cases e
  cases cap
  · exact hc hd
  · exact hc hd
theorem nm_br {cap : Bool} {x : Str} (h : Nm cap x) : x ≠ "(" := nm_ne h (show sgs "(" = 40 :: [] by decide +kernel) (by cases cap <;> decide)
theorem res_bind {x : Str} (h : x ∉ resS) : x ∉ (["all", "some"] : List Str) ∧ x ≠ "not" ∧ x ∉ pairsL := by
  unfold resS at h
  unfold pairsL
  simp only [List.mem_cons, List.not_mem_nil, or_false, not_or] at h ⊢
  exact ⟨⟨h.1, h.2.1⟩, h.2.2.1, h.2.2.2.1, h.2.2.2.2.1, h.2.2.2.2.2.1, h.2.2.2.2.2.2.1⟩
theorem lookA_in {α : Type} {σ : List (Str × α)} {x : Str} {v : α} (h : lookA σ x = some v) : x ∈ σ.map (·.1) := by
  refine Classical.byContradiction fun z => ?_
  rw [lookA_none.mpr z] at h
  cases h
/-- the known unknowns -/
def KnOk (F : List (Str × Nat)) (kn : List Str) : Prop := ∀ x, x ∈ kn → Nm false x ∧ x ∉ resS ∧ lookA F x = none
theorem sg_small (ok : SgOk F R) {x : Str} (h : Nm false x) : lookA R x = none := lookA_none.mpr fun z => by
  obtain ⟨p, hp, rfl⟩ := List.mem_map.mp z
  exact h.no (ok.rn p hp)
theorem sg_fn (ok : SgOk F R) {x : Str} {k : Nat} (h : lookA F x = some k) : Nm false x ∧ x ∉ resS := by
  obtain ⟨p, hp, rfl⟩ := List.mem_map.mp (lookA_in h)
  exact ⟨ok.fn p hp, ok.fr p hp⟩
theorem term_hd (ok : SgOk F R) (hk : KnOk F kn) {t : Tm} (h : t.gd F kn) : ∃ x l, t.ws = x :: l ∧ Nm false x ∧ x ∉ resS := by
  cases t with
  | var x => exact ⟨x, [], ws_var x, (hk x (gd_var.mp h)).1, (hk x (gd_var.mp h)).2.1⟩
  | app f ts => exact ⟨f, _, ws_app f ts, sg_fn ok (gd_app.mp h).1⟩
theorem sim_eq (ok : SgOk F R) (hk : KnOk F kn) {t1 t2 : Tm} {D : Nat} (h1 : t1.gd F kn) (h2 : t2.gd F kn) (d1 : t1.dep ≤ D) (d2 : t2.dep ≤ D) (m : Str) (hm : m = "=" ∨ m = "!=") : SimR F R kn (2 * D + 3) (t1.ws ++ m :: t2.ws) (if m = "=" then .tup [.str "same", t1.fv, t2.fv] else .tup [.str "not", .tup [.str "same", t1.fv, t2.fv]]) false := fun g hg u w r hu hw => by
  obtain ⟨g, rfl⟩ : ∃ k, g = k + 2 := ⟨g - 2, by omega⟩
  obtain ⟨u1, u2, rfl, hu1, hu2⟩ := TX_app hu
  obtain ⟨v, u3, rfl, hv, hu3⟩ := TX_cons hu2
  obtain ⟨x, l, ex, nx, rx⟩ := term_hd ok hk h1
  obtain ⟨y, u4, rfl, hy, hu4⟩ := TX_cons (hu1.trans ex)
  have A := rd_term (R := R) D t1 d1 h1 g (by omega) (y :: u4) (v :: (u3 ++ w :: r)) hu1
  have B := rd_term (R := R) D t2 d2 h2 g (by omega) u3 (w :: r) hu3
  obtain ⟨rb, rn, _⟩ := res_bind rx
  rw [List.append_assoc]
  show (if y.1 = "not" then _ else if y.1 ∈ (["all", "some"] : List Str) then _ else if y.1 = "(" then _ else if (lookA R y.1).isSome = true then _ else eqnB (rd F R g) kn (y :: u4 ++ (v :: (u3 ++ w :: r)))) = _
  rw [hy, if_neg rn, if_neg rb, if_neg (nm_br nx), sg_small ok nx, if_neg (by decide)]
  unfold eqnB
  rw [A, bind_ok, withW_c, hv, decide_eq_true (by rcases hm with rfl | rfl <;> decide), tk_t, bind_ok, B, map_ok, hv]
theorem sim_not {f : Nat} {W : List Str} {d : FV} {cl : Bool} (h : SimR F R kn f W d cl) : SimR F R kn (f + 1) ("not" :: W) (.tup [.str "not", d]) cl := fun g hg u w r hu hw => by
  obtain ⟨g, rfl⟩ : ∃ k, g = k + 1 := ⟨g - 1, by omega⟩
  obtain ⟨v, u2, rfl, hv, hu2⟩ := TX_cons hu
  show (if v.1 = "not" then (tk true (v :: (u2 ++ w :: r))).bind (fun _ r => ((rd F R g).simp kn r).map fun p => FV.tup [.str "not", p]) else _) = _
  rw [if_pos hv, tk_t, bind_ok, h g (by omega) u2 w r hu2 hw, map_ok]
theorem RowR.nt {f : Nat} {W : List Str} {d : FV} {ls : List (Str × FV)} {cl : Bool} (h : RowR F R kn f W d ls cl) : RowR F R kn (f + 1) ("not" :: W) (.tup [.str "not", d]) ls cl := fun g hg g2 hg2 N hN u w r hu hw => by
  obtain ⟨g, rfl⟩ : ∃ k, g = k + 1 := ⟨g - 1, by omega⟩
  obtain ⟨v, u2, rfl, hv, hu2⟩ := TX_cons hu
  have e : (rd F R (g + 1)).simp kn (v :: u2 ++ w :: r) = ((rd F R g).simp kn (u2 ++ w :: r)).map fun p => FV.tup [.str "not", p] := by
    show (if v.1 = "not" then (tk true (v :: (u2 ++ w :: r))).bind (fun _ r => ((rd F R g).simp kn r).map fun p => FV.tup [.str "not", p]) else _) = _
    rw [if_pos hv, tk_t, bind_ok]
  have A := h g (by omega) g2 (by omega) N hN u2 w r hu2 hw
  rw [e]
  have C : (((rd F R g).simp kn (u2 ++ w :: r)).map fun p => FV.tup [.str "not", p]).bind (fun p r2 => (P.row ((rd F R g2).simp kn) N r2).map fun ls => (p, ls)) = (((rd F R g).simp kn (u2 ++ w :: r)).bind fun p r2 => (P.row ((rd F R g2).simp kn) N r2).map fun ls => (p, ls)).map fun q => (FV.tup [.str "not", q.1], q.2) := by
    rw [mapBind]
    cases (rd F R g).simp kn (u2 ++ w :: r) with
    | no => rfl
    | bad _ => rfl
    | ok p r2 =>
      rw [map_ok, bind_ok, bind_ok, map_map']
  rw [C, A, map_map']
theorem small_B {x : Str} (h : Nm false x) (hr : x ∉ resS) : smallB x = true := by
  have h1 := h.hi
  obtain ⟨c, l, e, hc⟩ := h.hd
  rw [if_neg Bool.false_ne_true] at hc
  unfold smallB
  rw [decide_eq_true h1, h.asc, h.aln, e, decide_eq_false hr]
  simp [hc.1, hc.2]
theorem sim_bound (ok : SgOk F R) {f : Nat} {b x : Str} {W : List Str} {d : FV} (hb : b ∈ (["all", "some"] : List Str)) (hx : Nm false x) (hr : x ∉ resS) (hf : lookA F x = none) (h : SenR F R (kn ++ [x]) f W d) : SimR F R kn (f + 2) (b :: x :: "." :: W) (.tup [.str b, .str x, d]) true := fun g hg u w r hu hw => by
  obtain ⟨g, rfl⟩ : ∃ k, g = k + 2 := ⟨g - 2, by omega⟩
  obtain ⟨v, u2, rfl, hv, hu2⟩ := TX_cons hu
  obtain ⟨y, u3, rfl, hy, hu3⟩ := TX_cons hu2
  obtain ⟨z, u4, rfl, hz, hu4⟩ := TX_cons hu3
  have bn : b ≠ "not" := by
    rintro rfl
    revert hb; decide +kernel
  show (if v.1 = "not" then _ else if v.1 ∈ (["all", "some"] : List Str) then boundB F R (rd F R g) kn (v :: y :: z :: (u4 ++ w :: r)) else _) = _
  rw [hv, if_neg bn, if_pos hb]
  unfold boundB
  rw [tk_t, bind_ok, withW_c, hy, small_B hx hr, hf, sg_small ok hx]
  show ((tk true (y :: z :: (u4 ++ w :: r))).bind _) = _
  rw [tk_t, bind_ok, mkk_eq _ hz, bind_ok, hy, h g (by omega) u4 w r hu4 (hw rfl), map_ok, hv]
end
theorem SimR.up {F R : List (Str × Nat)} {kn : List Str} {f f2 : Nat} {W : List Str} {d : FV} {cl : Bool} (h : SimR F R kn f W d cl) (l : f ≤ f2) : SimR F R kn f2 W d cl := fun g hg => h g (by omega)
theorem RowR.up {F R : List (Str × Nat)} {kn : List Str} {f f2 : Nat} {W : List Str} {d : FV} {ls : List (Str × FV)} {cl : Bool} (h : RowR F R kn f W d ls cl) (l : f ≤ f2) : RowR F R kn f2 W d ls cl := fun g hg g2 hg2 => h g (by omega) g2 (by omega)
theorem SenR.up {F R : List (Str × Nat)} {kn : List Str} {f f2 : Nat} {W : List Str} {d : FV} (h : SenR F R kn f W d) (l : f ≤ f2) : SenR F R kn f2 W d := fun g hg => h g (by omega)
/-! ### grouping -/
end P
/-! R20: deep freezes behind drawing defs; cuts; words with gaps between them. -/
namespace P
open PySem PySem.Spec PyProof.Rows L2 G
/-! where a word stands in a list -/
/-! ### marks and names -/
def mkL : List Str := ["(", ")", ",", ".", "=", "!="]
theorem mks6 : mkL = [mk [40], mk [41], mk [44], mk [46], mk [61], mk [33, 61]] := by decide +kernel
/-- a word of a text -/
def WS (x : Str) : Prop := Wk (sgs x) ∧ x.length ≤ 12
theorem nm_ws {cap : Bool} {x : Str} (h : Nm cap x) : WS x := ⟨.inl ⟨by
  obtain ⟨c, l, e, _⟩ := h.hd
  rw [e]; simp, h.sg⟩, h.hi⟩
theorem mk_ws {x : Str} (h : x ∈ mkL) : WS x := by
  rw [mks6] at h
  simp only [List.mem_cons, List.not_mem_nil, or_false] at h
  rcases h with rfl | rfl | rfl | rfl | rfl | rfl
  · exact ⟨.inr (.inl ⟨_, rfl, rfl⟩), by rw [mk_len]; decide⟩
  · exact ⟨.inr (.inl ⟨_, rfl, rfl⟩), by rw [mk_len]; decide⟩
  · exact ⟨.inr (.inl ⟨_, rfl, rfl⟩), by rw [mk_len]; decide⟩
  · exact ⟨.inr (.inl ⟨_, rfl, rfl⟩), by rw [mk_len]; decide⟩
  · exact ⟨.inr (.inl ⟨_, rfl, rfl⟩), by rw [mk_len]; decide⟩
  · exact ⟨.inr (.inr rfl), by rw [mk_len]; decide⟩
theorem res_ws {x : Str} (h : x ∈ resS) : WS x := by
  have : ∀ x, x ∈ resS → (sgs x ≠ [] ∧ (sgs x).all isSg = true) ∧ x.length ≤ 12 := by decide +kernel
  obtain ⟨⟨h1, h2⟩, h3⟩ := this x h
  exact ⟨.inl ⟨h1, fun c hc => List.all_eq_true.mp h2 c hc⟩, h3⟩
/-- what is known of a text of words with gaps -/
structure Jt (W : List Str) (k : Nat) (text last : Str) : Prop where
  ex : ∃ ps, text = mk (jt ps []) ∧ Gd2 false ps ∧ (ps.map fun q => mk q.2) = W ∧ nmB (sgs last) = lastB false ps
  wk : Wk (sgs last)
  len : text.length ≤ k * 15
theorem Jt.nil : Jt [] 0 "" "(" := ⟨⟨[], by decide +kernel, trivial, rfl, by decide +kernel⟩, (mk_ws (by decide +kernel)).1, by decide +kernel⟩
end P
/-! R21: lengths of words; operations on small lists. -/
namespace P
open PySem PySem.Spec PyProof.Rows L2 G
theorem lookA_mem' {α : Type} {x : Str} {v : α} : ∀ {σ : List (Str × α)}, lookA σ x = some v → (x, v) ∈ σ
  | [], h => by cases h
  | p :: σ, h => by
    unfold lookA at h
    rw [List.find?_cons] at h
    by_cases e : p.1 = x
    · rw [decide_eq_true e] at h
      cases h
      rw [← e]; exact List.mem_cons_self
    · rw [decide_eq_false e] at h
      exact List.mem_cons_of_mem _ (lookA_mem' h)
theorem argw_len {B : Nat} : ∀ (vs : List Tm), (∀ v, v ∈ vs → v.ws.length ≤ B) → ∀ m, (Tm.argw m vs).length ≤ vs.length * (B + 1)
  | [], _, m => by rw [argw_nil]; exact Nat.zero_le _
  | v :: vs, h, m => by
    have := argw_len vs (fun w hw => h w (List.mem_cons_of_mem _ hw)) ","
    have := h v List.mem_cons_self
    rw [argw_cons, List.length_cons, List.length_append, List.length_cons, Nat.succ_mul]
    omega
theorem endw_len (ts : List Tm) : (endw ts).length ≤ 1 := by
  cases ts
  · exact Nat.zero_le _
  · exact Nat.le_refl _
theorem len_ws {F : List (Str × Nat)} {kn : List Str} (ha : ∀ p, p ∈ F → p.2 ≤ 3) : ∀ (d : Nat) (t : Tm), t.dep ≤ d → t.gd F kn → t.ws.length ≤ 6 ^ (d + 1)
  | d, .var x, _, _ => by
    rw [ws_var]
    show 1 ≤ _
    exact Nat.one_le_pow _ _ (by decide)
  | 0, .app f ts, h, _ => by rw [dep_app] at h; omega
  | d + 1, .app f ts, h, hg => by
    rw [dep_app] at h
    obtain ⟨h1, h2, h3⟩ := gd_app.mp hg
    have l3 : ts.length ≤ 3 := ha _ (lookA_mem' h1)
    have := argw_len (B := 6 ^ (d + 1)) ts (fun u hu => by
      have := deps_mem hu
      exact len_ws ha d u (by omega) (h3 u hu)) "("
    have e1 := endw_len ts
    have b6 : 6 ≤ 6 ^ (d + 1) := by
      rw [Nat.pow_succ]
      have := Nat.one_le_pow d 6 (by decide)
      omega
    have m3 : ts.length * (6 ^ (d + 1) + 1) ≤ 3 * (6 ^ (d + 1) + 1) := Nat.mul_le_mul_right _ l3
    rw [ws_app, List.length_cons, List.length_append, Nat.pow_succ 6 (d + 1)]
    omega
theorem ws_words {F : List (Str × Nat)} {kn : List Str} (hF : ∀ p, p ∈ F → Nm false p.1) (hk : ∀ x, x ∈ kn → Nm false x) : ∀ (d : Nat) (t : Tm), t.dep ≤ d → t.gd F kn → ∀ x, x ∈ t.ws → WS x
  | d, .var x, _, h, y, hy => by
    rw [ws_var, List.mem_singleton] at hy
    subst hy
    exact nm_ws (hk _ (gd_var.mp h))
  | 0, .app f ts, h, _, _, _ => by rw [dep_app] at h; omega
  | d + 1, .app f ts, h, hg, y, hy => by
    rw [dep_app] at h
    obtain ⟨h1, h2, h3⟩ := gd_app.mp hg
    have aw : ∀ (vs : List Tm) (m : Str), WS m → (∀ v, v ∈ vs → v ∈ ts) → ∀ x, x ∈ Tm.argw m vs → WS x := fun vs => by
      induction vs with
      | nil => intro m _ _ x hx; rw [argw_nil] at hx; cases hx
      | cons v vs ih =>
        intro m hm hv x hx
        rw [argw_cons] at hx
        rcases List.mem_cons.mp hx with rfl | hx
        · exact hm
        · rcases List.mem_append.mp hx with hx | hx
          · have hv1 := hv v List.mem_cons_self
            have := deps_mem hv1
            exact ws_words hF hk d v (by omega) (h3 v hv1) x hx
          · exact ih "," (mk_ws (by decide +kernel)) (fun w hw => hv w (List.mem_cons_of_mem _ hw)) x hx
    rw [ws_app] at hy
    rcases List.mem_cons.mp hy with rfl | hy
    · exact nm_ws (hF _ (lookA_mem' h1))
    · rcases List.mem_append.mp hy with hy | hy
      · exact aw ts "(" (mk_ws (by decide +kernel)) (fun _ h => h) y hy
      · cases ts with
        | nil => cases hy
        | cons t ts =>
          have : y = ")" := by simpa [endw] using hy
          subst this
          exact mk_ws (by decide +kernel)
theorem is_str_t (t : Tm) : oU (gIs "str") (.v t.fv) = pur (.v (.bl (match t with | .var _ => true | .app _ _ => false))) := by
  cases t with
  | var x => rw [fv_var]; exact is_ss x
  | app f ts => rw [fv_app]; exact is_st _
end P
/-! R22: loops that draw and may return; told lists; how deep a grouped row is. -/
namespace P
open PySem PySem.Spec PyProof.Rows L2 G
/-! ### depths -/
theorem d_tup3 {w : Str} {p q : FV} {b : Nat} (hp : p.pure = true ∧ p.py.depth ≤ b) (hq : q.pure = true ∧ q.py.depth ≤ b) : (FV.tup [.str w, p, q]).pure = true ∧ (FV.tup [.str w, p, q]).py.depth ≤ b + 1 := by
  refine ⟨by simp [FV.pure, FV.pures, hp.1, hq.1], ?_⟩
  simp only [FV.py, FV.pys, PyData.depth, PyData.depthAll]
  omega
theorem d_tup2 {w : Str} {p : FV} {b : Nat} (hp : p.pure = true ∧ p.py.depth ≤ b) : (FV.tup [.str w, p]).pure = true ∧ (FV.tup [.str w, p]).py.depth ≤ b + 1 := by
  refine ⟨by simp [FV.pure, FV.pures, hp.1], ?_⟩
  simp only [FV.py, FV.pys, PyData.depth, PyData.depthAll]
  omega
end P
/-! R23: parts and rows: read, how deep, how long. -/
namespace P
open PySem PySem.Spec PyProof.Rows L2 G
section
variable (F R : List (Str × Nat)) (kn : List Str)
structure PrtD (f dp wd : Nat) (cl : Bool) (W : List Str) (d : FV) : Prop where
  rd : SimR F R kn f W d cl
  pu : d.pure = true
  dp : d.py.depth ≤ dp
  wd : W.length ≤ wd
  ws : ∀ x, x ∈ W → WS x
structure RowD (f dp wd : Nat) (cl : Bool) (W : List Str) (d : FV) (ls : List (Str × FV)) : Prop where
  rd : RowR F R kn f W d ls cl
  dp : ∀ x, x = d ∨ (∃ z, z ∈ ls ∧ x = z.2) → x.pure = true ∧ x.py.depth ≤ dp
  lk : ∀ x, x ∈ ls → x.1 ∈ pairsL
  wd : W.length ≤ wd
  ws : ∀ x, x ∈ W → WS x
structure SenD (f dp wd : Nat) (W : List Str) (d : FV) : Prop where
  rd : SenR F R kn f W d
  pu : d.pure = true
  dp : d.py.depth ≤ dp
  wd : W.length ≤ wd
  ws : ∀ x, x ∈ W → WS x
end
section
variable {F R : List (Str × Nat)} {kn : List Str} {f f2 dp dp2 wd wd2 : Nat} {cl : Bool} {W W2 : List Str} {d d2 : FV} {ls ls2 : List (Str × FV)}
theorem PrtD.up (h : PrtD F R kn f dp wd cl W d) (a : f ≤ f2) (b : dp ≤ dp2) (c : wd ≤ wd2) : PrtD F R kn f2 dp2 wd2 cl W d := ⟨h.rd.up a, h.pu, Nat.le_trans h.dp b, Nat.le_trans h.wd c, h.ws⟩
theorem RowD.up (h : RowD F R kn f dp wd cl W d ls) (a : f ≤ f2) (b : dp ≤ dp2) (c : wd ≤ wd2) : RowD F R kn f2 dp2 wd2 cl W d ls := ⟨h.rd.up a, fun x hx => ⟨(h.dp x hx).1, Nat.le_trans (h.dp x hx).2 b⟩, h.lk, Nat.le_trans h.wd c, h.ws⟩
theorem SenD.up (h : SenD F R kn f dp wd W d) (a : f ≤ f2) (b : dp ≤ dp2) (c : wd ≤ wd2) : SenD F R kn f2 dp2 wd2 W d := ⟨h.rd.up a, h.pu, Nat.le_trans h.dp b, Nat.le_trans h.wd c, h.ws⟩
theorem PrtD.row (h : PrtD F R kn f dp wd cl W d) : RowD F R kn f dp wd cl W d [] := by
  refine ⟨h.rd.row, fun x hx => ?_, (fun x hx => by cases hx), h.wd, h.ws⟩
  rcases hx with rfl | ⟨z, hz, _⟩
  · exact ⟨h.pu, h.dp⟩
  · cases hz
theorem pair_ws {o : Str} (h : o ∈ pairsL) : WS o := res_ws (by
  unfold pairsL at h
  unfold resS
  simp only [List.mem_cons, List.not_mem_nil, or_false] at h ⊢
  rcases h with h | h | h | h <;> simp [h])
theorem RowD.app {o : Str} (h : RowD F R kn f dp wd false W d ls) (ho : o ∈ pairsL) (h2 : RowD F R kn f dp wd2 cl W2 d2 ls2) : RowD F R kn f dp (wd + 1 + wd2) cl (W ++ o :: W2) d (ls ++ (o, d2) :: ls2) := ⟨h.rd.app ho h2.rd, fun x hx => by
  rcases hx with rfl | ⟨z, hz, rfl⟩
  · exact h.dp _ (.inl rfl)
  · rcases List.mem_append.mp hz with hz | hz
    · exact h.dp _ (.inr ⟨z, hz, rfl⟩)
    · rcases List.mem_cons.mp hz with rfl | hz
      · exact h2.dp _ (.inl rfl)
      · exact h2.dp _ (.inr ⟨z, hz, rfl⟩), fun x hx => by
  rcases List.mem_append.mp hx with hx | hx
  · exact h.lk x hx
  · rcases List.mem_cons.mp hx with rfl | hx
    · exact ho
    · exact h2.lk x hx, by
  have := h.wd; have := h2.wd
  rw [List.length_append, List.length_cons]; omega, fun x hx => by
  rcases List.mem_append.mp hx with hx | hx
  · exact h.ws x hx
  · rcases List.mem_cons.mp hx with rfl | hx
    · exact pair_ws ho
    · exact h2.ws x hx⟩
theorem PrtD.nt (h : PrtD F R kn f dp wd cl W d) : PrtD F R kn (f + 1) (dp + 1) (wd + 1) cl ("not" :: W) (.tup [.str "not", d]) := by
  have g := d_tup2 (w := "not") ⟨h.pu, h.dp⟩
  exact ⟨sim_not h.rd, g.1, g.2, Nat.succ_le_succ h.wd, fun x hx => by
    rcases List.mem_cons.mp hx with rfl | hx
    · exact res_ws (by decide +kernel)
    · exact h.ws x hx⟩
theorem RowD.nt (h : RowD F R kn f dp wd cl W d ls) : RowD F R kn (f + 1) (dp + 1) (wd + 1) cl ("not" :: W) (.tup [.str "not", d]) ls := by
  have g := d_tup2 (w := "not") (h.dp d (.inl rfl))
  refine ⟨h.rd.nt, fun x hx => ?_, h.lk, Nat.succ_le_succ h.wd, fun x hx => ?_⟩
  · rcases hx with rfl | hx
    · exact g
    · exact ⟨(h.dp x (.inr hx)).1, Nat.le_succ_of_le (h.dp x (.inr hx)).2⟩
  · rcases List.mem_cons.mp hx with rfl | hx
    · exact res_ws (by decide +kernel)
    · exact h.ws x hx
theorem SenD.bd {b x : Str} (ok : SgOk F R) (hb : b ∈ (["all", "some"] : List Str)) (hx : Nm false x) (hr : x ∉ resS) (hf : lookA F x = none) (h : SenD F R (kn ++ [x]) f dp wd W d) : PrtD F R kn (f + 2) (dp + 1) (wd + 3) true (b :: x :: "." :: W) (.tup [.str b, .str x, d]) := by
  have g := d_tup3 (w := b) (p := .str x) (q := d) (b := dp) ⟨rfl, Nat.zero_le _⟩ ⟨h.pu, h.dp⟩
  refine ⟨sim_bound ok hb hx hr hf h.rd, g.1, g.2, by
    have := h.wd
    rw [List.length_cons, List.length_cons, List.length_cons]; omega, fun y hy => ?_⟩
  rcases List.mem_cons.mp hy with rfl | hy
  · refine res_ws ?_
    unfold resS
    simp only [List.mem_cons, List.not_mem_nil, or_false] at hb ⊢
    rcases hb with h | h <;> simp [h]
  · rcases List.mem_cons.mp hy with rfl | hy
    · exact nm_ws hx
    · rcases List.mem_cons.mp hy with rfl | hy
      · exact mk_ws (by decide +kernel)
      · exact h.ws y hy
theorem eq_D (ok : SgOk F R) (hk : KnOk F kn) {t1 t2 : Tm} {D : Nat} (h1 : t1.gd F kn) (h2 : t2.gd F kn) (d1 : t1.dep ≤ D) (d2 : t2.dep ≤ D) (m : Str) (hm : m = "=" ∨ m = "!=") : PrtD F R kn (2 * D + 3) (D + 2) (2 * 6 ^ (D + 1) + 1) false (t1.ws ++ m :: t2.ws) (if m = "=" then .tup [.str "same", t1.fv, t2.fv] else .tup [.str "not", .tup [.str "same", t1.fv, t2.fv]]) := by
  have g := d_tup3 (w := "same") (p := t1.fv) (q := t2.fv) (b := D) ⟨fv_pure _, by rw [fv_depth]; exact d1⟩ ⟨fv_pure _, by rw [fv_depth]; exact d2⟩
  have g2 := d_tup2 (w := "not") g
  have l1 := len_ws (fun p hp => ok.ar p (List.mem_append_left _ hp)) D t1 d1 h1
  have l2 := len_ws (fun p hp => ok.ar p (List.mem_append_left _ hp)) D t2 d2 h2
  refine ⟨sim_eq ok hk h1 h2 d1 d2 m hm, ?_, ?_, by rw [List.length_append, List.length_cons]; omega, fun y hy => ?_⟩
  · split
    · exact g.1
    · exact g2.1
  · split
    · exact Nat.le_succ_of_le g.2
    · exact g2.2
  · rcases List.mem_append.mp hy with hy | hy
    · exact ws_words ok.fn (fun z hz => (hk z hz).1) D t1 d1 h1 y hy
    · rcases List.mem_cons.mp hy with rfl | hy
      · exact mk_ws (by rcases hm with rfl | rfl <;> decide +kernel)
      · exact ws_words ok.fn (fun z hz => (hk z hz).1) D t2 d2 h2 y hy
end
end P
/-! R24: texts of terms and sentences, and their words. -/
namespace P
open PySem PySem.Spec PyProof.Rows L2 G
/-! ### codes and words -/
/-- a text of these words -/
structure Tx (cs : List Nat) (W : List Str) (b0 b1 : Bool) : Prop where
  ex : ∃ ps g w, cs = jt ((g, w) :: ps) [] ∧ Gd2 false ((g, w) :: ps) ∧ (((g, w) :: ps).map fun q => mk q.2) = W ∧ nmB w = b0 ∧ lastB false ((g, w) :: ps) = b1
theorem Tx.one {x : Str} (h : WS x) : Tx (sgs x) [x] (nmB (sgs x)) (nmB (sgs x)) := ⟨[], [], sgs x, by show sgs x = [] ++ (sgs x ++ []); simp, ⟨(fun c hc => by cases hc), h.1, (fun z => by cases z), trivial⟩, by rw [List.map_cons, List.map_nil, mk_sgs], rfl, rfl⟩
theorem Tx.nm {x : Str} (h : WS x) : ∃ a b, Tx (sgs x) [x] a b := ⟨_, _, Tx.one h⟩
/-! ### terms -/
mutual
def Tm.cs : Tm → List Nat
  | .var x => sgs x
  | .app f ts => sgs f ++ Tm.csA ts
def Tm.csA : List Tm → List Nat
  | [] => []
  | t :: ts => 40 :: (t.cs ++ Tm.csR ts)
def Tm.csR : List Tm → List Nat
  | [] => [41]
  | t :: ts => 44 :: 32 :: (t.cs ++ Tm.csR ts)
end
theorem cs_var (x : Str) : (Tm.var x).cs = sgs x := by simp [Tm.cs]
theorem cs_app (f : Str) (ts : List Tm) : (Tm.app f ts).cs = sgs f ++ Tm.csA ts := by simp [Tm.cs]
theorem csA_nil : Tm.csA [] = [] := by simp [Tm.csA]
theorem csA_cons (t : Tm) (ts : List Tm) : Tm.csA (t :: ts) = 40 :: (t.cs ++ Tm.csR ts) := by simp [Tm.csA]
theorem csR_nil : Tm.csR [] = [41] := by simp [Tm.csR]
theorem csR_cons (t : Tm) (ts : List Tm) : Tm.csR (t :: ts) = 44 :: 32 :: (t.cs ++ Tm.csR ts) := by simp [Tm.csR]
theorem s_mks : sgs "(" = [40] ∧ sgs ")" = [41] ∧ sgs "," = [44] ∧ sgs "." = [46] ∧ sgs "=" = [61] ∧ sgs "!=" = [33, 61] ∧ sgs ", " = [44, 32] ∧ sgs " " = [32] ∧ sgs "" = [] ∧ sgs " = " = [32, 61, 32] ∧ sgs " != " = [32, 33, 61, 32] ∧ sgs "not " = [110, 111, 116, 32] ∧ sgs ". " = [46, 32] ∧ sgs "not" = [110, 111, 116] := by decide +kernel
/-! ### sentences -/
inductive Sn where
  | eq (a b : Tm) | at' (x : Str) (ts : List Tm) | nt (s : Sn) | bd (b x : Str) (s : Sn) | pr (o : Str) (a b : Sn)
def Sn.fv : Sn → FV
  | .eq a b => .tup [.str "same", a.fv, b.fv]
  | .at' x ts => .tup [.str "holds", (Tm.app x ts).fv]
  | .nt s => .tup [.str "not", s.fv]
  | .bd b x s => .tup [.str b, .str x, s.fv]
  | .pr o a b => .tup [.str o, a.fv, b.fv]
def Sn.dep : Sn → Nat
  | .eq _ _ => 0
  | .at' _ _ => 0
  | .nt s => s.dep + 1
  | .bd _ _ s => s.dep + 1
  | .pr _ a b => max a.dep b.dep + 1
def Sn.gd (F R : List (Str × Nat)) (D : Nat) : List Str → Sn → Prop
  | kn, .eq a b => a.gd F kn ∧ b.gd F kn ∧ a.dep ≤ D ∧ b.dep ≤ D
  | kn, .at' x ts => lookA R x = some ts.length ∧ ∀ t, t ∈ ts → t.gd F kn ∧ t.dep ≤ D
  | kn, .nt s => s.gd F R D kn
  | kn, .bd b x s => b ∈ (["all", "some"] : List Str) ∧ (Nm false x ∧ x ∉ resS ∧ lookA F x = none) ∧ s.gd F R D (kn ++ [x])
  | kn, .pr o a b => o ∈ pairsL ∧ a.gd F R D kn ∧ b.gd F R D kn
/-- it ends with a binder's sentence -/
def Sn.op : Sn → Bool
  | .nt s => s.op
  | .bd _ _ _ => true
  | _ => false
def brk (c : Bool) (W : List Str) : List Str := if c = true then "(" :: (W ++ ([")"] : List Str)) else W
def bcs (c : Bool) (l : List Nat) : List Nat := if c = true then 40 :: (l ++ [41]) else l
/-- its text -/
def Sn.cs : Sn → List Nat
  | .eq a b => a.cs ++ (32 :: ([61] ++ (32 :: b.cs)))
  | .at' x ts => sgs x ++ Tm.csA ts
  | .nt s => match s with
    | .eq a b => a.cs ++ (32 :: ([33, 61] ++ (32 :: b.cs)))
    | s => sgs "not" ++ (32 :: s.cs)
  | .bd b x s => sgs b ++ (32 :: (sgs x ++ ([46] ++ (32 :: s.cs))))
  | .pr o a b => [40] ++ ((bcs a.op a.cs ++ (32 :: (sgs o ++ (32 :: b.cs)))) ++ [41])
/-! ### joined texts -/
theorem join_csn (a x : Str) : ∀ (n : Nat) (l : List Str), l.length = n → sgs (Txt.join a (x :: l)) = sgs x ++ l.flatMap fun y => sgs a ++ sgs y
  | 0, l, h => by
    rw [List.length_eq_zero_iff.mp h, join_one]; simp
  | n + 1, l, h => by
    have ne : l ≠ [] := by rintro rfl; cases h
    obtain ⟨m, y, rfl⟩ : ∃ m y, l = m ++ [y] := ⟨_, _, (List.dropLast_concat_getLast ne).symm⟩
    rw [List.length_append] at h
    rw [join_snoc, sgs_app, sgs_app, join_csn a x n m (Nat.succ.inj h), List.flatMap_append, List.append_assoc, List.append_assoc]
    simp
theorem join_cs (a : Str) (l : List Str) (x : Str) : sgs (Txt.join a (x :: l)) = sgs x ++ l.flatMap fun y => sgs a ++ sgs y := join_csn a x l.length l rfl
def catS (ys : List Str) : List Nat := ys.flatMap sgs
theorem join0 (ys : List Str) : sgs (Txt.join "" ys) = catS ys := by
  cases ys with
  | nil => decide +kernel
  | cons y ys =>
    rw [join_cs, s_mks.2.2.2.2.2.2.2.2.1]
    simp [catS]
end P
/-! R25: rows of words that end too early or go on too long; sentences read. -/
namespace P
open PySem PySem.Spec PyProof.Rows L2 G
def tw : Nat → Nat
  | 0 => 1
  | d + 1 => 3 * tw d + 5
theorem len_tw {F : List (Str × Nat)} {kn : List Str} (ha : ∀ p, p ∈ F → p.2 ≤ 3) : ∀ (d : Nat) (t : Tm), t.dep ≤ d → t.gd F kn → t.ws.length ≤ tw d
  | d, .var x, _, _ => by
    rw [ws_var]
    cases d with
    | zero => exact Nat.le_refl _
    | succ d => show 1 ≤ 3 * tw d + 5; omega
  | 0, .app f ts, h, _ => by rw [dep_app] at h; omega
  | d + 1, .app f ts, h, hg => by
    rw [dep_app] at h
    obtain ⟨h1, h2, h3⟩ := gd_app.mp hg
    have l3 : ts.length ≤ 3 := ha _ (lookA_mem' h1)
    have := argw_len (B := tw d) ts (fun u hu => by
      have := deps_mem hu
      exact len_tw ha d u (by omega) (h3 u hu)) "("
    have e1 := endw_len ts
    have m3 : ts.length * (tw d + 1) ≤ 3 * (tw d + 1) := Nat.mul_le_mul_right _ l3
    rw [ws_app, List.length_cons, List.length_append]
    show _ ≤ 3 * tw d + 5
    omega
theorem eq_D' {F R : List (Str × Nat)} {kn : List Str} (ok : SgOk F R) (hk : KnOk F kn) {t1 t2 : Tm} {D : Nat} (h1 : t1.gd F kn) (h2 : t2.gd F kn) (d1 : t1.dep ≤ D) (d2 : t2.dep ≤ D) (m : Str) (hm : m = "=" ∨ m = "!=") : PrtD F R kn (2 * D + 3) (D + 2) (2 * tw D + 1) false (t1.ws ++ m :: t2.ws) (if m = "=" then .tup [.str "same", t1.fv, t2.fv] else .tup [.str "not", .tup [.str "same", t1.fv, t2.fv]]) := by
  have A := eq_D ok hk h1 h2 d1 d2 m hm
  refine ⟨A.rd, A.pu, A.dp, ?_, A.ws⟩
  have l1 := len_tw (fun p hp => ok.ar p (List.mem_append_left _ hp)) D t1 d1 h1
  have l2 := len_tw (fun p hp => ok.ar p (List.mem_append_left _ hp)) D t2 d2 h2
  rw [List.length_append, List.length_cons]; omega
/-! ### too short, too long -/
theorem mkk_no {w : W3} {m : Str} (r : List W3) (h : w.1 ≠ m) : mkk m (w :: r) = .bad (w :: r) := by
  show (if decide (w.1 = m) = true then _ else _) = _
  rw [decide_eq_false h, if_neg Bool.false_ne_true]
theorem bad_bind {α β : Type} (r : List W3) (k : α → List W3 → Res β) : (Res.bad r : Res α).bind k = .bad r := rfl
theorem bad_map {α β : Type} (r : List W3) (k : α → β) : (Res.bad r : Res α).map k = .bad r := rfl
section
variable {F R : List (Str × Nat)} {kn : List Str}
theorem nm_ne0 {cap : Bool} {x : Str} (h : Nm cap x) : x ≠ "" := fun e => by
  have := h.lo
  rw [e] at this
  revert this; decide
theorem e_F (ok : SgOk F R) : lookA F "" = none := lookA_none.mpr fun z => by
  obtain ⟨p, hp, e⟩ := List.mem_map.mp z
  exact nm_ne0 (ok.fn p hp) e
theorem e_kn (hk : KnOk F kn) : ("" : Str) ∉ kn := fun z => nm_ne0 (hk _ z).1 rfl
theorem term_end (ok : SgOk F R) (hk : KnOk F kn) {g : Nat} (hg : 1 ≤ g) {e : W3} (he : e.1 = "") (r : List W3) : (rd F R g).term kn (e :: r) = .bad (e :: r) := by
  obtain ⟨g, rfl⟩ : ∃ k, g = k + 1 := ⟨g - 1, by omega⟩
  show (if e.1 ∈ kn then _ else (tk (lookA F e.1).isSome (e :: r)).bind _) = _
  rw [he, if_neg (e_kn hk), e_F ok]; rfl
theorem e_no : ("" : Str) ≠ "not" ∧ ("" : Str) ∉ (["all", "some"] : List Str) ∧ ("" : Str) ≠ "(" ∧ ("" : Str) ∉ pairsL ∧ ("" : Str) ≠ ")" := by decide +kernel
theorem rd_args_end {q : Rd} {f : Str} {ts : List Tm} (hn : ts ≠ []) (ha : arOf F R f = some ts.length) (ht : ∀ t, t ∈ ts → ∀ u r, TX u = t.ws → q.term kn (u ++ r) = .ok t.fv r) {e : W3} (he : e.1 = "") (u : List W3) (h : TX u = Tm.argw "(" ts) : argsB F R q f kn (u ++ [e]) = .bad [e] := by
  unfold argsB
  rw [ha]
  cases ts with
  | nil => exact absurd rfl hn
  | cons t ts =>
    have := rd_many (t :: ts) ht "(" u [e] h
    show ((many (q.term kn) (marks "(" (t :: ts).length) _).bind fun xs r => (mkk ")" r).map fun _ => xs) = _
    rw [this, bind_ok, mkk_no _ (by rw [he]; exact e_no.2.2.2.2)]; rfl
theorem drop_snoc {α : Type} (l : List α) (x : α) : (l ++ [x]).dropLast = l := List.dropLast_concat
theorem ws_ne (t : Tm) : t.ws ≠ [] := by
  cases t with
  | var x => rw [ws_var]; simp
  | app f ts => rw [ws_app]; simp
theorem args_drop (f : Str) (t : Tm) (ts : List Tm) : (f :: (Tm.argw "(" (t :: ts) ++ endw (t :: ts))).dropLast = f :: Tm.argw "(" (t :: ts) := by
  show (f :: (Tm.argw "(" (t :: ts) ++ ([")"] : List Str))).dropLast = _
  rw [← List.cons_append, drop_snoc]
theorem term_short (ok : SgOk F R) (hk : KnOk F kn) {d : Nat} {t : Tm} (hd : t.dep ≤ d) (h : t.gd F kn) {g : Nat} (hg : 2 * d + 1 ≤ g) {u : List W3} (hu : TX u = t.ws.dropLast) {e : W3} (he : e.1 = "") : (rd F R g).term kn (u ++ [e]) = .bad [e] := by
  cases t with
  | var x =>
    rw [ws_var] at hu
    rw [TX_nil hu]
    exact term_end ok hk (by omega) he []
  | app f ts =>
    rw [ws_app] at hu
    cases ts with
    | nil =>
      rw [argw_nil] at hu
      rw [TX_nil hu]
      exact term_end ok hk (by omega) he []
    | cons t ts =>
      rw [args_drop] at hu
      obtain ⟨w, u2, rfl, hw, hu2⟩ := TX_cons hu
      rw [dep_app] at hd
      obtain ⟨g, rfl⟩ : ∃ k, g = k + 2 := ⟨g - 2, by omega⟩
      obtain ⟨h1, h2, h3⟩ := gd_app.mp h
      have ar : arOf F R f = some (t :: ts).length := by unfold arOf; rw [h1]
      have A := rd_args_end (R := R) (kn := kn) (q := rd F R g) (by simp) ar (fun t ht u r hu => rd_term (d - 1) t (by have := deps_mem ht; omega) (h3 t ht) g (by omega) u r hu) he u2 hu2
      show (if w.1 ∈ kn then _ else (tk (lookA F w.1).isSome (w :: (u2 ++ [e]))).bind fun nm r => ((rd F R (g + 1)).args nm kn r).map fun xs => FV.tup (.str nm :: xs)) = _
      rw [hw, if_neg h2, h1]
      show ((argsB F R (rd F R g) w.1 kn (u2 ++ [e])).map fun xs => FV.tup (.str w.1 :: xs)) = _
      rw [hw, A]; rfl
end
section
variable (F R : List (Str × Nat)) (kn : List Str)
structure Ful (f dp wd : Nat) (cl : Bool) (W : List Str) (d : FV) : Prop where
  p : PrtD F R kn f dp wd cl W d
  e : ∀ g, f ≤ g → ∀ u z, TX u = W.dropLast → z.1 = ("" : Str) → (rd F R g).simp kn (u ++ [z]) = .bad [z]
  x : cl = true → ∀ g, f ≤ g → ∀ u o z, TX u = W → o.1 ∈ pairsL → z.1 = ("" : Str) → (rd F R g).simp kn (u ++ [o, z]) = .bad [z]
  ne : W ≠ []
structure FulS (f dp wd : Nat) (W : List Str) (d : FV) : Prop where
  p : SenD F R kn f dp wd W d
  e : ∀ g, f ≤ g → ∀ u z, TX u = W.dropLast → z.1 = ("" : Str) → (rd F R g).sent kn (u ++ [z]) = .bad [z]
  x : ∀ g, f ≤ g → ∀ u o z, TX u = W → o.1 ∈ pairsL → z.1 = ("" : Str) → (rd F R g).sent kn (u ++ [o, z]) = .bad [z]
  ne : W ≠ []
end
section
variable {F R : List (Str × Nat)} {kn : List Str} {f f2 dp dp2 wd wd2 : Nat} {cl : Bool} {W W2 : List Str} {d d2 : FV}
theorem Ful.up (h : Ful F R kn f dp wd cl W d) (a : f ≤ f2) (b : dp ≤ dp2) (c : wd ≤ wd2) : Ful F R kn f2 dp2 wd2 cl W d := ⟨h.p.up a b c, fun g hg => h.e g (by omega), fun z g hg => h.x z g (by omega), h.ne⟩
theorem FulS.up (h : FulS F R kn f dp wd W d) (a : f ≤ f2) (b : dp ≤ dp2) (c : wd ≤ wd2) : FulS F R kn f2 dp2 wd2 W d := ⟨h.p.up a b c, fun g hg => h.e g (by omega), fun g hg => h.x g (by omega), h.ne⟩
theorem Ful.eq (ok : SgOk F R) (hk : KnOk F kn) {t1 t2 : Tm} {D : Nat} (h1 : t1.gd F kn) (h2 : t2.gd F kn) (d1 : t1.dep ≤ D) (d2 : t2.dep ≤ D) (m : Str) (hm : m = "=" ∨ m = "!=") : Ful F R kn (2 * D + 3) (D + 2) (2 * tw D + 1) false (t1.ws ++ m :: t2.ws) (if m = "=" then .tup [.str "same", t1.fv, t2.fv] else .tup [.str "not", .tup [.str "same", t1.fv, t2.fv]]) := by
  refine ⟨eq_D' ok hk h1 h2 d1 d2 m hm, fun g hg u z hu hz => ?_, (fun z => by cases z), by simp⟩
  have e : (t1.ws ++ m :: t2.ws).dropLast = t1.ws ++ m :: t2.ws.dropLast := by
    rw [List.dropLast_append_of_ne_nil (by simp), List.dropLast_cons_of_ne_nil (ws_ne t2)]
  rw [e] at hu
  obtain ⟨g, rfl⟩ : ∃ k, g = k + 2 := ⟨g - 2, by omega⟩
  obtain ⟨u1, u2, rfl, hu1, hu2⟩ := TX_app hu
  obtain ⟨v, u3, rfl, hv, hu3⟩ := TX_cons hu2
  obtain ⟨x, l, ex, nx, rx⟩ := term_hd ok hk h1
  obtain ⟨y, u4, rfl, hy, hu4⟩ := TX_cons (hu1.trans ex)
  have A := rd_term (R := R) D t1 d1 h1 g (by omega) (y :: u4) (v :: (u3 ++ [z])) hu1
  have B := term_short (R := R) ok hk d2 h2 (g := g) (by omega) hu3 hz
  obtain ⟨rb, rn, _⟩ := res_bind rx
  rw [List.append_assoc]
  show (if y.1 = "not" then _ else if y.1 ∈ (["all", "some"] : List Str) then _ else if y.1 = "(" then _ else if (lookA R y.1).isSome = true then _ else eqnB (rd F R g) kn (y :: u4 ++ (v :: (u3 ++ [z])))) = _
  rw [hy, if_neg rn, if_neg rb, if_neg (nm_br nx), sg_small ok nx, if_neg (by decide)]
  unfold eqnB
  rw [A, bind_ok, withW_c, hv, decide_eq_true (by rcases hm with rfl | rfl <;> decide), tk_t, bind_ok, B, bad_map]
theorem Ful.nt (h : Ful F R kn f dp wd cl W d) : Ful F R kn (f + 1) (dp + 1) (wd + 1) cl ("not" :: W) (.tup [.str "not", d]) := by
  refine ⟨h.p.nt, fun g hg u z hu hz => ?_, fun c g hg u o z hu ho hz => ?_, by simp⟩
  · obtain ⟨g, rfl⟩ : ∃ k, g = k + 1 := ⟨g - 1, by omega⟩
    rw [List.dropLast_cons_of_ne_nil h.ne] at hu
    obtain ⟨v, u2, rfl, hv, hu2⟩ := TX_cons hu
    show (if v.1 = "not" then (tk true (v :: (u2 ++ [z]))).bind (fun _ r => ((rd F R g).simp kn r).map fun p => FV.tup [.str "not", p]) else _) = _
    rw [if_pos hv, tk_t, bind_ok, h.e g (by omega) u2 z hu2 hz, bad_map]
  · obtain ⟨g, rfl⟩ : ∃ k, g = k + 1 := ⟨g - 1, by omega⟩
    obtain ⟨v, u2, rfl, hv, hu2⟩ := TX_cons hu
    show (if v.1 = "not" then (tk true (v :: (u2 ++ [o, z]))).bind (fun _ r => ((rd F R g).simp kn r).map fun p => FV.tup [.str "not", p]) else _) = _
    rw [if_pos hv, tk_t, bind_ok, h.x c g (by omega) u2 o z hu2 ho hz, bad_map]
theorem Ful.bd {b x : Str} (ok : SgOk F R) (hb : b ∈ (["all", "some"] : List Str)) (hx : Nm false x) (hr : x ∉ resS) (hf : lookA F x = none) (h : FulS F R (kn ++ [x]) f dp wd W d) : Ful F R kn (f + 2) (dp + 1) (wd + 3) true (b :: x :: "." :: W) (.tup [.str b, .str x, d]) := by
  have bn : b ≠ "not" := by
    rintro rfl
    revert hb; decide +kernel
  have go : ∀ (g : Nat) (v y z : W3) (r : List W3), v.1 = b → y.1 = x → z.1 = "." → (rd F R (g + 2)).simp kn (v :: y :: z :: r) = ((rd F R g).sent (kn ++ [x]) r).map fun p => FV.tup [.str b, .str x, p] := fun g v y z r hv hy hz => by
    show (if v.1 = "not" then _ else if v.1 ∈ (["all", "some"] : List Str) then boundB F R (rd F R g) kn (v :: y :: z :: r) else _) = _
    rw [hv, if_neg bn, if_pos hb]
    unfold boundB
    rw [tk_t, bind_ok, withW_c, hy, small_B hx hr, hf, sg_small ok hx]
    show ((tk true (y :: z :: r)).bind _) = _
    rw [tk_t, bind_ok, mkk_eq _ hz, bind_ok, hy, hv]
  refine ⟨h.p.bd ok hb hx hr hf, fun g hg u e hu he => ?_, fun _ g hg u o e hu ho he => ?_, by simp⟩
  · obtain ⟨g, rfl⟩ : ∃ k, g = k + 2 := ⟨g - 2, by omega⟩
    rw [List.dropLast_cons_of_ne_nil (by simp), List.dropLast_cons_of_ne_nil (by simp), List.dropLast_cons_of_ne_nil h.ne] at hu
    obtain ⟨v, u2, rfl, hv, hu2⟩ := TX_cons hu
    obtain ⟨y, u3, rfl, hy, hu3⟩ := TX_cons hu2
    obtain ⟨z, u4, rfl, hz, hu4⟩ := TX_cons hu3
    rw [List.cons_append, List.cons_append, List.cons_append, go g v y z _ hv hy hz, h.e g (by omega) u4 e hu4 he, bad_map]
  · obtain ⟨g, rfl⟩ : ∃ k, g = k + 2 := ⟨g - 2, by omega⟩
    obtain ⟨v, u2, rfl, hv, hu2⟩ := TX_cons hu
    obtain ⟨y, u3, rfl, hy, hu3⟩ := TX_cons hu2
    obtain ⟨z, u4, rfl, hz, hu4⟩ := TX_cons hu3
    rw [List.cons_append, List.cons_append, List.cons_append, go g v y z _ hv hy hz, h.x g (by omega) u4 o e hu4 ho he, bad_map]
/-! ### whole texts -/
theorem FulS.short (h : FulS F R kn f dp wd W d) {g : Nat} (l : f ≤ g) {ws : List W3} (hw : TX ws = W.dropLast ++ ([""] : List Str)) : ∃ z, ws.getLast? = some z ∧ z.1 = "" ∧ rdW F R g kn ws = .bad [z] := by
  obtain ⟨u, u2, rfl, hu, hu2⟩ := TX_app hw
  obtain ⟨z, u3, rfl, hz, hu3⟩ := TX_cons hu2
  rw [TX_nil hu3]
  refine ⟨z, by simp, hz, ?_⟩
  unfold rdW
  rw [h.e g l u z hu hz, bad_bind]
end
/-! ### texts of words with gaps -/
structure Jn (B : Nat) (W : List Str) (x : Str) : Prop where
  len : x.length ≤ B
  ex : ∃ ps e, sgs x = jt ps e ∧ Gd2 false ps ∧ Gp e ∧ (ps.map fun q => mk q.2) = W
theorem Jn.last {B : Nat} {W : List Str} {x : Str} (h : Jn B W x) : (sc 1 1 (sgs x)).getLast? = some (P.mk [], (adv (1, 1) (sgs x)).1, (adv (1, 1) (sgs x)).2) := by
  obtain ⟨ps, e, ex, gd, ge, m⟩ := h.ex
  rw [ex]
  refine (congrArg List.getLast? (sc_jt ps false e (1, 1) gd ge)).trans ?_
  rw [List.getLast?_concat]
/-! ### sentences as they are written -/
def sw (D : Nat) : Nat → Nat
  | 0 => 3 * tw D + 6
  | k + 1 => 2 * sw D k + 5
end P
/-! R26: terms and gaps drawn. -/
namespace P
open PySem PySem.Spec PyProof.Rows L2 G
/-! a text of words in the making -/
end P
/-! R27: terms on a stack. -/
namespace P
open PySem PySem.Spec PyProof.Rows L2 G
mutual
def Tm.nn : Tm → Nat
  | .var _ => 1
  | .app _ ts => 2 + Tm.nns ts
def Tm.nns : List Tm → Nat
  | [] => 0
  | t :: ts => t.nn + 1 + Tm.nns ts
end
theorem nn_var (x : Str) : (Tm.var x).nn = 1 := by simp [Tm.nn]
theorem nn_app (f : Str) (ts : List Tm) : (Tm.app f ts).nn = 2 + Tm.nns ts := by simp [Tm.nn]
theorem nns_nil : Tm.nns [] = 0 := by simp [Tm.nns]
theorem nns_cons (t : Tm) (ts : List Tm) : Tm.nns (t :: ts) = t.nn + 1 + Tm.nns ts := by simp [Tm.nns]
mutual
def Tm.sm : Tm → Prop
  | .var x => x.length ≤ 100
  | .app f ts => (1 ≤ f.length ∧ f.length ≤ 100) ∧ Tm.sms ts
def Tm.sms : List Tm → Prop
  | [] => True
  | t :: ts => t.sm ∧ Tm.sms ts
end
theorem sm_var {x : Str} : (Tm.var x).sm ↔ x.length ≤ 100 := by simp [Tm.sm]
theorem sms_iff : ∀ {ts : List Tm}, Tm.sms ts ↔ ∀ t, t ∈ ts → t.sm
  | [] => by simp [Tm.sms]
  | t :: ts => by simp [Tm.sms, sms_iff (ts := ts)]
theorem sm_app {f : Str} {ts : List Tm} : (Tm.app f ts).sm ↔ (1 ≤ f.length ∧ f.length ≤ 100) ∧ ∀ t, t ∈ ts → t.sm := by simp [Tm.sm, sms_iff]
/-- all that is on the stack -/
def nnL (ds : List Tm) : Nat := (ds.map Tm.nn).sum
theorem nnL_app (a b : List Tm) : nnL (a ++ b) = nnL a + nnL b := by unfold nnL; rw [List.map_append, List.sum_append]
theorem nnL_one (t : Tm) : nnL [t] = t.nn := by unfold nnL; simp
theorem nnL_len (ds : List Tm) : ds.length ≤ nnL ds := by
  induction ds with
  | nil => exact Nat.zero_le _
  | cons t ds ih =>
    have : 1 ≤ t.nn := by
      cases t with
      | var x => rw [nn_var]; exact Nat.le_refl _
      | app f ts => rw [nn_app]; omega
    unfold nnL at ih ⊢
    rw [List.map_cons, List.sum_cons, List.length_cons]; omega
def outL (ds : List Tm) : List Nat := ds.reverse.flatMap Tm.cs
theorem outL_snoc (ds : List Tm) (t : Tm) : outL (ds ++ [t]) = t.cs ++ outL ds := by unfold outL; simp
def pushL (us : List Tm) : List Tm := us.flatMap fun a => [a, .var ", "]
theorem csR_flat : ∀ us : List Tm, Tm.csR us = (us.flatMap fun a => [44, 32] ++ a.cs) ++ [41]
  | [] => by rw [csR_nil]; rfl
  | u :: us => by
    rw [csR_cons, csR_flat us]; simp
theorem outL_push (D : List Tm) : ∀ us : List Tm, outL (D ++ pushL us.reverse) = (us.flatMap fun a => [44, 32] ++ a.cs) ++ outL D
  | [] => by unfold pushL; simp
  | u :: us => by
    have e : pushL (u :: us).reverse = pushL us.reverse ++ [u, .var ", "] := by unfold pushL; simp
    rw [e, ← List.append_assoc, show ([u, Tm.var ", "] : List Tm) = [u] ++ [.var ", "] from rfl, ← List.append_assoc, outL_snoc, outL_snoc, outL_push D us, cs_var, s_mks.2.2.2.2.2.2.1]
    simp
theorem nnL_push : ∀ us : List Tm, nnL (pushL us.reverse) = Tm.nns us
  | [] => by rw [nns_nil]; rfl
  | u :: us => by
    have e : pushL (u :: us).reverse = pushL us.reverse ++ ([u] ++ [.var ", "]) := by unfold pushL; simp
    rw [e, nnL_app, nnL_app, nnL_push us, nnL_one, nnL_one, nn_var, nns_cons]
    omega
theorem mem_push {us : List Tm} {a : Tm} (h : a ∈ pushL us) : a ∈ us ∨ a = .var ", " := by
  unfold pushL at h
  obtain ⟨b, hb, h⟩ := List.mem_flatMap.mp h
  rcases List.mem_cons.mp h with rfl | h
  · exact .inl hb
  · exact .inr (by simpa using h)
theorem catS_app (a b : List Str) : catS (a ++ b) = catS a ++ catS b := by unfold catS; rw [List.flatMap_append]
theorem catS_one (a : Str) : catS [a] = sgs a := by unfold catS; simp
theorem sum_le {ys : List Str} {B : Nat} (h : ∀ y, y ∈ ys → y.length ≤ B) : (ys.map (·.length)).sum ≤ ys.length * B := by
  induction ys with
  | nil => exact Nat.zero_le _
  | cons y ys ih =>
    have := ih fun z hz => h z (List.mem_cons_of_mem _ hz)
    have := h y List.mem_cons_self
    rw [List.map_cons, List.sum_cons, List.length_cons, Nat.succ_mul]; omega
def nb : Nat → Nat
  | 0 => 1
  | d + 1 => 3 * nb d + 5
theorem two_len : ∀ us : List Tm, 2 * us.length ≤ Tm.nns us
  | [] => Nat.zero_le _
  | v :: us => by
    have := two_len us
    have : 1 ≤ v.nn := by
      cases v with
      | var x => rw [nn_var]; exact Nat.le_refl _
      | app f ts => rw [nn_app]; omega
    rw [nns_cons, List.length_cons]; omega
theorem while_stop {A β : Type} {t : A → M Bool} {F : A → M (Fl A A)} {fuel : Nat} {a : A} (ht : t a = pur false) : (whileN t F (fuel + 1) a : M (Fl A β)) = pur (.nx a) := by
  rw [whileN, ht, bnd_pur, if_neg Bool.false_ne_true]
theorem while_step {A β : Type} {t : A → M Bool} {F : A → M (Fl A A)} {fuel : Nat} {a a' : A} (ht : t a = pur true) (hF : F a = pur (.nx a')) : (whileN t F (fuel + 1) a : M (Fl A β)) = whileN t F fuel a' := by
  rw [whileN, ht, bnd_pur, if_pos rfl, hF, bnd_pur]
end P
/-! R28: sentences: heads, lengths of texts. -/
namespace P
open PySem PySem.Spec PyProof.Rows L2 G
def Sn.hd : Sn → Str
  | .eq _ _ => "same"
  | .at' _ _ => "holds"
  | .nt _ => "not"
  | .bd b _ _ => b
  | .pr o _ _ => o
/-- the terms of a sentence are small -/
def Sn.sm (B : Nat) : Sn → Prop
  | .eq a b => (a.sm ∧ a.nn ≤ B) ∧ b.sm ∧ b.nn ≤ B
  | .at' x ts => (Tm.app x ts).sm ∧ (Tm.app x ts).nn ≤ B
  | .nt s => s.sm B
  | .bd b x s => (b ∈ (["all", "some"] : List Str) ∧ x.length ≤ 12) ∧ s.sm B
  | .pr o a b => o ∈ pairsL ∧ a.sm B ∧ b.sm B
def sl : Nat → Nat
  | 0 => 220000
  | k + 1 => 2 * sl k + 50
end P
/-! R29: how long texts are; errors caught. -/
namespace P
open PySem PySem.Spec PyProof.Rows L2 G
end P
/-! R30: a term read with a stack, and by calls. -/
namespace P
open PySem PySem.Spec PyProof.Rows L2 G
structure Rw where
  ar : Nat
  nm : Str
  xs : List FV
def Agr {α : Type} (x : Res α) (m : Res FV) (k : α → List W3 → Res FV) : Prop := match x with
  | .ok a r => m = k a r
  | .bad z => m = .bad z
  | .no => True
theorem Agr.bind {α β : Type} {x : Res α} {m : Res FV} {k : α → List W3 → Res FV} {f : α → List W3 → Res β} {k' : β → List W3 → Res FV} (h : Agr x m k) (g : ∀ a r, Agr (f a r) (k a r) k') : Agr (x.bind f) m k' := by
  cases x with
  | no => trivial
  | bad z => exact h
  | ok a r =>
    have h : m = k a r := h
    rw [h]; exact g a r
theorem Agr.map {α β : Type} {x : Res α} {m : Res FV} {k : α → List W3 → Res FV} {f : α → β} {k' : β → List W3 → Res FV} (h : Agr x m k) (g : ∀ a r, k a r = k' (f a) r) : Agr (x.map f) m k' := h.bind fun a r => g a r
section
variable {F R : List (Str × Nat)} {kn : List Str}
/-! ### the calls end -/
def cO (ws : List Str) : Nat := ws.countP fun x => decide (x = ("(" : Str))
def cC (ws : List Str) : Nat := ws.countP fun x => decide (x = (")" : Str))
theorem cO_ap (u v : List Str) : cO (u ++ v) = cO u + cO v := List.countP_append
theorem cC_ap (u v : List Str) : cC (u ++ v) = cC u + cC v := List.countP_append
theorem br1 : cO ["("] = 1 ∧ cC ["("] = 0 ∧ cO [")"] = 0 ∧ cC [")"] = 1 := by decide +kernel
/-- no more than D brackets stand open -/
def Bnd (D : Nat) (ws : List Str) : Prop := ∀ p s, ws = p ++ s → cO p ≤ cC p + D
def Stop (F : List (Str × Nat)) (kn : List Str) (x : Str) : Prop := x ∉ kn ∧ lookA F x = none ∧ x ≠ "(" ∧ x ≠ "," ∧ x ≠ ")"
theorem Bnd.op {D : Nat} {v : List Str} (h : Bnd (D + 1) (([("(" : Str)] : List Str) ++ v)) : Bnd D v := fun p s e => by
  have := h (([("(" : Str)] : List Str) ++ p) s (by rw [e]; rfl)
  have b := br1
  rw [cO_ap, cC_ap] at this
  omega
theorem Bnd.no {v : List Str} (h : Bnd 0 (([("(" : Str)] : List Str) ++ v)) : False := by
  have := h [("(" : Str)] v rfl
  have b := br1
  omega
theorem Bnd.mono {D D' : Nat} {v : List Str} (h : Bnd D v) (l : D ≤ D') : Bnd D' v := fun p s e => Nat.le_trans (h p s e) (by omega)
def Nice (x : Str) : Prop := x ≠ "(" ∧ x ≠ ")"
theorem bal1 {x : Str} (h : Nice x) : cO [x] = cC [x] := by
  unfold cO cC
  rw [List.countP_cons, List.countP_cons, decide_eq_false h.1, decide_eq_false h.2]; rfl
end
end P
/-! R31: brackets of words, words spoilt. -/
namespace P
open PySem PySem.Spec PyProof.Rows L2 G
theorem Bnd.app {D : Nat} {u v : List Str} (hu : Bnd D u) (b : cO u = cC u) (hv : Bnd D v) : Bnd D (u ++ v) := fun p s e => by
  rcases List.append_eq_append_iff.mp e with ⟨t, e1, e2⟩ | ⟨t, e1, e2⟩
  · have := hv t s e2
    rw [e1, cO_ap, cC_ap]; omega
  · exact hu p t e1
theorem Bnd.nil (D : Nat) : Bnd D [] := fun p s e => by
  have : p = [] := (List.append_eq_nil_iff.mp e.symm).1
  rw [this]; exact Nat.zero_le _
theorem Bnd.one {x : Str} (h : Nice x) (D : Nat) : Bnd D [x] := fun p s e => by
  cases p with
  | nil => exact Nat.zero_le _
  | cons y p =>
    have e1 : y = x := (List.cons.inj e).1.symm
    have e2 : p = [] := (List.append_eq_nil_iff.mp (List.cons.inj e).2.symm).1
    rw [e1, e2, bal1 h]; omega
theorem Bnd.cut {D : Nat} {A B : List Str} (h : Bnd D (A ++ B)) : Bnd D A := fun p s e => h p (s ++ B) (by rw [e]; simp)
end P
/-! R32: texts of words among which bad signs may stand; the stack machine on words and on what is scanned. -/
namespace P
open PySem PySem.Spec PyProof.Rows L2 G
def pls (ps : List GW) : List (Nat × Nat) := (wsP (1, 1) ps).map (·.2)
/-- a bad sign -/
def BadC (c : Nat) : Prop := isMk c = false ∧ isSg c = false ∧ c ≠ 10 ∧ c ≠ 32
/-- a text with its words and their places, good so far or spoilt by a bad sign -/
def JxG (W : List Str) (pl : List (Nat × Nat)) (t : List Nat) (last : List Nat) : Prop := ∃ ps, t = jt ps [] ∧ Gd2 false ps ∧ (ps.map fun q => mk q.2) = W ∧ pl = pls ps ∧ nmB last = lastB false ps ∧ last ≠ [33]
def JxB (W : List Str) (pl : List (Nat × Nat)) (t : List Nat) (last : List Nat) : Prop := ∃ ps g c T W2 pl2, t = jt ps (g ++ (c :: T)) ∧ Gd2 false ps ∧ Gp g ∧ BadC c ∧ (c = 33 → T.head? ≠ some 61) ∧ (T = [] → c = 33 → last = [33]) ∧ W = (ps.map fun q => mk q.2) ++ mk [c] :: W2 ∧ pl = pls ps ++ adv (1, 1) (jt ps g) :: pl2
/-! ### the machine on words -/
end P
/-! R33: a text of words in the making, bad signs among them, and the places. -/
namespace P
open PySem PySem.Spec PyProof.Rows L2 G
structure Jv (W : List Str) (pl : List (Nat × Nat)) (k : Nat) (text last : Str) : Prop where
  ok : JxG W pl (sgs text) (sgs last) ∨ JxB W pl (sgs text) (sgs last)
  len : text.length ≤ k * 20
theorem Jv.nil : Jv [] [] 0 "" "(" := ⟨.inl ⟨[], by decide +kernel, trivial, rfl, rfl, by decide +kernel, by decide +kernel⟩, by decide +kernel⟩
end P
/-! R34: a stack of rows, told. -/
namespace P
open PySem PySem.Spec PyProof.Rows L2 G
def encR (r : Rw) : List FV := .int r.ar :: .str r.nm :: r.xs
def Rows (x : FH) : List Nat → List Rw → Prop
  | [], [] => True
  | i :: is, r :: rs => x[i]? = some (.lst (encR r)) ∧ Rows x is rs
  | _, _ => False
theorem Rows.len {x : FH} : ∀ {is : List Nat} {rs : List Rw}, Rows x is rs → is.length = rs.length
  | [], [], _ => rfl
  | i :: is, r :: rs, h => congrArg Nat.succ (Rows.len h.2)
  | [], _ :: _, h => h.elim
  | _ :: _, [], h => h.elim
theorem Rows.push {x : FH} {o : FO} : ∀ {is : List Nat} {rs : List Rw}, Rows x is rs → Rows (x ++ [o]) is rs
  | [], [], _ => trivial
  | i :: is, r :: rs, h => ⟨by rw [List.getElem?_append_left (List.getElem?_eq_some_iff.mp h.1).1]; exact h.1, Rows.push h.2⟩
  | [], _ :: _, h => h
  | _ :: _, [], h => h
theorem Rows.put {x : FH} {o : FO} {j : Nat} : ∀ {is : List Nat} {rs : List Rw}, Rows x is rs → j ∉ is → Rows (x.set j o) is rs
  | [], [], _, _ => trivial
  | i :: is, r :: rs, h, hj => ⟨by rw [List.getElem?_set_ne (show j ≠ i from fun e => hj (List.mem_cons.mpr (.inl e)))]; exact h.1, Rows.put h.2 fun z => hj (List.mem_cons_of_mem _ z)⟩
  | [], _ :: _, h, _ => h
  | _ :: _, [], h, _ => h
theorem Rows.lt {x : FH} : ∀ {is : List Nat} {rs : List Rw}, Rows x is rs → ∀ i, i ∈ is → i < x.length
  | [], [], _, _, h => by cases h
  | i :: is, r :: rs, h, j, hj => by
    rcases List.mem_cons.mp hj with rfl | hj
    · exact (List.getElem?_eq_some_iff.mp h.1).1
    · exact Rows.lt h.2 j hj
  | [], _ :: _, h, _, _ => h.elim
  | _ :: _, [], h, _, _ => h.elim
def refs (n : Nat) (is : List Nat) : List FV := is.reverse.map fun i => .ref (n + i)
/-- the stack stands in the heap behind n objects -/
structure Hs (n : Nat) (x : FH) (is : List Nat) (rs : List Rw) : Prop where
  top : x[0]? = some (.lst (refs n is))
  rows : Rows x is rs
  nd : (0 :: is).Nodup
theorem Hs.new (n : Nat) : Hs n [.lst []] [] [] := ⟨rfl, trivial, by simp⟩
theorem get_n {h x : FH} {i : Nat} : (h ++ x)[h.length + i]? = x[i]? := by rw [List.getElem?_append_right (Nat.le_add_right _ _), Nat.add_sub_cancel_left]
section
variable {h x : FH} {is : List Nat} {rs : List Rw}
theorem Hs.pos (H : Hs h.length x is rs) : 0 < x.length := (List.getElem?_eq_some_iff.mp H.top).1
theorem Hs.row {i : Nat} {r : Rw} (H : Hs h.length x (i :: is) (r :: rs)) : (h ++ x)[h.length + i]? = some (.lst (encR r)) ∧ (h ++ x.set 0 (FO.lst (refs h.length is)))[h.length + i]? = some (.lst (encR r)) := by
  have n0 : 0 ∉ i :: is := (List.nodup_cons.mp H.nd).1
  rw [get_n, get_n, List.getElem?_set_ne (show 0 ≠ i from fun e => n0 (List.mem_cons.mpr (.inl e)))]
  exact ⟨H.rows.1, H.rows.1⟩
end
end P
/-! R35: what is read of a term. -/
namespace P
open PySem PySem.Spec PyProof.Rows L2 G
theorem nm_nice {x : Str} (h : Nm false x) : Nice x := ⟨nm_ne h (c := 40) (l := []) (by decide +kernel) (by decide), nm_ne h (c := 41) (l := []) (by decide +kernel) (by decide)⟩
theorem stops {F : List (Str × Nat)} {kn : List Str} (hF : ∀ x, (lookA F x).isSome = true → Nm false x) (hk : ∀ x, x ∈ kn → Nm false x) : (∀ x, (x ∈ kn ∨ (lookA F x).isSome = true) → Nice x) ∧ Stop F kn "" ∧ ∀ c, BadC c → Stop F kn (P.mk [c]) ∧ P.mk [c] ≠ "" := by
  have st : ∀ x : Str, (Nm false x → False) → x ≠ "(" → x ≠ "," → x ≠ ")" → Stop F kn x := fun x no a b c => by
    refine ⟨fun z => no (hk x z), ?_, a, b, c⟩
    cases e : lookA F x with
    | none => rfl
    | some k => exact (no (hF x (by rw [e]; rfl))).elim
  refine ⟨fun x hx => nm_nice (hx.elim (hk x) (hF x)), st "" (fun h => ?_) (by decide +kernel) (by decide +kernel) (by decide +kernel), fun c bc => ⟨st _ (fun h => ?_) (fun z => ?_) (fun z => ?_) (fun z => ?_), fun z => ?_⟩⟩
  · obtain ⟨c, l, e, _⟩ := h.hd
    rw [show sgs "" = [] by decide +kernel] at e; cases e
  · have := h.sg c (by rw [sgs_mk]; exact List.mem_cons_self)
    rw [bc.2.1] at this; cases this
  · have e := (congrArg sgs z).trans (show sgs "(" = [40] by decide +kernel)
    cases e; exact absurd bc.1 (by decide)
  · have e := (congrArg sgs z).trans (show sgs "," = [44] by decide +kernel)
    cases e; exact absurd bc.1 (by decide)
  · have e := (congrArg sgs z).trans (show sgs ")" = [41] by decide +kernel)
    cases e; exact absurd bc.1 (by decide)
  · have e := (congrArg sgs z).trans (show sgs "" = [] by decide +kernel)
    cases e
end P
/-! R36: names near others. -/
namespace P
open PySem PySem.Spec PyProof.Rows L2 G
end P
/-! R37: the parts of a term in preorder. -/
namespace P
open PySem PySem.Spec PyProof.Rows L2 G
mutual
def Tm.pre : Tm → List Tm
  | .var x => [.var x]
  | .app f ts => .app f ts :: Tm.pres ts
def Tm.pres : List Tm → List Tm
  | [] => []
  | t :: ts => t.pre ++ Tm.pres ts
end
theorem pre_var (x : Str) : (Tm.var x).pre = [.var x] := by simp [Tm.pre]
theorem pre_app (f : Str) (ts : List Tm) : (Tm.app f ts).pre = .app f ts :: Tm.pres ts := by simp [Tm.pre]
theorem pres_nil : Tm.pres [] = [] := by simp [Tm.pres]
theorem pres_cons (t : Tm) (ts : List Tm) : Tm.pres (t :: ts) = t.pre ++ Tm.pres ts := by simp [Tm.pres]
theorem pres_flat : ∀ ts : List Tm, Tm.pres ts = ts.flatMap Tm.pre
  | [] => by rw [pres_nil]; rfl
  | t :: ts => by rw [pres_cons, pres_flat ts, List.flatMap_cons]
def Tm.args : Tm → List Tm
  | .var _ => []
  | .app _ ts => ts
theorem pre_args (t : Tm) : t.pre = t :: t.args.flatMap Tm.pre := by
  cases t with
  | var x => rw [pre_var]; rfl
  | app f ts => rw [pre_app, pres_flat]; rfl
theorem nns_sum : ∀ ts : List Tm, Tm.nns ts = nnL ts + ts.length
  | [] => by rw [nns_nil]; rfl
  | t :: ts => by
    rw [nns_cons, nns_sum ts]
    unfold nnL
    rw [List.map_cons, List.sum_cons, List.length_cons]; omega
theorem nnL_args (t : Tm) : nnL t.args + t.args.length + 1 ≤ t.nn := by
  cases t with
  | var x => rw [nn_var]; exact Nat.le_refl _
  | app f ts =>
    rw [nn_app, nns_sum]
    show nnL ts + ts.length + 1 ≤ _
    omega
theorem nnL_rev (ts : List Tm) : nnL ts.reverse = nnL ts := by
  unfold nnL
  rw [List.map_reverse, List.sum_reverse]
/-- what is still to come of a stack -/
def prL (ds : List Tm) : List Tm := ds.reverse.flatMap Tm.pre
theorem prL_snoc (ds : List Tm) (t : Tm) : prL (ds ++ [t]) = t.pre ++ prL ds := by unfold prL; simp
theorem prL_args (ds : List Tm) (t : Tm) : t :: prL (ds ++ t.args.reverse) = t.pre ++ prL ds := by
  unfold prL
  rw [pre_args, List.reverse_append, List.reverse_reverse, List.flatMap_append]; rfl
theorem rev_tup (ds : List FV) : oU (gRevS none) (.v (.tup ds)) = pur (.v (.tup ds.reverse)) := lift_ok fun s => rfl
theorem oLu_t (ds : List FV) : oLu (.tup ds) = pur ds := rfl
end P
/-! the program as plain functions -/
namespace Q87
open PySem P
noncomputable section
def c_TOP : FV := (.tup [(.str "")])
structure Tab where
  d_unknowns_of : FV → M RV
  d_fill_term : FV → FV → M RV
  d_term_text : FV → M RV
  d_arguments : FV → M RV
  d_all_parts : FV → M RV
  d_make_literal : FV → FV → FV → M RV
  d_literal_text : FV → M RV
  d_opposite : FV → M RV
  d_make_clause : FV → M RV
  d_fill_clause : FV → FV → M RV
  d_clause_text : FV → M RV
  d_clause_unknowns : FV → M RV
  d_is_ground : FV → M RV
  d_always_true : FV → M RV
  d_fill_literal : FV → FV → M RV
  d_law_start : FV → M RV
  d_law_take : FV → FV → M RV
  d_law_term : FV → FV → M RV
  d_law_literal : FV → M RV
  d_law_text : FV → M RV
  d_law_formed : FV → M RV
  d_law_said : FV → M RV
  d_law_clause : FV → M RV
  d_law_filled : FV → FV → M RV
  d_law_names : FV → M RV
  d_law : FV → M RV
def n_unknowns_of (t : Tab) (v_term : FV) : M (Fl Unit Empty) :=
  (bnd (mD (pur (.d []))) fun found_1 => (bnd (bnd (mV (t.d_all_parts v_term)) fun v_2 => (oW v_2)) fun xs_9 => seqN (forN (fun found_4 part_3 => (bnd (bnd (oU (gIs "str") (.v part_3)) fun t_5 => (oT t_5)) fun c_6 => if c_6 = true then (bnd (oPut found_4 (.v part_3) (.bl true)) fun found_7 => (pur (.nx found_7))) else (pur (.nx found_4)))) xs_9 found_1) (fun found_8 => (ret (oU gList (.bd found_8))))))
def n_fill_term (t : Tab) (v_term v_filling : FV) : M (Fl Unit Empty) :=
  (bnd (bnd (oU (gIs "str") (.v v_term)) fun t_1 => (oT t_1)) fun c_2 => if c_2 = true then ret (bnd (oDk (.v v_filling)) fun _ => (oGet (.v v_filling) v_term v_term)) else (ret (bnd (oSl (.v v_term) none (some 1)) fun t_7 => (bnd (bnd (bnd (bnd (mV (oSl (.v v_term) (some 1) none)) fun v_3 => (oW v_3)) (filL (item some (fun argument_4 => (pur true)) (fun argument_4 => (t.d_fill_term argument_4 v_filling))))) fun t_6 => (oU gTup t_6)) fun t_8 => (oB gAdd t_7 t_8)))))
def n_term_text (t : Tab) (v_term : FV) : M (Fl Unit Empty) :=
  (bnd (mL (oLst [])) fun texts_1 => (bnd (mL (oLst [v_term])) fun due_2 => (seqN (whileN (fun | (texts_3, due_4) => (bnd (oU gLen (.bl due_4)) fun t_5 => (oC gGt t_5 (.v (.int 0))))) (fun | (texts_3, due_4) => (bnd (oPopO due_4) (fun | (part_7, due_6) => (bnd (bnd (oU (gIs "str") (.v part_7)) fun t_8 => (oT t_8)) fun c_9 => if c_9 = true then (bnd (oApp texts_3 part_7) fun texts_10 => (pur (.nx (texts_10, due_6)))) else (bnd (oC (gQ false) (.v part_7) (.v c_TOP)) fun c_11 => if c_11 = true then (bnd (oApp texts_3 (.str "true")) fun texts_12 => (pur (.nx (texts_12, due_6)))) else (bnd (bnd (oU gLen (.v part_7)) fun t_13 => (oC (gQ false) t_13 (.v (.int 1)))) fun c_14 => if c_14 = true then (bnd (mV (oB gIx (.v part_7) (.v (.int 0)))) fun v_16 => (bnd (oApp texts_3 v_16) fun texts_15 => (pur (.nx (texts_15, due_6))))) else (bnd (mV (bnd (oB gIx (.v part_7) (.v (.int 0))) fun t_18 => (oB gAdd t_18 (.v (.str "("))))) fun v_30 => (bnd (oApp texts_3 v_30) fun texts_17 => (bnd (oApp due_6 (.str ")")) fun due_19 => (bnd (bnd (mV (oU (gRevS (some 1)) (.v part_7))) fun v_20 => (oW v_20)) fun xs_29 => seqN (forN (fun due_22 argument_21 => (bnd (mV (oLst [argument_21, (.str ", ")])) fun v_25 => (bnd (oL v_25) fun es_24 => bnd (oExt due_22 es_24) fun due_23 => (pur (.nx due_23))))) xs_29 due_19) (fun due_26 => (bnd (mV (oB gIx (.v part_7) (.v (.int 1)))) fun v_28 => (bnd (oApp due_26 v_28) fun due_27 => (pur (.nx (texts_17, due_27)))))))))))))))) FUEL (texts_1, due_2)) (fun | (texts_32, due_33) => (ret (oB gJoin (.v (.str "")) (.bl texts_32)))))))
def n_arguments (t : Tab) (v_term : FV) : M (Fl Unit Empty) :=
  (bnd (bnd (oU (gIs "str") (.v v_term)) fun t_1 => (oT t_1)) fun c_2 => if c_2 = true then ret (oTup []) else (ret (oSl (.v v_term) (some 1) none)))
def n_all_parts (t : Tab) (v_term : FV) : M (Fl Unit Empty) :=
  (bnd (mL (oLst [])) fun parts_1 => (bnd (mL (oLst [v_term])) fun due_2 => (seqN (whileN (fun | (parts_3, due_4) => (bnd (oU gLen (.bl due_4)) fun t_5 => (oC gGt t_5 (.v (.int 0))))) (fun | (parts_3, due_4) => (bnd (oPopO due_4) (fun | (part_7, due_6) => (bnd (oApp parts_3 part_7) fun parts_8 => (bnd (mV (bnd (t.d_arguments part_7) fun t_10 => (oU (gRevS none) t_10))) fun v_12 => (bnd (oLu v_12) fun es_11 => bnd (oExt due_6 es_11) fun due_9 => (pur (.nx (parts_8, due_9))))))))) FUEL (parts_1, due_2)) (fun | (parts_14, due_15) => (pur (.rt (.l parts_14)))))))
def n_make_literal (t : Tab) (v_sign v_left v_right : FV) : M (Fl Unit Empty) :=
  (bnd (oC (gQ false) (.v v_right) (.v c_TOP)) fun c_1 => if c_1 = true then ret (oTup [v_sign, v_left, v_right]) else (bnd (mOr (oC (gQ false) (.v v_left) (.v c_TOP)) (bnd (t.d_term_text v_right) fun t_2 => (bnd (t.d_term_text v_left) fun t_3 => (oC gLt t_2 t_3)))) fun c_4 => if c_4 = true then ret (oTup [v_sign, v_right, v_left]) else (ret (oTup [v_sign, v_left, v_right]))))
def n_literal_text (t : Tab) (v_literal : FV) : M (Fl Unit Empty) :=
  (bnd (pur v_literal) fun d => bindT (bTup (bCons some (bCons some (bCons some bNil)))) d fun | (sign_3, (left_2, (right_1, ()))) => (bnd (mAnd (oC (gQ false) (.v right_1) (.v c_TOP)) (oC (gQ true) (.v left_2) (.v c_TOP))) fun c_4 => if c_4 = true then ret (bnd (oT (.v sign_3)) fun c_6 => if c_6 = true then (t.d_term_text left_2) else (bnd (t.d_term_text left_2) fun t_5 => (oB gAdd (.v (.str "not ")) t_5))) else (bnd (mV (bnd (oT (.v sign_3)) fun c_7 => if c_7 = true then (pur (.v (.str " = "))) else (pur (.v (.str " != "))))) fun mark_8 => (ret (bnd (bnd (t.d_term_text left_2) fun t_9 => (oB gAdd t_9 (.v mark_8))) fun t_10 => (bnd (t.d_term_text right_1) fun t_11 => (oB gAdd t_10 t_11)))))))
def n_opposite (t : Tab) (v_literal : FV) : M (Fl Unit Empty) :=
  (bnd (pur v_literal) fun d => bindT (bTup (bCons some (bCons some (bCons some bNil)))) d fun | (sign_3, (left_2, (right_1, ()))) => (ret (bnd (mV (oNotV (.v sign_3))) fun v_4 => (oTup [v_4, left_2, right_1]))))
def n_make_clause (t : Tab) (v_literals : FV) : M (Fl Unit Empty) :=
  (bnd (mL (oLst [])) fun clause_1 => (bnd (bnd (mV (oSortK t.d_literal_text (.v v_literals))) fun v_2 => (oW v_2)) fun xs_8 => seqN (forN (fun clause_4 literal_3 => (bnd (oC (gMx true) (.v literal_3) (.bl clause_4)) fun c_5 => if c_5 = true then (bnd (oApp clause_4 literal_3) fun clause_6 => (pur (.nx clause_6))) else (pur (.nx clause_4)))) xs_8 clause_1) (fun clause_7 => (ret (oU gTup (.bl clause_7))))))
def n_fill_clause (t : Tab) (v_clause v_filling : FV) : M (Fl Unit Empty) :=
  (ret (bnd (mV (bnd (oW v_clause) (filL (item some (fun literal_1 => (pur true)) (fun literal_1 => (t.d_fill_literal literal_1 v_filling)))))) fun v_3 => (t.d_make_clause v_3)))
def n_clause_text (t : Tab) (v_clause : FV) : M (Fl Unit Empty) :=
  (bnd (bnd (oU gLen (.v v_clause)) fun t_1 => (oC (gQ false) t_1 (.v (.int 0)))) fun c_2 => if c_2 = true then ret (pur (.v (.str "false"))) else (ret (bnd (bnd (oW v_clause) (filL (item some (fun literal_3 => (pur true)) (fun literal_3 => (t.d_literal_text literal_3))))) fun t_5 => (oB gJoin (.v (.str " or ")) t_5))))
def n_clause_unknowns (t : Tab) (v_clause : FV) : M (Fl Unit Empty) :=
  (bnd (mD (pur (.d []))) fun found_1 => (bnd (oW v_clause) fun xs_15 => seqN (forN (fun found_5 d => bindT (bTup (bCons some (bCons some (bCons some bNil)))) d (fun | (_4, (left_3, (right_2, ()))) => (bnd (bnd (mV (bnd (t.d_unknowns_of left_3) fun t_6 => (bnd (t.d_unknowns_of right_2) fun t_7 => (oB gAdd t_6 t_7)))) fun v_8 => (oW v_8)) fun xs_13 => seqN (forN (fun found_10 name_9 => (bnd (oPut found_10 (.v name_9) (.bl true)) fun found_11 => (pur (.nx found_11)))) xs_13 found_5) (fun found_12 => (pur (.nx found_12)))))) xs_15 found_1) (fun found_14 => (ret (oU gList (.bd found_14))))))
def n_is_ground (t : Tab) (v_clause : FV) : M (Fl Unit Empty) :=
  (ret (mB (bnd (bnd (t.d_clause_unknowns v_clause) fun t_1 => (oU gLen t_1)) fun t_2 => (oC (gQ false) t_2 (.v (.int 0))))))
def n_always_true (t : Tab) (v_clause : FV) : M (Fl Unit Empty) :=
  (bnd (oW v_clause) fun xs_8 => seqN (forN (fun _ literal_1 => (bnd (pur literal_1) fun d => bindT (bTup (bCons some (bCons some (bCons some bNil)))) d fun | (sign_4, (left_3, (right_2, ()))) => (bnd (mAnd (oT (.v sign_4)) (oC (gQ false) (.v left_3) (.v right_2))) fun c_5 => if c_5 = true then ret (pur (.v (.bl true))) else (bnd (bnd (t.d_opposite literal_1) fun t_6 => (oC (gMx false) t_6 (.v v_clause))) fun c_7 => if c_7 = true then (ret (pur (.v (.bl true)))) else (pur (.nx ())))))) xs_8 ()) (fun _ => (ret (pur (.v (.bl false))))))
def n_fill_literal (t : Tab) (v_literal v_filling : FV) : M (Fl Unit Empty) :=
  (bnd (pur v_literal) fun d => bindT (bTup (bCons some (bCons some (bCons some bNil)))) d fun | (sign_3, (left_2, (right_1, ()))) => (ret (bnd (mV (t.d_fill_term left_2 v_filling)) fun v_4 => (bnd (mV (t.d_fill_term right_1 v_filling)) fun v_5 => (t.d_make_literal sign_3 v_4 v_5)))))
def n_law_start (t : Tab) (v_law_script : FV) : M (Fl Unit Empty) :=
  (bnd (mL (oLst [])) fun law_row_1 => (bnd (pur (.int 17)) fun law_seed_2 => (bnd (bnd (oU gLen (.v v_law_script)) fun t_3 => (oR1 t_3)) fun xs_44 => seqN (forN (fun | (law_row_5, law_seed_6), law_k_4 => (bnd (mV (bnd (oB gIx (.v v_law_script) (.v law_k_4)) fun t_7 => (oU gAbs t_7))) fun law_cell_8 => (bnd (mV (bnd (bnd (bnd (bnd (oB gMul (.v law_seed_6) (.v (.int 31))) fun t_9 => (oB gAdd t_9 (.v law_cell_8))) fun t_10 => (oB gAdd t_10 (.v law_k_4))) fun t_11 => (oU gInt t_11)) fun t_12 => (oB gMod t_12 (.v (.int 2147483647))))) fun law_seed_13 => (bnd (bnd (oB gPow (.v (.int 10)) (.v (.int 18))) fun t_14 => (oC gGe (.v law_cell_8) t_14)) fun c_15 => if c_15 = true then (bnd (mV (bnd (oB gPow (.v (.int 10)) (.v (.int 18))) fun t_16 => (oB gMns (.v law_cell_8) t_16))) fun law_cell_17 => (bnd (oR1 (.v (.int 60))) fun xs_28 => seqN (forN (fun | (law_row_19, law_cell_20), law_j_18 => (bnd (oC gGt (.v law_cell_20) (.v (.int 0))) fun c_21 => if c_21 = true then (bnd (mV (bnd (oU gInt (.v law_cell_20)) fun t_23 => (oB gMod t_23 (.v (.int 840))))) fun v_25 => (bnd (oApp law_row_19 v_25) fun law_row_22 => (bnd (mV (oB gDiv (.v law_cell_20) (.v (.int 840)))) fun law_cell_24 => (pur (.nx (law_row_22, law_cell_24)))))) else (pur (.nx (law_row_19, law_cell_20))))) xs_28 (law_row_5, law_cell_17)) (fun | (law_row_26, law_cell_27) => (pur (.nx (law_row_26, law_seed_13)))))) else (bnd (mV (bnd (bnd (bnd (bnd (oB gAdd (.v law_cell_8) (.v (.int 1))) fun t_29 => (oB gMul t_29 (.v (.int 48271)))) fun t_30 => (bnd (oB gMul (.v law_k_4) (.v (.int 69621))) fun t_31 => (oB gAdd t_30 t_31))) fun t_32 => (oU gInt t_32)) fun t_33 => (oB gMod t_33 (.v (.int 2147483647))))) fun law_mixed_34 => (bnd (mV (bnd (bnd (bnd (oB gMul (.v law_mixed_34) (.v (.int 40692))) fun t_35 => (oB gAdd t_35 (.v (.int 5)))) fun t_36 => (oU gInt t_36)) fun t_37 => (oB gMod t_37 (.v (.int 2147483399))))) fun law_mixed_38 => (bnd (mV (bnd (oB gDiv (.v law_mixed_38) (.v (.int 13))) fun t_40 => (oB gMod t_40 (.v (.int 840))))) fun v_41 => (bnd (oApp law_row_5 v_41) fun law_row_39 => (pur (.nx (law_row_39, law_seed_13))))))))))) xs_44 (law_row_1, law_seed_2)) (fun | (law_row_42, law_seed_43) => (ret (oLst [(.fl law_row_42), (.int 0), law_seed_43]))))))
def n_law_take (t : Tab) (v_law_state v_law_many : FV) : M (Fl Unit Empty) :=
  (bnd (mV (oB gIx (.v v_law_state) (.v (.int 1)))) fun law_at_1 => (bnd (mV (oB gAdd (.v law_at_1) (.v (.int 1)))) fun v_20 => (bnd (oSet v_20 (.v v_law_state) (.v (.int 1))) fun _ => (bnd (bnd (bnd (oB gIx (.v v_law_state) (.v (.int 0))) fun t_2 => (oU gLen t_2)) fun t_3 => (oC gLt (.v law_at_1) t_3)) fun c_4 => if c_4 = true then ret (bnd (bnd (bnd (oB gIx (.v v_law_state) (.v (.int 0))) fun t_5 => (oB gIx t_5 (.v law_at_1))) fun t_6 => (oU gInt t_6)) fun t_7 => (oB gMod t_7 (.v v_law_many))) else (bnd (mV (bnd (bnd (bnd (bnd (oB gIx (.v v_law_state) (.v (.int 2))) fun t_8 => (bnd (oB gMul (.v law_at_1) (.v (.int 40503))) fun t_9 => (oB gAdd t_8 t_9))) fun t_10 => (oB gMul t_10 (.v (.int 48271)))) fun t_11 => (oU gInt t_11)) fun t_12 => (oB gMod t_12 (.v (.int 2147483647))))) fun law_mixed_13 => (bnd (mV (bnd (bnd (bnd (oB gMul (.v law_mixed_13) (.v (.int 69621))) fun t_14 => (bnd (oB gMul (.v law_at_1) (.v law_at_1)) fun t_15 => (oB gAdd t_14 t_15))) fun t_16 => (oU gInt t_16)) fun t_17 => (oB gMod t_17 (.v (.int 2147483629))))) fun law_mixed_18 => (ret (bnd (oB gDiv (.v law_mixed_18) (.v (.int 11))) fun t_19 => (oB gMod t_19 (.v v_law_many))))))))))
def n_law_term (t : Tab) (v_law_state v_law_depth : FV) : M (Fl Unit Empty) :=
  (bnd (mV (t.d_law_take v_law_state (.int 5))) fun law_kind_1 => (bnd (mOr (oC (gQ false) (.v v_law_depth) (.v (.int 0))) (oC gLt (.v law_kind_1) (.v (.int 4)))) fun c_2 => if c_2 = true then up (bnd (mV (bnd (mV (oTup [(.str "a")])) fun v_3 => (bnd (mV (oTup [(.str "b")])) fun v_4 => (oLst [(.str "x"), (.str "y"), v_3, v_4])))) fun law_leaves_5 => (ret (bnd (t.d_law_take v_law_state (.int 4)) fun t_6 => (oB gIx (.v law_leaves_5) t_6)))) else (ret (bnd (mV (bnd (mV (oB gMns (.v v_law_depth) (.v (.int 1)))) fun v_7 => (t.d_law_term v_law_state v_7))) fun v_8 => (oTup [(.str "f"), v_8])))))
def n_law_literal (t : Tab) (v_law_state : FV) : M (Fl Unit Empty) :=
  (bnd (mV (t.d_law_take v_law_state (.int 6))) fun law_kind_1 => (bnd (mV (mB (bnd (t.d_law_take v_law_state (.int 2)) fun t_2 => (oC (gQ false) t_2 (.v (.int 1)))))) fun law_sign_3 => (bnd (oC (gQ false) (.v law_kind_1) (.v (.int 0))) fun c_4 => if c_4 = true then ret (bnd (mV (oTup [(.str "Q")])) fun v_5 => (oTup [law_sign_3, v_5, c_TOP])) else (bnd (oC (gQ false) (.v law_kind_1) (.v (.int 1))) fun c_6 => if c_6 = true then ret (bnd (mV (bnd (mV (t.d_law_term v_law_state (.int 2))) fun v_7 => (oTup [(.str "P"), v_7]))) fun v_8 => (oTup [law_sign_3, v_8, c_TOP])) else (bnd (oC (gQ false) (.v law_kind_1) (.v (.int 2))) fun c_9 => if c_9 = true then ret (bnd (mV (bnd (mV (t.d_law_term v_law_state (.int 1))) fun v_10 => (bnd (mV (t.d_law_term v_law_state (.int 1))) fun v_11 => (oTup [(.str "R"), v_10, v_11])))) fun v_12 => (oTup [law_sign_3, v_12, c_TOP])) else (ret (bnd (mV (t.d_law_term v_law_state (.int 2))) fun v_13 => (bnd (mV (t.d_law_term v_law_state (.int 2))) fun v_14 => (oTup [law_sign_3, v_13, v_14])))))))))
def n_law_text (t : Tab) (v_law_term_here : FV) : M (Fl Unit Empty) :=
  (bnd (bnd (oU (gIs "str") (.v v_law_term_here)) fun t_1 => (oT t_1)) fun c_2 => if c_2 = true then ret (pur (.v v_law_term_here)) else (bnd (bnd (oU gLen (.v v_law_term_here)) fun t_3 => (oC (gQ false) t_3 (.v (.int 1)))) fun c_4 => if c_4 = true then ret (oB gIx (.v v_law_term_here) (.v (.int 0))) else (ret (bnd (bnd (bnd (oB gIx (.v v_law_term_here) (.v (.int 0))) fun t_5 => (oB gAdd t_5 (.v (.str "(")))) fun t_10 => (bnd (bnd (bnd (bnd (mV (oSl (.v v_law_term_here) (some 1) none)) fun v_6 => (oW v_6)) (filL (item some (fun law_part_7 => (pur true)) (fun law_part_7 => (t.d_law_text law_part_7))))) fun t_9 => (oB gJoin (.v (.str ", ")) t_9)) fun t_11 => (oB gAdd t_10 t_11))) fun t_12 => (oB gAdd t_12 (.v (.str ")")))))))
def n_law_formed (t : Tab) (v_law_literal_here : FV) : M (Fl Unit Empty) :=
  (bnd (pur v_law_literal_here) fun d => bindT (bTup (bCons some (bCons some (bCons some bNil)))) d fun | (law_sign_3, (law_left_2, (law_right_1, ()))) => (bnd (mAnd (oC (gQ true) (.v law_right_1) (.v c_TOP)) (bnd (t.d_law_text law_right_1) fun t_4 => (bnd (t.d_law_text law_left_2) fun t_5 => (oC gLt t_4 t_5)))) fun c_6 => if c_6 = true then ret (oTup [law_sign_3, law_right_1, law_left_2]) else (ret (oTup [law_sign_3, law_left_2, law_right_1]))))
def n_law_said (t : Tab) (v_law_literal_here : FV) : M (Fl Unit Empty) :=
  (bnd (pur v_law_literal_here) fun d => bindT (bTup (bCons some (bCons some (bCons some bNil)))) d fun | (law_sign_3, (law_left_2, (law_right_1, ()))) => (bnd (oC (gQ false) (.v law_right_1) (.v c_TOP)) fun c_4 => if c_4 = true then up (bnd (oT (.v law_sign_3)) fun c_5 => if c_5 = true then ret (t.d_law_text law_left_2) else (ret (bnd (t.d_law_text law_left_2) fun t_6 => (oB gAdd (.v (.str "not ")) t_6)))) else (bnd (oT (.v law_sign_3)) fun c_7 => if c_7 = true then ret (bnd (bnd (t.d_law_text law_left_2) fun t_8 => (oB gAdd t_8 (.v (.str " = ")))) fun t_9 => (bnd (t.d_law_text law_right_1) fun t_10 => (oB gAdd t_9 t_10))) else (ret (bnd (bnd (t.d_law_text law_left_2) fun t_11 => (oB gAdd t_11 (.v (.str " != ")))) fun t_12 => (bnd (t.d_law_text law_right_1) fun t_13 => (oB gAdd t_12 t_13)))))))
def n_law_clause (t : Tab) (v_law_literals : FV) : M (Fl Unit Empty) :=
  (bnd (mL (oLst [])) fun law_row_1 => (bnd (oW v_law_literals) fun xs_9 => seqN (forN (fun law_row_3 law_literal_here_2 => (bnd (mV (t.d_law_formed law_literal_here_2)) fun law_formed_here_4 => (bnd (oC (gMx true) (.v law_formed_here_4) (.bl law_row_3)) fun c_5 => if c_5 = true then (bnd (oApp law_row_3 law_formed_here_4) fun law_row_6 => (pur (.nx law_row_6))) else (pur (.nx law_row_3))))) xs_9 law_row_1) (fun law_row_7 => (ret (bnd (oSortK t.d_law_said (.bl law_row_7)) fun t_8 => (oU gTup t_8))))))
def n_law_filled (t : Tab) (v_law_term_here v_law_filling : FV) : M (Fl Unit Empty) :=
  (bnd (bnd (oU (gIs "str") (.v v_law_term_here)) fun t_1 => (oT t_1)) fun c_2 => if c_2 = true then ret (bnd (oDk (.v v_law_filling)) fun _ => (oGet (.v v_law_filling) v_law_term_here v_law_term_here)) else (ret (bnd (bnd (bnd (mV (oB gIx (.v v_law_term_here) (.v (.int 0)))) fun v_3 => (oLst [v_3])) fun t_7 => (bnd (bnd (bnd (mV (oSl (.v v_law_term_here) (some 1) none)) fun v_4 => (oW v_4)) (filL (item some (fun law_part_5 => (pur true)) (fun law_part_5 => (t.d_law_filled law_part_5 v_law_filling))))) fun t_8 => (oB gAdd t_7 t_8))) fun t_9 => (oU gTup t_9))))
def n_law_names (t : Tab) (v_law_term_here : FV) : M (Fl Unit Empty) :=
  (bnd (bnd (oU (gIs "str") (.v v_law_term_here)) fun t_1 => (oT t_1)) fun c_2 => if c_2 = true then ret (oLst [v_law_term_here]) else (bnd (mV (oLst [])) fun law_names_here_3 => (bnd (bnd (mV (oSl (.v v_law_term_here) (some 1) none)) fun v_4 => (oW v_4)) fun xs_10 => seqN (forN (fun law_names_here_6 law_part_5 => (bnd (mV (bnd (t.d_law_names law_part_5) fun t_7 => (oB gAdd (.v law_names_here_6) t_7))) fun law_names_here_8 => (pur (.nx law_names_here_8)))) xs_10 law_names_here_3) (fun law_names_here_9 => (ret (pur (.v law_names_here_9)))))))
def n_law (t : Tab) (v_law_script : FV) : M (Fl Unit Empty) :=
  (bnd (mT (t.d_law_start v_law_script)) fun law_state_1 => (bnd (mV (bnd (bnd (t.d_law_take law_state_1 (.int 7)) fun t_2 => (oR1 t_2)) (filL (item some (fun law_k_3 => (pur true)) (fun law_k_3 => (t.d_law_literal law_state_1)))))) fun law_literals_5 => (bnd (mL (oLst [])) fun law_other_6 => (bnd (bnd (oU gLen (.v law_literals_5)) fun t_7 => (oR1 t_7)) fun xs_130 => seqN (forN (fun law_other_9 law_k_8 => (bnd (mV (oB gIx (.v law_literals_5) (.v law_k_8))) fun law_literal_here_10 => (bnd (mAnd (bnd (oB gIx (.v law_literal_here_10) (.v (.int 2))) fun t_11 => (oC (gQ true) t_11 (.v c_TOP))) (bnd (t.d_law_take law_state_1 (.int 2)) fun t_12 => (oC (gQ false) t_12 (.v (.int 1))))) fun c_13 => seqN (if c_13 = true then (bnd (mV (bnd (mV (oB gIx (.v law_literal_here_10) (.v (.int 0)))) fun v_25 => (bnd (mV (oB gIx (.v law_literal_here_10) (.v (.int 2)))) fun v_26 => (bnd (mV (oB gIx (.v law_literal_here_10) (.v (.int 1)))) fun v_27 => (oTup [v_25, v_26, v_27]))))) fun law_literal_here_28 => (pur (.nx law_literal_here_28))) else (pur (.nx law_literal_here_10))) (fun law_literal_here_14 => (bnd (mV (bnd (mV (bnd (oU gLen (.bl law_other_9)) fun t_16 => (oB gAdd t_16 (.v (.int 1))))) fun v_17 => (t.d_law_take law_state_1 v_17))) fun v_24 => (bnd (oIns law_other_9 v_24 law_literal_here_14) fun law_other_15 => (bnd (bnd (t.d_law_take law_state_1 (.int 3)) fun t_18 => (oC (gQ false) t_18 (.v (.int 0)))) fun c_19 => if c_19 = true then (bnd (mV (bnd (bnd (mV (oU gLen (.v law_literals_5))) fun v_21 => (t.d_law_take law_state_1 v_21)) fun t_22 => (oB gIx (.v law_literals_5) t_22))) fun v_23 => (bnd (oApp law_other_15 v_23) fun law_other_20 => (pur (.nx law_other_20)))) else (pur (.nx law_other_15))))))))) xs_130 law_other_6) (fun law_other_29 => (bnd (mV (t.d_law_clause law_literals_5)) fun law_due_30 => (bnd (bnd (bnd (mV (bnd (oW law_literals_5) (filL (item some (fun law_one_31 => (pur true)) (fun law_one_31 => (bnd (mV (oB gIx (.v law_one_31) (.v (.int 0)))) fun v_32 => (bnd (mV (oB gIx (.v law_one_31) (.v (.int 1)))) fun v_33 => (bnd (mV (oB gIx (.v law_one_31) (.v (.int 2)))) fun v_34 => (t.d_make_literal v_32 v_33 v_34))))))))) fun v_36 => (t.d_make_clause v_36)) fun t_37 => (oC (gQ true) t_37 (.v law_due_30))) fun c_38 => if c_38 = true then ret (pur (.v (.bl false))) else (bnd (bnd (bnd (mV (bnd (bnd (oW (.fl law_other_29)) (filL (item some (fun law_one_39 => (pur true)) (fun law_one_39 => (bnd (mV (oB gIx (.v law_one_39) (.v (.int 0)))) fun v_40 => (bnd (mV (oB gIx (.v law_one_39) (.v (.int 1)))) fun v_41 => (bnd (mV (oB gIx (.v law_one_39) (.v (.int 2)))) fun v_42 => (t.d_make_literal v_40 v_41 v_42)))))))) fun t_44 => (oU gTup t_44))) fun v_45 => (t.d_make_clause v_45)) fun t_46 => (oC (gQ true) t_46 (.v law_due_30))) fun c_47 => if c_47 = true then ret (pur (.v (.bl false))) else (bnd (mV (bnd (oW law_due_30) (filL (item some (fun law_literal_here_48 => (pur true)) (fun law_literal_here_48 => (t.d_law_said law_literal_here_48)))))) fun law_said_here_50 => (bnd (bnd (bnd (oW law_due_30) (filL (item some (fun law_literal_here_51 => (pur true)) (fun law_literal_here_51 => (t.d_literal_text law_literal_here_51))))) fun t_53 => (oC (gQ true) t_53 (.v law_said_here_50))) fun c_54 => if c_54 = true then ret (pur (.v (.bl false))) else (bnd (pur (.str "false")) fun law_text_here_55 => (bnd (bnd (oU gLen (.v law_said_here_50)) fun t_56 => (oC gGt t_56 (.v (.int 0)))) fun c_57 => seqN (if c_57 = true then (bnd (mV (oB gJoin (.v (.str " or ")) (.v law_said_here_50))) fun law_text_here_129 => (pur (.nx law_text_here_129))) else (pur (.nx law_text_here_55))) (fun law_text_here_58 => (bnd (bnd (t.d_clause_text law_due_30) fun t_59 => (oC (gQ true) t_59 (.v law_text_here_58))) fun c_60 => if c_60 = true then ret (pur (.v (.bl false))) else (bnd (mL (oLst [])) fun law_names_here_61 => (bnd (oW law_due_30) fun xs_128 => seqN (forN (fun law_names_here_63 law_literal_here_62 => (bnd (bnd (mV (bnd (bnd (mV (oB gIx (.v law_literal_here_62) (.v (.int 1)))) fun v_64 => (t.d_law_names v_64)) fun t_66 => (bnd (bnd (mV (oB gIx (.v law_literal_here_62) (.v (.int 2)))) fun v_65 => (t.d_law_names v_65)) fun t_67 => (oB gAdd t_66 t_67)))) fun v_68 => (oW v_68)) fun xs_74 => seqN (forN (fun law_names_here_70 law_name_69 => (bnd (oC (gMx true) (.v law_name_69) (.bl law_names_here_70)) fun c_71 => if c_71 = true then (bnd (oApp law_names_here_70 law_name_69) fun law_names_here_72 => (pur (.nx law_names_here_72))) else (pur (.nx law_names_here_70)))) xs_74 law_names_here_63) (fun law_names_here_73 => (pur (.nx law_names_here_73))))) xs_128 law_names_here_61) (fun law_names_here_75 => (bnd (mV (t.d_is_ground law_due_30)) fun law_ground_76 => (bnd (mOr (bnd (t.d_clause_unknowns law_due_30) fun t_77 => (oC (gQ true) t_77 (.bl law_names_here_75))) (mOr (mNot (bnd (oU (gIs "bool") (.v law_ground_76)) fun t_78 => (oT t_78))) (bnd (mB (bnd (oU gLen (.bl law_names_here_75)) fun t_79 => (oC (gQ false) t_79 (.v (.int 0))))) fun t_80 => (oC (gQ true) (.v law_ground_76) t_80)))) fun c_81 => if c_81 = true then ret (pur (.v (.bl false))) else (bnd (mD (bnd (mV (t.d_law_term law_state_1 (.int 2))) fun v_82 => (oDis [(.inr "x", v_82)]))) fun law_filling_84 => (bnd (bnd (t.d_law_take law_state_1 (.int 2)) fun t_85 => (oC (gQ false) t_85 (.v (.int 1)))) fun c_86 => seqN (if c_86 = true then (bnd (mV (t.d_law_term law_state_1 (.int 1))) fun v_127 => (bnd (oPut law_filling_84 (.v (.str "y")) v_127) fun law_filling_126 => (pur (.nx law_filling_126)))) else (pur (.nx law_filling_84))) (fun law_filling_87 => (bnd (mV (bnd (oW law_due_30) (filL (item some (fun law_one_88 => (pur true)) (fun law_one_88 => (bnd (mV (oB gIx (.v law_one_88) (.v (.int 0)))) fun v_91 => (bnd (mV (bnd (mV (oB gIx (.v law_one_88) (.v (.int 1)))) fun v_89 => (t.d_law_filled v_89 (frzD law_filling_87)))) fun v_92 => (bnd (mV (bnd (mV (oB gIx (.v law_one_88) (.v (.int 2)))) fun v_90 => (t.d_law_filled v_90 (frzD law_filling_87)))) fun v_93 => (oTup [v_91, v_92, v_93]))))))))) fun law_filled_here_95 => (bnd (bnd (bnd (oW law_due_30) (filL (item some (fun law_one_96 => (pur true)) (fun law_one_96 => (bnd (mV (oB gIx (.v law_one_96) (.v (.int 1)))) fun v_97 => (t.d_fill_term v_97 (frzD law_filling_87))))))) fun t_101 => (bnd (bnd (oW law_filled_here_95) (filL (item some (fun law_one_99 => (pur true)) (fun law_one_99 => (oB gIx (.v law_one_99) (.v (.int 1))))))) fun t_102 => (oC (gQ true) t_101 t_102))) fun c_103 => if c_103 = true then ret (pur (.v (.bl false))) else (bnd (bnd (t.d_fill_clause law_due_30 (frzD law_filling_87)) fun t_104 => (bnd (t.d_law_clause law_filled_here_95) fun t_105 => (oC (gQ true) t_104 t_105))) fun c_106 => if c_106 = true then ret (pur (.v (.bl false))) else (bnd (pur (.bl false)) fun law_either_107 => (bnd (oW law_due_30) fun xs_125 => seqN (forN (fun law_either_109 law_literal_here_108 => (bnd (mV (bnd (mV (bnd (oB gIx (.v law_literal_here_108) (.v (.int 0))) fun t_110 => (oNotV t_110))) fun v_111 => (bnd (mV (oB gIx (.v law_literal_here_108) (.v (.int 1)))) fun v_112 => (bnd (mV (oB gIx (.v law_literal_here_108) (.v (.int 2)))) fun v_113 => (oTup [v_111, v_112, v_113]))))) fun law_turned_114 => (bnd (bnd (t.d_opposite law_literal_here_108) fun t_115 => (oC (gQ true) t_115 (.v law_turned_114))) fun c_116 => if c_116 = true then ret (pur (.v (.bl false))) else (bnd (mOr (oC (gMx false) (.v law_turned_114) (.v law_due_30)) (mAnd (bnd (oB gIx (.v law_literal_here_108) (.v (.int 0))) fun t_117 => (oT t_117)) (bnd (oB gIx (.v law_literal_here_108) (.v (.int 1))) fun t_118 => (bnd (oB gIx (.v law_literal_here_108) (.v (.int 2))) fun t_119 => (oC (gQ false) t_118 t_119))))) fun c_120 => if c_120 = true then (bnd (pur (.bl true)) fun law_either_121 => (pur (.nx law_either_121))) else (pur (.nx law_either_109)))))) xs_125 law_either_107) (fun law_either_122 => (bnd (mV (t.d_always_true law_due_30)) fun law_always_123 => (ret (bnd (oU (gIs "bool") (.v law_always_123)) fun t_124 => (oAndV t_124 (mB (oC (gQ false) (.v law_always_123) (.v law_either_122)))))))))))))))))))))))))))))))))))
def T : Nat → Tab
  | 0 => ⟨fun _ => fail, fun _ _ => fail, fun _ => fail, fun _ => fail, fun _ => fail, fun _ _ _ => fail, fun _ => fail, fun _ => fail, fun _ => fail, fun _ _ => fail, fun _ => fail, fun _ => fail, fun _ => fail, fun _ => fail, fun _ _ => fail, fun _ => fail, fun _ _ => fail, fun _ _ => fail, fun _ => fail, fun _ => fail, fun _ => fail, fun _ => fail, fun _ => fail, fun _ _ => fail, fun _ => fail, fun _ => fail⟩
  | n + 1 => {
      d_unknowns_of := fun a0 => gcM (toF (n_unknowns_of (T n) a0))
      d_fill_term := fun a0 a1 => gcM (toF (n_fill_term (T n) a0 a1))
      d_term_text := fun a0 => gcM (toF (n_term_text (T n) a0))
      d_arguments := fun a0 => gcM (toF (n_arguments (T n) a0))
      d_all_parts := fun a0 => gcM (toF (n_all_parts (T n) a0))
      d_make_literal := fun a0 a1 a2 => gcM (toF (n_make_literal (T n) a0 a1 a2))
      d_literal_text := fun a0 => gcM (toF (n_literal_text (T n) a0))
      d_opposite := fun a0 => gcM (toF (n_opposite (T n) a0))
      d_make_clause := fun a0 => gcM (toF (n_make_clause (T n) a0))
      d_fill_clause := fun a0 a1 => gcM (toF (n_fill_clause (T n) a0 a1))
      d_clause_text := fun a0 => gcM (toF (n_clause_text (T n) a0))
      d_clause_unknowns := fun a0 => gcM (toF (n_clause_unknowns (T n) a0))
      d_is_ground := fun a0 => gcM (toF (n_is_ground (T n) a0))
      d_always_true := fun a0 => gcM (toF (n_always_true (T n) a0))
      d_fill_literal := fun a0 a1 => gcM (toF (n_fill_literal (T n) a0 a1))
      d_law_start := fun a0 => gcM (toF (n_law_start (T n) a0))
      d_law_take := fun a0 a1 => gcM (toF (n_law_take (T n) a0 a1))
      d_law_term := fun a0 a1 => gcM (toF (n_law_term (T n) a0 a1))
      d_law_literal := fun a0 => gcM (toF (n_law_literal (T n) a0))
      d_law_text := fun a0 => gcM (toF (n_law_text (T n) a0))
      d_law_formed := fun a0 => gcM (toF (n_law_formed (T n) a0))
      d_law_said := fun a0 => gcM (toF (n_law_said (T n) a0))
      d_law_clause := fun a0 => gcM (toF (n_law_clause (T n) a0))
      d_law_filled := fun a0 a1 => gcM (toF (n_law_filled (T n) a0 a1))
      d_law_names := fun a0 => gcM (toF (n_law_names (T n) a0))
      d_law := fun a0 => gcM (toF (n_law (T n) a0)) }
theorem T_unknowns_of (n : Nat) (a0 : FV) : (T (n + 1)).d_unknowns_of a0 = gcM (toF (n_unknowns_of (T n) a0)) := rfl
theorem T_fill_term (n : Nat) (a0 a1 : FV) : (T (n + 1)).d_fill_term a0 a1 = gcM (toF (n_fill_term (T n) a0 a1)) := rfl
theorem T_term_text (n : Nat) (a0 : FV) : (T (n + 1)).d_term_text a0 = gcM (toF (n_term_text (T n) a0)) := rfl
theorem T__arguments (n : Nat) (a0 : FV) : (T (n + 1)).d_arguments a0 = gcM (toF (n_arguments (T n) a0)) := rfl
theorem T__all_parts (n : Nat) (a0 : FV) : (T (n + 1)).d_all_parts a0 = gcM (toF (n_all_parts (T n) a0)) := rfl
theorem T_make_literal (n : Nat) (a0 a1 a2 : FV) : (T (n + 1)).d_make_literal a0 a1 a2 = gcM (toF (n_make_literal (T n) a0 a1 a2)) := rfl
theorem T_literal_text (n : Nat) (a0 : FV) : (T (n + 1)).d_literal_text a0 = gcM (toF (n_literal_text (T n) a0)) := rfl
theorem T_opposite (n : Nat) (a0 : FV) : (T (n + 1)).d_opposite a0 = gcM (toF (n_opposite (T n) a0)) := rfl
theorem T_make_clause (n : Nat) (a0 : FV) : (T (n + 1)).d_make_clause a0 = gcM (toF (n_make_clause (T n) a0)) := rfl
theorem T_fill_clause (n : Nat) (a0 a1 : FV) : (T (n + 1)).d_fill_clause a0 a1 = gcM (toF (n_fill_clause (T n) a0 a1)) := rfl
theorem T_clause_text (n : Nat) (a0 : FV) : (T (n + 1)).d_clause_text a0 = gcM (toF (n_clause_text (T n) a0)) := rfl
theorem T_clause_unknowns (n : Nat) (a0 : FV) : (T (n + 1)).d_clause_unknowns a0 = gcM (toF (n_clause_unknowns (T n) a0)) := rfl
theorem T_is_ground (n : Nat) (a0 : FV) : (T (n + 1)).d_is_ground a0 = gcM (toF (n_is_ground (T n) a0)) := rfl
theorem T_always_true (n : Nat) (a0 : FV) : (T (n + 1)).d_always_true a0 = gcM (toF (n_always_true (T n) a0)) := rfl
theorem T__fill_literal (n : Nat) (a0 a1 : FV) : (T (n + 1)).d_fill_literal a0 a1 = gcM (toF (n_fill_literal (T n) a0 a1)) := rfl
theorem T__law_start (n : Nat) (a0 : FV) : (T (n + 1)).d_law_start a0 = gcM (toF (n_law_start (T n) a0)) := rfl
theorem T__law_take (n : Nat) (a0 a1 : FV) : (T (n + 1)).d_law_take a0 a1 = gcM (toF (n_law_take (T n) a0 a1)) := rfl
theorem T__law_term (n : Nat) (a0 a1 : FV) : (T (n + 1)).d_law_term a0 a1 = gcM (toF (n_law_term (T n) a0 a1)) := rfl
theorem T__law_literal (n : Nat) (a0 : FV) : (T (n + 1)).d_law_literal a0 = gcM (toF (n_law_literal (T n) a0)) := rfl
theorem T__law_text (n : Nat) (a0 : FV) : (T (n + 1)).d_law_text a0 = gcM (toF (n_law_text (T n) a0)) := rfl
theorem T__law_formed (n : Nat) (a0 : FV) : (T (n + 1)).d_law_formed a0 = gcM (toF (n_law_formed (T n) a0)) := rfl
theorem T__law_said (n : Nat) (a0 : FV) : (T (n + 1)).d_law_said a0 = gcM (toF (n_law_said (T n) a0)) := rfl
theorem T__law_clause (n : Nat) (a0 : FV) : (T (n + 1)).d_law_clause a0 = gcM (toF (n_law_clause (T n) a0)) := rfl
theorem T__law_filled (n : Nat) (a0 a1 : FV) : (T (n + 1)).d_law_filled a0 a1 = gcM (toF (n_law_filled (T n) a0 a1)) := rfl
theorem T__law_names (n : Nat) (a0 : FV) : (T (n + 1)).d_law_names a0 = gcM (toF (n_law_names (T n) a0)) := rfl
theorem T_law (n : Nat) (a0 : FV) : (T (n + 1)).d_law a0 = gcM (toF (n_law (T n) a0)) := rfl
end
end Q87
namespace Q87
open PySem PySem.Spec PyProof.Rows L2 G P
def top (i : Nat) : Stmt := PySem.Challenge.pw_worldorpaper_k87_one_form_of_a_clause.main.body.getD i (.Pass ⟨0, 0, 0, 0⟩)
section
variable {P : Program} {w : World} {K : PySem.W.Frag} {mg : Str → Option Value} {base : Heap}
/-! ### unknowns_of -/
abbrev s_unknowns_of : Stmt := top 2
abbrev N_unknowns_of : List Str := ["term", "found", "part"]
theorem sc_unknowns_of : FnScope N_unknowns_of ["term"] (defScope s_unknowns_of) := ⟨rfl, rfl, rfl, by decide +kernel, rfl, by decide +kernel, by decide +kernel⟩
theorem ok_unknowns_of {a : Addr} {fd : FuncData} {n : Nat} {t : Tab} (F : Fun K "unknowns_of" "unknowns_of" s_unknowns_of a fd) (h__all_parts : HasF P w K mg base n "_all_parts" ["term"] (f1 t.d_all_parts))  (m_isinstance : mg "isinstance" = none) (m_str : mg "str" = none) (m_list : mg "list" = none)       :
    FnOk P w K mg base (L2.CX P w) (n + 1) a fd ["term"] (spP ⟨K, mg⟩ (f1 fun v_term => toF (n_unknowns_of t v_term))) :=
  mk_fnP (nL := 2) (b := b1 (n_unknowns_of t)) F sc_unknowns_of rfl rfl (arg1 fun _ => trivial) fun cdv A outer s H E hr => by
    have tk : Tk (CxP P w K mg base N_unknowns_of "unknowns_of" (defScope s_unknowns_of) a cdv A outer s H E) (fun cls d _ H => E cls d H) := .inl (takes_of rfl rfl rfl rfl)
    have te : TkE (CxP P w K mg base N_unknowns_of "unknowns_of" (defScope s_unknowns_of) a cdv A outer s H E) (fun cls d _ H => E cls d H) := te_own (takes_of rfl rfl rfl rfl)
    have hp : PassesOwn (model P w) (CxP P w K mg base N_unknowns_of "unknowns_of" (defScope s_unknowns_of) a cdv A outer s H E).A (CxP P w K mg base N_unknowns_of "unknowns_of" (defScope s_unknowns_of) a cdv A outer s H E).env (CxP P w K mg base N_unknowns_of "unknowns_of" (defScope s_unknowns_of) a cdv A outer s H E).xe := passes_of rfl
    have hN : (CxP P w K mg base N_unknowns_of "unknowns_of" (defScope s_unknowns_of) a cdv A outer s H E).N.Nodup := sc_unknowns_of.nd
    have w0 : ∀ {Γ : Sl}, SubX none Γ := trivial
    exact arg1 fun v_term E' => (show JB _ _ _ _ _ _ _ _ (n_unknowns_of t v_term) from (jb_setD 1 w0 hN (JE.to je_d0 fun _ => rfl) (Γ' := fun found_1 => [some (.v v_term), some (.d found_1), none]) (fun found_1 => (jb_forS (A := List (Key × FV)) ((fun found_8 => [some (.v v_term), some (.d found_8), none] : (List (Key × FV)) → Sl)) found_1 (Γb := fun found_4 part_3 => [some (.v v_term), some (.d found_4), some (.v part_3)]) (hΓ := fun found_4 part_3 => rfl) w0 hp rfl (JI.to (ji_seq (je_call tk h__all_parts hr (Nat.le_refl _) (ja_cons (je_var (r := .v v_term) 0 rfl) ja_nil))) fun _ => rfl) (jg_name 2 hN) (fun found_4 part_3 => (jb_ifE w0 (JT.to (jt_val (je_isi m_isinstance m_str (je_var (r := .v part_3) 2 rfl))) fun _ => rfl) (jb_dput 1 hr w0 (JE.to (je_bl (i := true)) fun _ => rfl) (JE.to (je_var (r := .v part_3) 2 rfl) fun _ => rfl) (Γ' := fun found_7 => [some (.v v_term), some (.d found_7), some (.v part_3)]) (fun found_7 => (jb_nil (a := found_7) (.keep (.keep (.drop .nil)))))) (jb_nil (a := found_4) (.keep (.keep (.drop .nil)))))) (.keep (.keep (.keep .nil))) (fun found_8 => (jb_ret w0 (JE.to (je_list rfl m_list (je_var (r := .d found_8) 1 rfl)) fun _ => rfl)))))))
/-! ### fill_term -/
abbrev s_fill_term : Stmt := top 3
abbrev N_fill_term : List Str := ["term", "filling", "argument"]
theorem sc_fill_term : FnScope N_fill_term ["term", "filling"] (defScope s_fill_term) := ⟨rfl, rfl, rfl, by decide +kernel, rfl, by decide +kernel, by decide +kernel⟩
theorem ok_fill_term {a : Addr} {fd : FuncData} {n : Nat} {t : Tab} (F : Fun K "fill_term" "fill_term" s_fill_term a fd) (h_fill_term : HasF P w K mg base n "fill_term" ["term", "filling"] (f2 t.d_fill_term))  (m_isinstance : mg "isinstance" = none) (m_str : mg "str" = none) (m_tuple : mg "tuple" = none)       :
    FnOk P w K mg base (L2.CX P w) (n + 1) a fd ["term", "filling"] (spP ⟨K, mg⟩ (f2 fun v_term v_filling => toF (n_fill_term t v_term v_filling))) :=
  mk_fnP (nL := 1) (b := b2 (n_fill_term t)) F sc_fill_term rfl rfl (arg2 fun _ _ => trivial) fun cdv A outer s H E hr => by
    have tk : Tk (CxP P w K mg base N_fill_term "fill_term" (defScope s_fill_term) a cdv A outer s H E) (fun cls d _ H => E cls d H) := .inl (takes_of rfl rfl rfl rfl)
    have te : TkE (CxP P w K mg base N_fill_term "fill_term" (defScope s_fill_term) a cdv A outer s H E) (fun cls d _ H => E cls d H) := te_own (takes_of rfl rfl rfl rfl)
    have hp : PassesOwn (model P w) (CxP P w K mg base N_fill_term "fill_term" (defScope s_fill_term) a cdv A outer s H E).A (CxP P w K mg base N_fill_term "fill_term" (defScope s_fill_term) a cdv A outer s H E).env (CxP P w K mg base N_fill_term "fill_term" (defScope s_fill_term) a cdv A outer s H E).xe := passes_of rfl
    have hN : (CxP P w K mg base N_fill_term "fill_term" (defScope s_fill_term) a cdv A outer s H E).N.Nodup := sc_fill_term.nd
    have w0 : ∀ {Γ : Sl}, SubX none Γ := trivial
    exact arg2 fun v_term v_filling E' => (show JB _ _ _ _ _ _ _ _ (n_fill_term t v_term v_filling) from (jb_ifR w0 (JT.to (jt_val (je_isi m_isinstance m_str (je_var (r := .v v_term) 0 rfl))) fun _ => rfl) (JE.to (je_get hr (je_var (r := .v v_filling) 1 rfl) (je_var (r := .v v_term) 0 rfl) (je_var (r := .v v_term) 0 rfl)) fun _ => rfl) (jb_ret w0 (JE.to (je_add (je_sl (je_var (r := .v v_term) 0 rfl) jp_none (jp_some je_int)) (je_tuple m_tuple (je_lc [("argument", 2)] rfl hN (JI.to (ji_seq (je_sl (je_var (r := .v v_term) 0 rfl) (jp_some je_int) jp_none)) fun _ => rfl) (blkOk_by (N := N_fill_term) (sc := defScope s_fill_term) (by decide +kernel)) (jgb_name 2 (fun _ _ _ _ _ => hN)) (by decide) (fun argument_4 => fun _ _ _ _ _ => (JTs.to jts_nil fun _ => rfl)) (fun argument_4 => fun _ _ _ _ _ => (JE.to (je_call (.inr rfl) h_fill_term hr (Nat.le_refl _) (ja_cons (je_var (r := .v argument_4) 2 rfl) (ja_cons (je_var (r := .v v_filling) 1 rfl) ja_nil))) fun _ => rfl)) (hΓ := fun argument_4 => rfl) (Γc := fun argument_4 => [some (.v v_term), some (.v v_filling), some (.v argument_4)]) (t := fun argument_4 => (pur true)) (fe := fun argument_4 => (t.d_fill_term argument_4 v_filling))))) fun _ => rfl))))
/-! ### term_text -/
abbrev s_term_text : Stmt := top 4
abbrev N_term_text : List Str := ["term", "texts", "due", "part", "argument"]
theorem sc_term_text : FnScope N_term_text ["term"] (defScope s_term_text) := ⟨rfl, rfl, rfl, by decide +kernel, rfl, by decide +kernel, by decide +kernel⟩
theorem ok_term_text {a : Addr} {fd : FuncData} {n : Nat} {t : Tab} (F : Fun K "term_text" "term_text" s_term_text a fd)   (m_len : mg "len" = none) (m_isinstance : mg "isinstance" = none) (m_str : mg "str" = none) (g_TOP : GC K mg "TOP" c_TOP)      :
    FnOk P w K mg base (L2.CX P w) (n + 1) a fd ["term"] (spP ⟨K, mg⟩ (f1 fun v_term => toF (n_term_text t v_term))) :=
  mk_fnP (nL := 4) (b := b1 (n_term_text t)) F sc_term_text rfl rfl (arg1 fun _ => trivial) fun cdv A outer s H E hr => by
    have tk : Tk (CxP P w K mg base N_term_text "term_text" (defScope s_term_text) a cdv A outer s H E) (fun cls d _ H => E cls d H) := .inl (takes_of rfl rfl rfl rfl)
    have te : TkE (CxP P w K mg base N_term_text "term_text" (defScope s_term_text) a cdv A outer s H E) (fun cls d _ H => E cls d H) := te_own (takes_of rfl rfl rfl rfl)
    have hp : PassesOwn (model P w) (CxP P w K mg base N_term_text "term_text" (defScope s_term_text) a cdv A outer s H E).A (CxP P w K mg base N_term_text "term_text" (defScope s_term_text) a cdv A outer s H E).env (CxP P w K mg base N_term_text "term_text" (defScope s_term_text) a cdv A outer s H E).xe := passes_of rfl
    have hN : (CxP P w K mg base N_term_text "term_text" (defScope s_term_text) a cdv A outer s H E).N.Nodup := sc_term_text.nd
    have w0 : ∀ {Γ : Sl}, SubX none Γ := trivial
    exact arg1 fun v_term E' => (show JB _ _ _ _ _ _ _ _ (n_term_text t v_term) from (jb_setL 1 w0 hN (JE.to (je_lst ja_nil) fun _ => rfl) (Γ' := fun texts_1 => [some (.v v_term), some (.l texts_1), none, none, none]) (fun texts_1 => (jb_setL 2 w0 hN (JE.to (je_lst (ja_cons (je_var (r := .v v_term) 0 rfl) ja_nil)) fun _ => rfl) (Γ' := fun due_2 => [some (.v v_term), some (.l texts_1), some (.l due_2), none, none]) (fun due_2 => (jb_while (A := List FV × List FV) ((fun | (texts_32, due_33) => [some (.v v_term), some (.l texts_32), some (.l due_33), none, none] : (List FV × List FV) → Sl)) (texts_1, due_2) FUEL hp (fun | (texts_3, due_4) => w0) (fun | (texts_3, due_4) => (JT.to (jt_gt (je_len m_len (je_var (r := .l due_4) 2 rfl)) je_int) fun _ => rfl)) (fun | (texts_3, due_4) => (jb_popW 3 2 (fun | (part_7, due_6) => [some (.v v_term), some (.l texts_3), some (.l due_6), some (.v part_7), none]) w0 hN (fun | (part_7, due_6) => (jb_ifE w0 (JT.to (jt_val (je_isi m_isinstance m_str (je_var (r := .v part_7) 3 rfl))) fun _ => rfl) (jb_append 1 w0 (JE.to (je_var (r := .v part_7) 3 rfl) fun _ => rfl) (Γ' := fun texts_10 => [some (.v v_term), some (.l texts_10), some (.l due_6), some (.v part_7), none]) (fun texts_10 => (jb_nil (a := (texts_10, due_6)) (.keep (.keep (.keep (.drop (.keep .nil)))))))) (jb_ifE w0 (JT.to (jt_q hr (je_var (r := .v part_7) 3 rfl) (je_glob g_TOP)) fun _ => rfl) (jb_append 1 w0 (JE.to je_str fun _ => rfl) (Γ' := fun texts_12 => [some (.v v_term), some (.l texts_12), some (.l due_6), some (.v part_7), none]) (fun texts_12 => (jb_nil (a := (texts_12, due_6)) (.keep (.keep (.keep (.drop (.keep .nil)))))))) (jb_ifE w0 (JT.to (jt_q hr (je_len m_len (je_var (r := .v part_7) 3 rfl)) je_int) fun _ => rfl) (jb_append 1 w0 (JE.to (je_ix hr (je_var (r := .v part_7) 3 rfl) je_int) fun _ => rfl) (Γ' := fun texts_15 => [some (.v v_term), some (.l texts_15), some (.l due_6), some (.v part_7), none]) (fun texts_15 => (jb_nil (a := (texts_15, due_6)) (.keep (.keep (.keep (.drop (.keep .nil)))))))) (jb_append 1 w0 (JE.to (je_add (je_ix hr (je_var (r := .v part_7) 3 rfl) je_int) je_str) fun _ => rfl) (Γ' := fun texts_17 => [some (.v v_term), some (.l texts_17), some (.l due_6), some (.v part_7), none]) (fun texts_17 => (jb_append 2 w0 (JE.to je_str fun _ => rfl) (Γ' := fun due_19 => [some (.v v_term), some (.l texts_17), some (.l due_19), some (.v part_7), none]) (fun due_19 => (jb_forS (A := List FV) ((fun due_26 => [some (.v v_term), some (.l texts_17), some (.l due_26), some (.v part_7), none] : (List FV) → Sl)) due_19 (Γb := fun due_22 argument_21 => [some (.v v_term), some (.l texts_17), some (.l due_22), some (.v part_7), some (.v argument_21)]) (hΓ := fun due_22 argument_21 => rfl) w0 hp rfl (JI.to (ji_seq (je_revK 1 rfl (je_var (r := .v part_7) 3 rfl))) fun _ => rfl) (jg_name 4 hN) (fun due_22 argument_21 => (jb_extend 2 w0 (JE.to (je_lst (ja_cons (je_var (r := .v argument_21) 4 rfl) (ja_cons je_str ja_nil))) fun _ => rfl) (Γ' := fun due_23 => [some (.v v_term), some (.l texts_17), some (.l due_23), some (.v part_7), some (.v argument_21)]) (fun due_23 => (jb_nil (a := due_23) (.keep (.keep (.keep (.keep (.drop .nil))))))))) (.keep (.keep (.keep (.keep (.keep .nil))))) (fun due_26 => (jb_append 2 w0 (JE.to (je_ix hr (je_var (r := .v part_7) 3 rfl) je_int) fun _ => rfl) (Γ' := fun due_27 => [some (.v v_term), some (.l texts_17), some (.l due_27), some (.v part_7), none]) (fun due_27 => (jb_nil (a := (texts_17, due_27)) (.keep (.keep (.keep (.drop (.keep .nil)))))))))))))))))))) (.keep (.keep (.keep (.keep (.keep .nil))))) (fun | (texts_32, due_33) => (jb_ret w0 (JE.to (je_join je_str (je_var (r := .l texts_32) 1 rfl)) fun _ => rfl)))))))))
/-! ### _arguments -/
abbrev s__arguments : Stmt := top 5
abbrev N__arguments : List Str := ["term"]
theorem sc__arguments : FnScope N__arguments ["term"] (defScope s__arguments) := ⟨rfl, rfl, rfl, by decide +kernel, rfl, by decide +kernel, by decide +kernel⟩
theorem ok__arguments {a : Addr} {fd : FuncData} {n : Nat} {t : Tab} (F : Fun K "_arguments" "_arguments" s__arguments a fd)   (m_isinstance : mg "isinstance" = none) (m_str : mg "str" = none)       :
    FnOk P w K mg base (L2.CX P w) (n + 1) a fd ["term"] (spP ⟨K, mg⟩ (f1 fun v_term => toF (n_arguments t v_term))) :=
  mk_fnP (nL := 0) (b := b1 (n_arguments t)) F sc__arguments rfl rfl (arg1 fun _ => trivial) fun cdv A outer s H E hr => by
    have tk : Tk (CxP P w K mg base N__arguments "_arguments" (defScope s__arguments) a cdv A outer s H E) (fun cls d _ H => E cls d H) := .inl (takes_of rfl rfl rfl rfl)
    have te : TkE (CxP P w K mg base N__arguments "_arguments" (defScope s__arguments) a cdv A outer s H E) (fun cls d _ H => E cls d H) := te_own (takes_of rfl rfl rfl rfl)
    have hp : PassesOwn (model P w) (CxP P w K mg base N__arguments "_arguments" (defScope s__arguments) a cdv A outer s H E).A (CxP P w K mg base N__arguments "_arguments" (defScope s__arguments) a cdv A outer s H E).env (CxP P w K mg base N__arguments "_arguments" (defScope s__arguments) a cdv A outer s H E).xe := passes_of rfl
    have hN : (CxP P w K mg base N__arguments "_arguments" (defScope s__arguments) a cdv A outer s H E).N.Nodup := sc__arguments.nd
    have w0 : ∀ {Γ : Sl}, SubX none Γ := trivial
    exact arg1 fun v_term E' => (show JB _ _ _ _ _ _ _ _ (n_arguments t v_term) from (jb_ifR w0 (JT.to (jt_val (je_isi m_isinstance m_str (je_var (r := .v v_term) 0 rfl))) fun _ => rfl) (JE.to (je_tup ja_nil) fun _ => rfl) (jb_ret w0 (JE.to (je_sl (je_var (r := .v v_term) 0 rfl) (jp_some je_int) jp_none) fun _ => rfl))))
/-! ### _all_parts -/
abbrev s__all_parts : Stmt := top 6
abbrev N__all_parts : List Str := ["term", "parts", "due", "part"]
theorem sc__all_parts : FnScope N__all_parts ["term"] (defScope s__all_parts) := ⟨rfl, rfl, rfl, by decide +kernel, rfl, by decide +kernel, by decide +kernel⟩
theorem ok__all_parts {a : Addr} {fd : FuncData} {n : Nat} {t : Tab} (F : Fun K "_all_parts" "_all_parts" s__all_parts a fd) (h__arguments : HasF P w K mg base n "_arguments" ["term"] (f1 t.d_arguments))  (m_len : mg "len" = none)       :
    FnOk P w K mg base (L2.CX P w) (n + 1) a fd ["term"] (spP ⟨K, mg⟩ (f1 fun v_term => toF (n_all_parts t v_term))) :=
  mk_fnP (nL := 3) (b := b1 (n_all_parts t)) F sc__all_parts rfl rfl (arg1 fun _ => trivial) fun cdv A outer s H E hr => by
    have tk : Tk (CxP P w K mg base N__all_parts "_all_parts" (defScope s__all_parts) a cdv A outer s H E) (fun cls d _ H => E cls d H) := .inl (takes_of rfl rfl rfl rfl)
    have te : TkE (CxP P w K mg base N__all_parts "_all_parts" (defScope s__all_parts) a cdv A outer s H E) (fun cls d _ H => E cls d H) := te_own (takes_of rfl rfl rfl rfl)
    have hp : PassesOwn (model P w) (CxP P w K mg base N__all_parts "_all_parts" (defScope s__all_parts) a cdv A outer s H E).A (CxP P w K mg base N__all_parts "_all_parts" (defScope s__all_parts) a cdv A outer s H E).env (CxP P w K mg base N__all_parts "_all_parts" (defScope s__all_parts) a cdv A outer s H E).xe := passes_of rfl
    have hN : (CxP P w K mg base N__all_parts "_all_parts" (defScope s__all_parts) a cdv A outer s H E).N.Nodup := sc__all_parts.nd
    have w0 : ∀ {Γ : Sl}, SubX none Γ := trivial
    exact arg1 fun v_term E' => (show JB _ _ _ _ _ _ _ _ (n_all_parts t v_term) from (jb_setL 1 w0 hN (JE.to (je_lst ja_nil) fun _ => rfl) (Γ' := fun parts_1 => [some (.v v_term), some (.l parts_1), none, none]) (fun parts_1 => (jb_setL 2 w0 hN (JE.to (je_lst (ja_cons (je_var (r := .v v_term) 0 rfl) ja_nil)) fun _ => rfl) (Γ' := fun due_2 => [some (.v v_term), some (.l parts_1), some (.l due_2), none]) (fun due_2 => (jb_while (A := List FV × List FV) ((fun | (parts_14, due_15) => [some (.v v_term), some (.l parts_14), some (.l due_15), none] : (List FV × List FV) → Sl)) (parts_1, due_2) FUEL hp (fun | (parts_3, due_4) => w0) (fun | (parts_3, due_4) => (JT.to (jt_gt (je_len m_len (je_var (r := .l due_4) 2 rfl)) je_int) fun _ => rfl)) (fun | (parts_3, due_4) => (jb_popW 3 2 (fun | (part_7, due_6) => [some (.v v_term), some (.l parts_3), some (.l due_6), some (.v part_7)]) w0 hN (fun | (part_7, due_6) => (jb_append 1 w0 (JE.to (je_var (r := .v part_7) 3 rfl) fun _ => rfl) (Γ' := fun parts_8 => [some (.v v_term), some (.l parts_8), some (.l due_6), some (.v part_7)]) (fun parts_8 => (jb_extendU 2 w0 (JE.to (je_revS (je_call tk h__arguments hr (Nat.le_refl _) (ja_cons (je_var (r := .v part_7) 3 rfl) ja_nil))) fun _ => rfl) (Γ' := fun due_9 => [some (.v v_term), some (.l parts_8), some (.l due_9), some (.v part_7)]) (fun due_9 => (jb_nil (a := (parts_8, due_9)) (.keep (.keep (.keep (.drop .nil)))))))))))) (.keep (.keep (.keep (.keep .nil)))) (fun | (parts_14, due_15) => (jb_retS 1))))))))
/-! ### make_literal -/
abbrev s_make_literal : Stmt := top 8
abbrev N_make_literal : List Str := ["sign", "left", "right"]
theorem sc_make_literal : FnScope N_make_literal ["sign", "left", "right"] (defScope s_make_literal) := ⟨rfl, rfl, rfl, by decide +kernel, rfl, by decide +kernel, by decide +kernel⟩
theorem ok_make_literal {a : Addr} {fd : FuncData} {n : Nat} {t : Tab} (F : Fun K "make_literal" "make_literal" s_make_literal a fd) (h_term_text : HasF P w K mg base n "term_text" ["term"] (f1 t.d_term_text))   (g_TOP : GC K mg "TOP" c_TOP)      :
    FnOk P w K mg base (L2.CX P w) (n + 1) a fd ["sign", "left", "right"] (spP ⟨K, mg⟩ (f3 fun v_sign v_left v_right => toF (n_make_literal t v_sign v_left v_right))) :=
  mk_fnP (nL := 0) (b := b3 (n_make_literal t)) F sc_make_literal rfl rfl (arg3 fun _ _ _ => trivial) fun cdv A outer s H E hr => by
    have tk : Tk (CxP P w K mg base N_make_literal "make_literal" (defScope s_make_literal) a cdv A outer s H E) (fun cls d _ H => E cls d H) := .inl (takes_of rfl rfl rfl rfl)
    have te : TkE (CxP P w K mg base N_make_literal "make_literal" (defScope s_make_literal) a cdv A outer s H E) (fun cls d _ H => E cls d H) := te_own (takes_of rfl rfl rfl rfl)
    have hp : PassesOwn (model P w) (CxP P w K mg base N_make_literal "make_literal" (defScope s_make_literal) a cdv A outer s H E).A (CxP P w K mg base N_make_literal "make_literal" (defScope s_make_literal) a cdv A outer s H E).env (CxP P w K mg base N_make_literal "make_literal" (defScope s_make_literal) a cdv A outer s H E).xe := passes_of rfl
    have hN : (CxP P w K mg base N_make_literal "make_literal" (defScope s_make_literal) a cdv A outer s H E).N.Nodup := sc_make_literal.nd
    have w0 : ∀ {Γ : Sl}, SubX none Γ := trivial
    exact arg3 fun v_sign v_left v_right E' => (show JB _ _ _ _ _ _ _ _ (n_make_literal t v_sign v_left v_right) from (jb_ifR w0 (JT.to (jt_q hr (je_var (r := .v v_right) 2 rfl) (je_glob g_TOP)) fun _ => rfl) (JE.to (je_tup (ja_cons (je_var (r := .v v_sign) 0 rfl) (ja_cons (je_var (r := .v v_left) 1 rfl) (ja_cons (je_var (r := .v v_right) 2 rfl) ja_nil)))) fun _ => rfl) (jb_ifR w0 (JT.to (jt_bool (jw_or (jt_q hr (je_var (r := .v v_left) 1 rfl) (je_glob g_TOP)) (jw_or1 (jt_lt (je_call tk h_term_text hr (Nat.le_refl _) (ja_cons (je_var (r := .v v_right) 2 rfl) ja_nil)) (je_call tk h_term_text hr (Nat.le_refl _) (ja_cons (je_var (r := .v v_left) 1 rfl) ja_nil)))))) fun _ => rfl) (JE.to (je_tup (ja_cons (je_var (r := .v v_sign) 0 rfl) (ja_cons (je_var (r := .v v_right) 2 rfl) (ja_cons (je_var (r := .v v_left) 1 rfl) ja_nil)))) fun _ => rfl) (jb_ret w0 (JE.to (je_tup (ja_cons (je_var (r := .v v_sign) 0 rfl) (ja_cons (je_var (r := .v v_left) 1 rfl) (ja_cons (je_var (r := .v v_right) 2 rfl) ja_nil)))) fun _ => rfl)))))
/-! ### literal_text -/
abbrev s_literal_text : Stmt := top 9
abbrev N_literal_text : List Str := ["literal", "sign", "left", "right", "mark"]
theorem sc_literal_text : FnScope N_literal_text ["literal"] (defScope s_literal_text) := ⟨rfl, rfl, rfl, by decide +kernel, rfl, by decide +kernel, by decide +kernel⟩
theorem ok_literal_text {a : Addr} {fd : FuncData} {n : Nat} {t : Tab} (F : Fun K "literal_text" "literal_text" s_literal_text a fd) (h_term_text : HasF P w K mg base n "term_text" ["term"] (f1 t.d_term_text))   (g_TOP : GC K mg "TOP" c_TOP)      :
    FnOk P w K mg base (L2.CX P w) (n + 1) a fd ["literal"] (spP ⟨K, mg⟩ (f1 fun v_literal => toF (n_literal_text t v_literal))) :=
  mk_fnP (nL := 4) (b := b1 (n_literal_text t)) F sc_literal_text rfl rfl (arg1 fun _ => trivial) fun cdv A outer s H E hr => by
    have tk : Tk (CxP P w K mg base N_literal_text "literal_text" (defScope s_literal_text) a cdv A outer s H E) (fun cls d _ H => E cls d H) := .inl (takes_of rfl rfl rfl rfl)
    have te : TkE (CxP P w K mg base N_literal_text "literal_text" (defScope s_literal_text) a cdv A outer s H E) (fun cls d _ H => E cls d H) := te_own (takes_of rfl rfl rfl rfl)
    have hp : PassesOwn (model P w) (CxP P w K mg base N_literal_text "literal_text" (defScope s_literal_text) a cdv A outer s H E).A (CxP P w K mg base N_literal_text "literal_text" (defScope s_literal_text) a cdv A outer s H E).env (CxP P w K mg base N_literal_text "literal_text" (defScope s_literal_text) a cdv A outer s H E).xe := passes_of rfl
    have hN : (CxP P w K mg base N_literal_text "literal_text" (defScope s_literal_text) a cdv A outer s H E).N.Nodup := sc_literal_text.nd
    have w0 : ∀ {Γ : Sl}, SubX none Γ := trivial
    exact arg1 fun v_literal E' => (show JB _ _ _ _ _ _ _ _ (n_literal_text t v_literal) from (jb_asgT w0 (jg_tup rfl (jg_cons (jg_name 1 hN) (jg_cons (jg_name 2 hN) (jg_cons (jg_name 3 hN) jg_nil)))) (JE.to (je_var (r := .v v_literal) 0 rfl) fun _ => rfl) (Γ' := fun | (sign_3, (left_2, (right_1, ()))) => [some (.v v_literal), some (.v sign_3), some (.v left_2), some (.v right_1), none]) (hΓ := fun | (sign_3, (left_2, (right_1, ()))) => rfl) (fun | (sign_3, (left_2, (right_1, ()))) => (jb_ifR w0 (JT.to (jt_bool (jw_and (jt_q hr (je_var (r := .v right_1) 3 rfl) (je_glob g_TOP)) (jw_and1 (jt_nq hr (je_var (r := .v left_2) 2 rfl) (je_glob g_TOP))))) fun _ => rfl) (JE.to (je_ifE (jt_val (je_var (r := .v sign_3) 1 rfl)) (je_call tk h_term_text hr (Nat.le_refl _) (ja_cons (je_var (r := .v left_2) 2 rfl) ja_nil)) (je_add je_str (je_call tk h_term_text hr (Nat.le_refl _) (ja_cons (je_var (r := .v left_2) 2 rfl) ja_nil)))) fun _ => rfl) (jb_set 4 w0 hN (JE.to (je_ifE (jt_val (je_var (r := .v sign_3) 1 rfl)) je_str je_str) fun _ => rfl) (Γ' := fun mark_8 => [some (.v v_literal), some (.v sign_3), some (.v left_2), some (.v right_1), some (.v mark_8)]) (fun mark_8 => (jb_ret w0 (JE.to (je_add (je_add (je_call tk h_term_text hr (Nat.le_refl _) (ja_cons (je_var (r := .v left_2) 2 rfl) ja_nil)) (je_var (r := .v mark_8) 4 rfl)) (je_call tk h_term_text hr (Nat.le_refl _) (ja_cons (je_var (r := .v right_1) 3 rfl) ja_nil))) fun _ => rfl))))))))
/-! ### opposite -/
abbrev s_opposite : Stmt := top 10
abbrev N_opposite : List Str := ["literal", "sign", "left", "right"]
theorem sc_opposite : FnScope N_opposite ["literal"] (defScope s_opposite) := ⟨rfl, rfl, rfl, by decide +kernel, rfl, by decide +kernel, by decide +kernel⟩
theorem ok_opposite {a : Addr} {fd : FuncData} {n : Nat} {t : Tab} (F : Fun K "opposite" "opposite" s_opposite a fd)          :
    FnOk P w K mg base (L2.CX P w) (n + 1) a fd ["literal"] (spP ⟨K, mg⟩ (f1 fun v_literal => toF (n_opposite t v_literal))) :=
  mk_fnP (nL := 3) (b := b1 (n_opposite t)) F sc_opposite rfl rfl (arg1 fun _ => trivial) fun cdv A outer s H E hr => by
    have tk : Tk (CxP P w K mg base N_opposite "opposite" (defScope s_opposite) a cdv A outer s H E) (fun cls d _ H => E cls d H) := .inl (takes_of rfl rfl rfl rfl)
    have te : TkE (CxP P w K mg base N_opposite "opposite" (defScope s_opposite) a cdv A outer s H E) (fun cls d _ H => E cls d H) := te_own (takes_of rfl rfl rfl rfl)
    have hp : PassesOwn (model P w) (CxP P w K mg base N_opposite "opposite" (defScope s_opposite) a cdv A outer s H E).A (CxP P w K mg base N_opposite "opposite" (defScope s_opposite) a cdv A outer s H E).env (CxP P w K mg base N_opposite "opposite" (defScope s_opposite) a cdv A outer s H E).xe := passes_of rfl
    have hN : (CxP P w K mg base N_opposite "opposite" (defScope s_opposite) a cdv A outer s H E).N.Nodup := sc_opposite.nd
    have w0 : ∀ {Γ : Sl}, SubX none Γ := trivial
    exact arg1 fun v_literal E' => (show JB _ _ _ _ _ _ _ _ (n_opposite t v_literal) from (jb_asgT w0 (jg_tup rfl (jg_cons (jg_name 1 hN) (jg_cons (jg_name 2 hN) (jg_cons (jg_name 3 hN) jg_nil)))) (JE.to (je_var (r := .v v_literal) 0 rfl) fun _ => rfl) (Γ' := fun | (sign_3, (left_2, (right_1, ()))) => [some (.v v_literal), some (.v sign_3), some (.v left_2), some (.v right_1)]) (hΓ := fun | (sign_3, (left_2, (right_1, ()))) => rfl) (fun | (sign_3, (left_2, (right_1, ()))) => (jb_ret w0 (JE.to (je_tup (ja_cons (je_not (je_var (r := .v sign_3) 1 rfl)) (ja_cons (je_var (r := .v left_2) 2 rfl) (ja_cons (je_var (r := .v right_1) 3 rfl) ja_nil)))) fun _ => rfl)))))
/-! ### make_clause -/
abbrev s_make_clause : Stmt := top 11
abbrev N_make_clause : List Str := ["literals", "clause", "literal"]
theorem sc_make_clause : FnScope N_make_clause ["literals"] (defScope s_make_clause) := ⟨rfl, rfl, rfl, by decide +kernel, rfl, by decide +kernel, by decide +kernel⟩
theorem ok_make_clause {a : Addr} {fd : FuncData} {n : Nat} {t : Tab} (F : Fun K "make_clause" "make_clause" s_make_clause a fd) (h_literal_text : HasF P w K mg base n "literal_text" ["literal"] (f1 t.d_literal_text))  (m_sorted : mg "sorted" = none) (m_tuple : mg "tuple" = none)       :
    FnOk P w K mg base (L2.CX P w) (n + 1 + 1) a fd ["literals"] (spP ⟨K, mg⟩ (f1 fun v_literals => toF (n_make_clause t v_literals))) :=
  mk_fnP (nL := 2) (b := b1 (n_make_clause t)) F sc_make_clause rfl rfl (arg1 fun _ => trivial) fun cdv A outer s H E hr => by
    have tk : Tk (CxP P w K mg base N_make_clause "make_clause" (defScope s_make_clause) a cdv A outer s H E) (fun cls d _ H => E cls d H) := .inl (takes_of rfl rfl rfl rfl)
    have te : TkE (CxP P w K mg base N_make_clause "make_clause" (defScope s_make_clause) a cdv A outer s H E) (fun cls d _ H => E cls d H) := te_own (takes_of rfl rfl rfl rfl)
    have hp : PassesOwn (model P w) (CxP P w K mg base N_make_clause "make_clause" (defScope s_make_clause) a cdv A outer s H E).A (CxP P w K mg base N_make_clause "make_clause" (defScope s_make_clause) a cdv A outer s H E).env (CxP P w K mg base N_make_clause "make_clause" (defScope s_make_clause) a cdv A outer s H E).xe := passes_of rfl
    have hN : (CxP P w K mg base N_make_clause "make_clause" (defScope s_make_clause) a cdv A outer s H E).N.Nodup := sc_make_clause.nd
    have w0 : ∀ {Γ : Sl}, SubX none Γ := trivial
    exact arg1 fun v_literals E' => (show JB _ _ _ _ _ _ _ _ (n_make_clause t v_literals) from (jb_setL 1 w0 hN (JE.to (je_lst ja_nil) fun _ => rfl) (Γ' := fun clause_1 => [some (.v v_literals), some (.l clause_1), none]) (fun clause_1 => (jb_forS (A := List FV) ((fun clause_7 => [some (.v v_literals), some (.l clause_7), none] : (List FV) → Sl)) clause_1 (Γb := fun clause_4 literal_3 => [some (.v v_literals), some (.l clause_4), some (.v literal_3)]) (hΓ := fun clause_4 literal_3 => rfl) w0 hp rfl (JI.to (ji_seq (je_sortK h_literal_text hr m_sorted (je_var (r := .v v_literals) 0 rfl))) fun _ => rfl) (jg_name 2 hN) (fun clause_4 literal_3 => (jb_ifE w0 (JT.to (jt_nmx hr (je_var (r := .v literal_3) 2 rfl) (je_var (r := .l clause_4) 1 rfl)) fun _ => rfl) (jb_append 1 w0 (JE.to (je_var (r := .v literal_3) 2 rfl) fun _ => rfl) (Γ' := fun clause_6 => [some (.v v_literals), some (.l clause_6), some (.v literal_3)]) (fun clause_6 => (jb_nil (a := clause_6) (.keep (.keep (.drop .nil)))))) (jb_nil (a := clause_4) (.keep (.keep (.drop .nil)))))) (.keep (.keep (.keep .nil))) (fun clause_7 => (jb_ret w0 (JE.to (je_tuple m_tuple (je_var (r := .l clause_7) 1 rfl)) fun _ => rfl)))))))
/-! ### fill_clause -/
abbrev s_fill_clause : Stmt := top 12
abbrev N_fill_clause : List Str := ["clause", "filling", "literal"]
theorem sc_fill_clause : FnScope N_fill_clause ["clause", "filling"] (defScope s_fill_clause) := ⟨rfl, rfl, rfl, by decide +kernel, rfl, by decide +kernel, by decide +kernel⟩
theorem ok_fill_clause {a : Addr} {fd : FuncData} {n : Nat} {t : Tab} (F : Fun K "fill_clause" "fill_clause" s_fill_clause a fd) (h_make_clause : HasF P w K mg base n "make_clause" ["literals"] (f1 t.d_make_clause)) (h__fill_literal : HasF P w K mg base n "_fill_literal" ["literal", "filling"] (f2 t.d_fill_literal))         :
    FnOk P w K mg base (L2.CX P w) (n + 1) a fd ["clause", "filling"] (spP ⟨K, mg⟩ (f2 fun v_clause v_filling => toF (n_fill_clause t v_clause v_filling))) :=
  mk_fnP (nL := 1) (b := b2 (n_fill_clause t)) F sc_fill_clause rfl rfl (arg2 fun _ _ => trivial) fun cdv A outer s H E hr => by
    have tk : Tk (CxP P w K mg base N_fill_clause "fill_clause" (defScope s_fill_clause) a cdv A outer s H E) (fun cls d _ H => E cls d H) := .inl (takes_of rfl rfl rfl rfl)
    have te : TkE (CxP P w K mg base N_fill_clause "fill_clause" (defScope s_fill_clause) a cdv A outer s H E) (fun cls d _ H => E cls d H) := te_own (takes_of rfl rfl rfl rfl)
    have hp : PassesOwn (model P w) (CxP P w K mg base N_fill_clause "fill_clause" (defScope s_fill_clause) a cdv A outer s H E).A (CxP P w K mg base N_fill_clause "fill_clause" (defScope s_fill_clause) a cdv A outer s H E).env (CxP P w K mg base N_fill_clause "fill_clause" (defScope s_fill_clause) a cdv A outer s H E).xe := passes_of rfl
    have hN : (CxP P w K mg base N_fill_clause "fill_clause" (defScope s_fill_clause) a cdv A outer s H E).N.Nodup := sc_fill_clause.nd
    have w0 : ∀ {Γ : Sl}, SubX none Γ := trivial
    exact arg2 fun v_clause v_filling E' => (show JB _ _ _ _ _ _ _ _ (n_fill_clause t v_clause v_filling) from (jb_ret w0 (JE.to (je_call tk h_make_clause hr (Nat.le_refl _) (ja_cons (je_lc [("literal", 2)] rfl hN (JI.to (ji_seq (je_var (r := .v v_clause) 0 rfl)) fun _ => rfl) (blkOk_by (N := N_fill_clause) (sc := defScope s_fill_clause) (by decide +kernel)) (jgb_name 2 (fun _ _ _ _ _ => hN)) (by decide) (fun literal_1 => fun _ _ _ _ _ => (JTs.to jts_nil fun _ => rfl)) (fun literal_1 => fun _ _ _ _ _ => (JE.to (je_call (.inr rfl) h__fill_literal hr (Nat.le_refl _) (ja_cons (je_var (r := .v literal_1) 2 rfl) (ja_cons (je_var (r := .v v_filling) 1 rfl) ja_nil))) fun _ => rfl)) (hΓ := fun literal_1 => rfl) (Γc := fun literal_1 => [some (.v v_clause), some (.v v_filling), some (.v literal_1)]) (t := fun literal_1 => (pur true)) (fe := fun literal_1 => (t.d_fill_literal literal_1 v_filling))) ja_nil)) fun _ => rfl)))
/-! ### clause_text -/
abbrev s_clause_text : Stmt := top 13
abbrev N_clause_text : List Str := ["clause", "literal"]
theorem sc_clause_text : FnScope N_clause_text ["clause"] (defScope s_clause_text) := ⟨rfl, rfl, rfl, by decide +kernel, rfl, by decide +kernel, by decide +kernel⟩
theorem ok_clause_text {a : Addr} {fd : FuncData} {n : Nat} {t : Tab} (F : Fun K "clause_text" "clause_text" s_clause_text a fd) (h_literal_text : HasF P w K mg base n "literal_text" ["literal"] (f1 t.d_literal_text))  (m_len : mg "len" = none)       :
    FnOk P w K mg base (L2.CX P w) (n + 1) a fd ["clause"] (spP ⟨K, mg⟩ (f1 fun v_clause => toF (n_clause_text t v_clause))) :=
  mk_fnP (nL := 1) (b := b1 (n_clause_text t)) F sc_clause_text rfl rfl (arg1 fun _ => trivial) fun cdv A outer s H E hr => by
    have tk : Tk (CxP P w K mg base N_clause_text "clause_text" (defScope s_clause_text) a cdv A outer s H E) (fun cls d _ H => E cls d H) := .inl (takes_of rfl rfl rfl rfl)
    have te : TkE (CxP P w K mg base N_clause_text "clause_text" (defScope s_clause_text) a cdv A outer s H E) (fun cls d _ H => E cls d H) := te_own (takes_of rfl rfl rfl rfl)
    have hp : PassesOwn (model P w) (CxP P w K mg base N_clause_text "clause_text" (defScope s_clause_text) a cdv A outer s H E).A (CxP P w K mg base N_clause_text "clause_text" (defScope s_clause_text) a cdv A outer s H E).env (CxP P w K mg base N_clause_text "clause_text" (defScope s_clause_text) a cdv A outer s H E).xe := passes_of rfl
    have hN : (CxP P w K mg base N_clause_text "clause_text" (defScope s_clause_text) a cdv A outer s H E).N.Nodup := sc_clause_text.nd
    have w0 : ∀ {Γ : Sl}, SubX none Γ := trivial
    exact arg1 fun v_clause E' => (show JB _ _ _ _ _ _ _ _ (n_clause_text t v_clause) from (jb_ifR w0 (JT.to (jt_q hr (je_len m_len (je_var (r := .v v_clause) 0 rfl)) je_int) fun _ => rfl) (JE.to je_str fun _ => rfl) (jb_ret w0 (JE.to (je_join je_str (je_lc [("literal", 1)] rfl hN (JI.to (ji_seq (je_var (r := .v v_clause) 0 rfl)) fun _ => rfl) (blkOk_by (N := N_clause_text) (sc := defScope s_clause_text) (by decide +kernel)) (jgb_name 1 (fun _ _ _ _ _ => hN)) (by decide) (fun literal_3 => fun _ _ _ _ _ => (JTs.to jts_nil fun _ => rfl)) (fun literal_3 => fun _ _ _ _ _ => (JE.to (je_call (.inr rfl) h_literal_text hr (Nat.le_refl _) (ja_cons (je_var (r := .v literal_3) 1 rfl) ja_nil)) fun _ => rfl)) (hΓ := fun literal_3 => rfl) (Γc := fun literal_3 => [some (.v v_clause), some (.v literal_3)]) (t := fun literal_3 => (pur true)) (fe := fun literal_3 => (t.d_literal_text literal_3)))) fun _ => rfl))))
/-! ### clause_unknowns -/
abbrev s_clause_unknowns : Stmt := top 14
abbrev N_clause_unknowns : List Str := ["clause", "found", "_", "left", "right", "name"]
theorem sc_clause_unknowns : FnScope N_clause_unknowns ["clause"] (defScope s_clause_unknowns) := ⟨rfl, rfl, rfl, by decide +kernel, rfl, by decide +kernel, by decide +kernel⟩
theorem ok_clause_unknowns {a : Addr} {fd : FuncData} {n : Nat} {t : Tab} (F : Fun K "clause_unknowns" "clause_unknowns" s_clause_unknowns a fd) (h_unknowns_of : HasF P w K mg base n "unknowns_of" ["term"] (f1 t.d_unknowns_of))  (m_list : mg "list" = none)       :
    FnOk P w K mg base (L2.CX P w) (n + 1) a fd ["clause"] (spP ⟨K, mg⟩ (f1 fun v_clause => toF (n_clause_unknowns t v_clause))) :=
  mk_fnP (nL := 5) (b := b1 (n_clause_unknowns t)) F sc_clause_unknowns rfl rfl (arg1 fun _ => trivial) fun cdv A outer s H E hr => by
    have tk : Tk (CxP P w K mg base N_clause_unknowns "clause_unknowns" (defScope s_clause_unknowns) a cdv A outer s H E) (fun cls d _ H => E cls d H) := .inl (takes_of rfl rfl rfl rfl)
    have te : TkE (CxP P w K mg base N_clause_unknowns "clause_unknowns" (defScope s_clause_unknowns) a cdv A outer s H E) (fun cls d _ H => E cls d H) := te_own (takes_of rfl rfl rfl rfl)
    have hp : PassesOwn (model P w) (CxP P w K mg base N_clause_unknowns "clause_unknowns" (defScope s_clause_unknowns) a cdv A outer s H E).A (CxP P w K mg base N_clause_unknowns "clause_unknowns" (defScope s_clause_unknowns) a cdv A outer s H E).env (CxP P w K mg base N_clause_unknowns "clause_unknowns" (defScope s_clause_unknowns) a cdv A outer s H E).xe := passes_of rfl
    have hN : (CxP P w K mg base N_clause_unknowns "clause_unknowns" (defScope s_clause_unknowns) a cdv A outer s H E).N.Nodup := sc_clause_unknowns.nd
    have w0 : ∀ {Γ : Sl}, SubX none Γ := trivial
    exact arg1 fun v_clause E' => (show JB _ _ _ _ _ _ _ _ (n_clause_unknowns t v_clause) from (jb_setD 1 w0 hN (JE.to je_d0 fun _ => rfl) (Γ' := fun found_1 => [some (.v v_clause), some (.d found_1), none, none, none, none]) (fun found_1 => (jb_for (A := List (Key × FV)) ((fun found_14 => [some (.v v_clause), some (.d found_14), none, none, none, none] : (List (Key × FV)) → Sl)) found_1 (Γb := fun | found_5, (_4, (left_3, (right_2, ()))) => [some (.v v_clause), some (.d found_5), some (.v _4), some (.v left_3), some (.v right_2), none]) (hΓ := fun | found_5, (_4, (left_3, (right_2, ()))) => rfl) w0 hp rfl (JI.to (ji_seq (je_var (r := .v v_clause) 0 rfl)) fun _ => rfl) (jg_tup rfl (jg_cons (jg_name 2 hN) (jg_cons (jg_name 3 hN) (jg_cons (jg_name 4 hN) jg_nil)))) (fun | found_5, (_4, (left_3, (right_2, ()))) => (jb_forS (A := List (Key × FV)) ((fun found_12 => [some (.v v_clause), some (.d found_12), some (.v _4), some (.v left_3), some (.v right_2), none] : (List (Key × FV)) → Sl)) found_5 (Γb := fun found_10 name_9 => [some (.v v_clause), some (.d found_10), some (.v _4), some (.v left_3), some (.v right_2), some (.v name_9)]) (hΓ := fun found_10 name_9 => rfl) w0 hp rfl (JI.to (ji_seq (je_add (je_call tk h_unknowns_of hr (Nat.le_refl _) (ja_cons (je_var (r := .v left_3) 3 rfl) ja_nil)) (je_call tk h_unknowns_of hr (Nat.le_refl _) (ja_cons (je_var (r := .v right_2) 4 rfl) ja_nil)))) fun _ => rfl) (jg_name 5 hN) (fun found_10 name_9 => (jb_dput 1 hr w0 (JE.to (je_bl (i := true)) fun _ => rfl) (JE.to (je_var (r := .v name_9) 5 rfl) fun _ => rfl) (Γ' := fun found_11 => [some (.v v_clause), some (.d found_11), some (.v _4), some (.v left_3), some (.v right_2), some (.v name_9)]) (fun found_11 => (jb_nil (a := found_11) (.keep (.keep (.keep (.keep (.keep (.drop .nil)))))))))) (.keep (.keep (.keep (.keep (.keep (.keep .nil)))))) (fun found_12 => (jb_nil (a := found_12) (.keep (.keep (.drop (.drop (.drop (.keep .nil)))))))))) (.keep (.keep (.keep (.keep (.keep (.keep .nil)))))) (fun found_14 => (jb_ret w0 (JE.to (je_list rfl m_list (je_var (r := .d found_14) 1 rfl)) fun _ => rfl)))))))
/-! ### is_ground -/
abbrev s_is_ground : Stmt := top 15
abbrev N_is_ground : List Str := ["clause"]
theorem sc_is_ground : FnScope N_is_ground ["clause"] (defScope s_is_ground) := ⟨rfl, rfl, rfl, by decide +kernel, rfl, by decide +kernel, by decide +kernel⟩
theorem ok_is_ground {a : Addr} {fd : FuncData} {n : Nat} {t : Tab} (F : Fun K "is_ground" "is_ground" s_is_ground a fd) (h_clause_unknowns : HasF P w K mg base n "clause_unknowns" ["clause"] (f1 t.d_clause_unknowns))  (m_len : mg "len" = none)       :
    FnOk P w K mg base (L2.CX P w) (n + 1) a fd ["clause"] (spP ⟨K, mg⟩ (f1 fun v_clause => toF (n_is_ground t v_clause))) :=
  mk_fnP (nL := 0) (b := b1 (n_is_ground t)) F sc_is_ground rfl rfl (arg1 fun _ => trivial) fun cdv A outer s H E hr => by
    have tk : Tk (CxP P w K mg base N_is_ground "is_ground" (defScope s_is_ground) a cdv A outer s H E) (fun cls d _ H => E cls d H) := .inl (takes_of rfl rfl rfl rfl)
    have te : TkE (CxP P w K mg base N_is_ground "is_ground" (defScope s_is_ground) a cdv A outer s H E) (fun cls d _ H => E cls d H) := te_own (takes_of rfl rfl rfl rfl)
    have hp : PassesOwn (model P w) (CxP P w K mg base N_is_ground "is_ground" (defScope s_is_ground) a cdv A outer s H E).A (CxP P w K mg base N_is_ground "is_ground" (defScope s_is_ground) a cdv A outer s H E).env (CxP P w K mg base N_is_ground "is_ground" (defScope s_is_ground) a cdv A outer s H E).xe := passes_of rfl
    have hN : (CxP P w K mg base N_is_ground "is_ground" (defScope s_is_ground) a cdv A outer s H E).N.Nodup := sc_is_ground.nd
    have w0 : ∀ {Γ : Sl}, SubX none Γ := trivial
    exact arg1 fun v_clause E' => (show JB _ _ _ _ _ _ _ _ (n_is_ground t v_clause) from (jb_ret w0 (JE.to (je_q hr (je_len m_len (je_call tk h_clause_unknowns hr (Nat.le_refl _) (ja_cons (je_var (r := .v v_clause) 0 rfl) ja_nil))) je_int) fun _ => rfl)))
/-! ### always_true -/
abbrev s_always_true : Stmt := top 16
abbrev N_always_true : List Str := ["clause", "literal", "sign", "left", "right"]
theorem sc_always_true : FnScope N_always_true ["clause"] (defScope s_always_true) := ⟨rfl, rfl, rfl, by decide +kernel, rfl, by decide +kernel, by decide +kernel⟩
theorem ok_always_true {a : Addr} {fd : FuncData} {n : Nat} {t : Tab} (F : Fun K "always_true" "always_true" s_always_true a fd) (h_opposite : HasF P w K mg base n "opposite" ["literal"] (f1 t.d_opposite))         :
    FnOk P w K mg base (L2.CX P w) (n + 1) a fd ["clause"] (spP ⟨K, mg⟩ (f1 fun v_clause => toF (n_always_true t v_clause))) :=
  mk_fnP (nL := 4) (b := b1 (n_always_true t)) F sc_always_true rfl rfl (arg1 fun _ => trivial) fun cdv A outer s H E hr => by
    have tk : Tk (CxP P w K mg base N_always_true "always_true" (defScope s_always_true) a cdv A outer s H E) (fun cls d _ H => E cls d H) := .inl (takes_of rfl rfl rfl rfl)
    have te : TkE (CxP P w K mg base N_always_true "always_true" (defScope s_always_true) a cdv A outer s H E) (fun cls d _ H => E cls d H) := te_own (takes_of rfl rfl rfl rfl)
    have hp : PassesOwn (model P w) (CxP P w K mg base N_always_true "always_true" (defScope s_always_true) a cdv A outer s H E).A (CxP P w K mg base N_always_true "always_true" (defScope s_always_true) a cdv A outer s H E).env (CxP P w K mg base N_always_true "always_true" (defScope s_always_true) a cdv A outer s H E).xe := passes_of rfl
    have hN : (CxP P w K mg base N_always_true "always_true" (defScope s_always_true) a cdv A outer s H E).N.Nodup := sc_always_true.nd
    have w0 : ∀ {Γ : Sl}, SubX none Γ := trivial
    exact arg1 fun v_clause E' => (show JB _ _ _ _ _ _ _ _ (n_always_true t v_clause) from (jb_forS (A := Unit) ((fun _ => [some (.v v_clause), none, none, none, none] : (Unit) → Sl)) () (Γb := fun _ literal_1 => [some (.v v_clause), some (.v literal_1), none, none, none]) (hΓ := fun _ literal_1 => rfl) w0 hp rfl (JI.to (ji_seq (je_var (r := .v v_clause) 0 rfl)) fun _ => rfl) (jg_name 1 hN) (fun _ literal_1 => (jb_asgT w0 (jg_tup rfl (jg_cons (jg_name 2 hN) (jg_cons (jg_name 3 hN) (jg_cons (jg_name 4 hN) jg_nil)))) (JE.to (je_var (r := .v literal_1) 1 rfl) fun _ => rfl) (Γ' := fun | (sign_4, (left_3, (right_2, ()))) => [some (.v v_clause), some (.v literal_1), some (.v sign_4), some (.v left_3), some (.v right_2)]) (hΓ := fun | (sign_4, (left_3, (right_2, ()))) => rfl) (fun | (sign_4, (left_3, (right_2, ()))) => (jb_ifR w0 (JT.to (jt_bool (jw_and (jt_val (je_var (r := .v sign_4) 2 rfl)) (jw_and1 (jt_q hr (je_var (r := .v left_3) 3 rfl) (je_var (r := .v right_2) 4 rfl))))) fun _ => rfl) (JE.to (je_bl (i := true)) fun _ => rfl) (jb_ifE w0 (JT.to (jt_mx hr (je_call tk h_opposite hr (Nat.le_refl _) (ja_cons (je_var (r := .v literal_1) 1 rfl) ja_nil)) (je_var (r := .v v_clause) 0 rfl)) fun _ => rfl) (jb_ret w0 (JE.to (je_bl (i := true)) fun _ => rfl)) (jb_nil (a := ()) (.keep (.drop (.drop (.drop (.drop .nil))))))))))) (.keep (.keep (.keep (.keep (.keep .nil))))) (fun _ => (jb_ret w0 (JE.to (je_bl (i := false)) fun _ => rfl)))))
/-! ### _fill_literal -/
abbrev s__fill_literal : Stmt := top 17
abbrev N__fill_literal : List Str := ["literal", "filling", "sign", "left", "right"]
theorem sc__fill_literal : FnScope N__fill_literal ["literal", "filling"] (defScope s__fill_literal) := ⟨rfl, rfl, rfl, by decide +kernel, rfl, by decide +kernel, by decide +kernel⟩
theorem ok__fill_literal {a : Addr} {fd : FuncData} {n : Nat} {t : Tab} (F : Fun K "_fill_literal" "_fill_literal" s__fill_literal a fd) (h_make_literal : HasF P w K mg base n "make_literal" ["sign", "left", "right"] (f3 t.d_make_literal)) (h_fill_term : HasF P w K mg base n "fill_term" ["term", "filling"] (f2 t.d_fill_term))         :
    FnOk P w K mg base (L2.CX P w) (n + 1) a fd ["literal", "filling"] (spP ⟨K, mg⟩ (f2 fun v_literal v_filling => toF (n_fill_literal t v_literal v_filling))) :=
  mk_fnP (nL := 3) (b := b2 (n_fill_literal t)) F sc__fill_literal rfl rfl (arg2 fun _ _ => trivial) fun cdv A outer s H E hr => by
    have tk : Tk (CxP P w K mg base N__fill_literal "_fill_literal" (defScope s__fill_literal) a cdv A outer s H E) (fun cls d _ H => E cls d H) := .inl (takes_of rfl rfl rfl rfl)
    have te : TkE (CxP P w K mg base N__fill_literal "_fill_literal" (defScope s__fill_literal) a cdv A outer s H E) (fun cls d _ H => E cls d H) := te_own (takes_of rfl rfl rfl rfl)
    have hp : PassesOwn (model P w) (CxP P w K mg base N__fill_literal "_fill_literal" (defScope s__fill_literal) a cdv A outer s H E).A (CxP P w K mg base N__fill_literal "_fill_literal" (defScope s__fill_literal) a cdv A outer s H E).env (CxP P w K mg base N__fill_literal "_fill_literal" (defScope s__fill_literal) a cdv A outer s H E).xe := passes_of rfl
    have hN : (CxP P w K mg base N__fill_literal "_fill_literal" (defScope s__fill_literal) a cdv A outer s H E).N.Nodup := sc__fill_literal.nd
    have w0 : ∀ {Γ : Sl}, SubX none Γ := trivial
    exact arg2 fun v_literal v_filling E' => (show JB _ _ _ _ _ _ _ _ (n_fill_literal t v_literal v_filling) from (jb_asgT w0 (jg_tup rfl (jg_cons (jg_name 2 hN) (jg_cons (jg_name 3 hN) (jg_cons (jg_name 4 hN) jg_nil)))) (JE.to (je_var (r := .v v_literal) 0 rfl) fun _ => rfl) (Γ' := fun | (sign_3, (left_2, (right_1, ()))) => [some (.v v_literal), some (.v v_filling), some (.v sign_3), some (.v left_2), some (.v right_1)]) (hΓ := fun | (sign_3, (left_2, (right_1, ()))) => rfl) (fun | (sign_3, (left_2, (right_1, ()))) => (jb_ret w0 (JE.to (je_call tk h_make_literal hr (Nat.le_refl _) (ja_cons (je_var (r := .v sign_3) 2 rfl) (ja_cons (je_call tk h_fill_term hr (Nat.le_refl _) (ja_cons (je_var (r := .v left_2) 3 rfl) (ja_cons (je_var (r := .v v_filling) 1 rfl) ja_nil))) (ja_cons (je_call tk h_fill_term hr (Nat.le_refl _) (ja_cons (je_var (r := .v right_1) 4 rfl) (ja_cons (je_var (r := .v v_filling) 1 rfl) ja_nil))) ja_nil)))) fun _ => rfl)))))
/-! ### _law_start -/
abbrev s__law_start : Stmt := top 19
abbrev N__law_start : List Str := ["_law_script", "_law_row", "_law_seed", "_law_k", "_law_cell", "_law_j", "_law_mixed"]
theorem sc__law_start : FnScope N__law_start ["_law_script"] (defScope s__law_start) := ⟨rfl, rfl, rfl, by decide +kernel, rfl, by decide +kernel, by decide +kernel⟩
theorem ok__law_start {a : Addr} {fd : FuncData} {n : Nat} {t : Tab} (F : Fun K "_law_start" "_law_start" s__law_start a fd)   (m_range : mg "range" = none) (m_len : mg "len" = none) (m_abs : mg "abs" = none) (m_int : mg "int" = none)       :
    FnOk P w K mg base (L2.CX P w) (n + 1) a fd ["_law_script"] (spP ⟨K, mg⟩ (f1 fun v_law_script => toF (n_law_start t v_law_script))) :=
  mk_fnP (nL := 6) (b := b1 (n_law_start t)) F sc__law_start rfl rfl (arg1 fun _ => trivial) fun cdv A outer s H E hr => by
    have tk : Tk (CxP P w K mg base N__law_start "_law_start" (defScope s__law_start) a cdv A outer s H E) (fun cls d _ H => E cls d H) := .inl (takes_of rfl rfl rfl rfl)
    have te : TkE (CxP P w K mg base N__law_start "_law_start" (defScope s__law_start) a cdv A outer s H E) (fun cls d _ H => E cls d H) := te_own (takes_of rfl rfl rfl rfl)
    have hp : PassesOwn (model P w) (CxP P w K mg base N__law_start "_law_start" (defScope s__law_start) a cdv A outer s H E).A (CxP P w K mg base N__law_start "_law_start" (defScope s__law_start) a cdv A outer s H E).env (CxP P w K mg base N__law_start "_law_start" (defScope s__law_start) a cdv A outer s H E).xe := passes_of rfl
    have hN : (CxP P w K mg base N__law_start "_law_start" (defScope s__law_start) a cdv A outer s H E).N.Nodup := sc__law_start.nd
    have w0 : ∀ {Γ : Sl}, SubX none Γ := trivial
    exact arg1 fun v_law_script E' => (show JB _ _ _ _ _ _ _ _ (n_law_start t v_law_script) from (jb_setL 1 w0 hN (JE.to (je_lst ja_nil) fun _ => rfl) (Γ' := fun law_row_1 => [some (.v v_law_script), some (.l law_row_1), none, none, none, none, none]) (fun law_row_1 => (jb_set 2 w0 hN (JE.to je_int fun _ => rfl) (Γ' := fun law_seed_2 => [some (.v v_law_script), some (.l law_row_1), some (.v law_seed_2), none, none, none, none]) (fun law_seed_2 => (jb_forS (A := List FV × FV) ((fun | (law_row_42, law_seed_43) => [some (.v v_law_script), some (.l law_row_42), some (.v law_seed_43), none, none, none, none] : (List FV × FV) → Sl)) (law_row_1, law_seed_2) (Γb := fun | (law_row_5, law_seed_6), law_k_4 => [some (.v v_law_script), some (.l law_row_5), some (.v law_seed_6), some (.v law_k_4), none, none, none]) (hΓ := fun | (law_row_5, law_seed_6), law_k_4 => rfl) w0 hp rfl (JI.to (ji_range1 m_range (je_len m_len (je_var (r := .v v_law_script) 0 rfl))) fun _ => rfl) (jg_name 3 hN) (fun | (law_row_5, law_seed_6), law_k_4 => (jb_set 4 w0 hN (JE.to (je_abs m_abs (je_ix hr (je_var (r := .v v_law_script) 0 rfl) (je_var (r := .v law_k_4) 3 rfl))) fun _ => rfl) (Γ' := fun law_cell_8 => [some (.v v_law_script), some (.l law_row_5), some (.v law_seed_6), some (.v law_k_4), some (.v law_cell_8), none, none]) (fun law_cell_8 => (jb_set 2 w0 hN (JE.to (je_mod (je_int1 m_int (je_add (je_add (je_mul (je_var (r := .v law_seed_6) 2 rfl) je_int) (je_var (r := .v law_cell_8) 4 rfl)) (je_var (r := .v law_k_4) 3 rfl))) je_int) fun _ => rfl) (Γ' := fun law_seed_13 => [some (.v v_law_script), some (.l law_row_5), some (.v law_seed_13), some (.v law_k_4), some (.v law_cell_8), none, none]) (fun law_seed_13 => (jb_ifE w0 (JT.to (jt_ge (je_var (r := .v law_cell_8) 4 rfl) (je_pow je_int je_int)) fun _ => rfl) (jb_set 4 w0 hN (JE.to (je_sub (je_var (r := .v law_cell_8) 4 rfl) (je_pow je_int je_int)) fun _ => rfl) (Γ' := fun law_cell_17 => [some (.v v_law_script), some (.l law_row_5), some (.v law_seed_13), some (.v law_k_4), some (.v law_cell_17), none, none]) (fun law_cell_17 => (jb_forS (A := List FV × FV) ((fun | (law_row_26, law_cell_27) => [some (.v v_law_script), some (.l law_row_26), some (.v law_seed_13), some (.v law_k_4), some (.v law_cell_27), none, none] : (List FV × FV) → Sl)) (law_row_5, law_cell_17) (Γb := fun | (law_row_19, law_cell_20), law_j_18 => [some (.v v_law_script), some (.l law_row_19), some (.v law_seed_13), some (.v law_k_4), some (.v law_cell_20), some (.v law_j_18), none]) (hΓ := fun | (law_row_19, law_cell_20), law_j_18 => rfl) w0 hp rfl (JI.to (ji_range1 m_range je_int) fun _ => rfl) (jg_name 5 hN) (fun | (law_row_19, law_cell_20), law_j_18 => (jb_ifE w0 (JT.to (jt_gt (je_var (r := .v law_cell_20) 4 rfl) je_int) fun _ => rfl) (jb_append 1 w0 (JE.to (je_mod (je_int1 m_int (je_var (r := .v law_cell_20) 4 rfl)) je_int) fun _ => rfl) (Γ' := fun law_row_22 => [some (.v v_law_script), some (.l law_row_22), some (.v law_seed_13), some (.v law_k_4), some (.v law_cell_20), some (.v law_j_18), none]) (fun law_row_22 => (jb_set 4 w0 hN (JE.to (je_div (je_var (r := .v law_cell_20) 4 rfl) je_int) fun _ => rfl) (Γ' := fun law_cell_24 => [some (.v v_law_script), some (.l law_row_22), some (.v law_seed_13), some (.v law_k_4), some (.v law_cell_24), some (.v law_j_18), none]) (fun law_cell_24 => (jb_nil (a := (law_row_22, law_cell_24)) (.keep (.keep (.keep (.keep (.keep (.drop (.keep .nil)))))))))))) (jb_nil (a := (law_row_19, law_cell_20)) (.keep (.keep (.keep (.keep (.keep (.drop (.keep .nil)))))))))) (.keep (.keep (.keep (.keep (.keep (.keep (.keep .nil))))))) (fun | (law_row_26, law_cell_27) => (jb_nil (a := (law_row_26, law_seed_13)) (.keep (.keep (.keep (.drop (.drop (.keep (.keep .nil)))))))))))) (jb_set 6 w0 hN (JE.to (je_mod (je_int1 m_int (je_add (je_mul (je_add (je_var (r := .v law_cell_8) 4 rfl) je_int) je_int) (je_mul (je_var (r := .v law_k_4) 3 rfl) je_int))) je_int) fun _ => rfl) (Γ' := fun law_mixed_34 => [some (.v v_law_script), some (.l law_row_5), some (.v law_seed_13), some (.v law_k_4), some (.v law_cell_8), none, some (.v law_mixed_34)]) (fun law_mixed_34 => (jb_set 6 w0 hN (JE.to (je_mod (je_int1 m_int (je_add (je_mul (je_var (r := .v law_mixed_34) 6 rfl) je_int) je_int)) je_int) fun _ => rfl) (Γ' := fun law_mixed_38 => [some (.v v_law_script), some (.l law_row_5), some (.v law_seed_13), some (.v law_k_4), some (.v law_cell_8), none, some (.v law_mixed_38)]) (fun law_mixed_38 => (jb_append 1 w0 (JE.to (je_mod (je_div (je_var (r := .v law_mixed_38) 6 rfl) je_int) je_int) fun _ => rfl) (Γ' := fun law_row_39 => [some (.v v_law_script), some (.l law_row_39), some (.v law_seed_13), some (.v law_k_4), some (.v law_cell_8), none, some (.v law_mixed_38)]) (fun law_row_39 => (jb_nil (a := (law_row_39, law_seed_13)) (.keep (.keep (.keep (.drop (.drop (.keep (.drop .nil)))))))))))))))))))) (.keep (.keep (.keep (.keep (.keep (.keep (.keep .nil))))))) (fun | (law_row_42, law_seed_43) => (jb_frz 1 (r := (.l law_row_42)) (d := (.fl law_row_42)) rfl rfl (Γ' := [some (.v v_law_script), some (.v (.fl law_row_42)), some (.v law_seed_43), none, none, none, none]) (jb_ret w0 (JE.to (je_lst (ja_cons (je_var (r := .v (.fl law_row_42)) 1 rfl) (ja_cons je_int (ja_cons (je_var (r := .v law_seed_43) 2 rfl) ja_nil)))) fun _ => rfl))))))))))
/-! ### _law_take -/
abbrev s__law_take : Stmt := top 20
abbrev N__law_take : List Str := ["_law_state", "_law_many", "_law_at", "_law_mixed"]
theorem sc__law_take : FnScope N__law_take ["_law_state", "_law_many"] (defScope s__law_take) := ⟨rfl, rfl, rfl, by decide +kernel, rfl, by decide +kernel, by decide +kernel⟩
theorem ok__law_take {a : Addr} {fd : FuncData} {n : Nat} {t : Tab} (F : Fun K "_law_take" "_law_take" s__law_take a fd)   (m_len : mg "len" = none) (m_int : mg "int" = none)       :
    FnOk P w K mg base (L2.CX P w) (n + 1) a fd ["_law_state", "_law_many"] (spP ⟨K, mg⟩ (f2 fun v_law_state v_law_many => toF (n_law_take t v_law_state v_law_many))) :=
  mk_fnP (nL := 2) (b := b2 (n_law_take t)) F sc__law_take rfl rfl (arg2 fun _ _ => trivial) fun cdv A outer s H E hr => by
    have tk : Tk (CxP P w K mg base N__law_take "_law_take" (defScope s__law_take) a cdv A outer s H E) (fun cls d _ H => E cls d H) := .inl (takes_of rfl rfl rfl rfl)
    have te : TkE (CxP P w K mg base N__law_take "_law_take" (defScope s__law_take) a cdv A outer s H E) (fun cls d _ H => E cls d H) := te_own (takes_of rfl rfl rfl rfl)
    have hp : PassesOwn (model P w) (CxP P w K mg base N__law_take "_law_take" (defScope s__law_take) a cdv A outer s H E).A (CxP P w K mg base N__law_take "_law_take" (defScope s__law_take) a cdv A outer s H E).env (CxP P w K mg base N__law_take "_law_take" (defScope s__law_take) a cdv A outer s H E).xe := passes_of rfl
    have hN : (CxP P w K mg base N__law_take "_law_take" (defScope s__law_take) a cdv A outer s H E).N.Nodup := sc__law_take.nd
    have w0 : ∀ {Γ : Sl}, SubX none Γ := trivial
    exact arg2 fun v_law_state v_law_many E' => (show JB _ _ _ _ _ _ _ _ (n_law_take t v_law_state v_law_many) from (jb_set 2 w0 hN (JE.to (je_ix hr (je_var (r := .v v_law_state) 0 rfl) je_int) fun _ => rfl) (Γ' := fun law_at_1 => [some (.v v_law_state), some (.v v_law_many), some (.v law_at_1), none]) (fun law_at_1 => (jb_put hr w0 (JE.to (je_add (je_var (r := .v law_at_1) 2 rfl) je_int) fun _ => rfl) (JE.to (je_var (r := .v v_law_state) 0 rfl) fun _ => rfl) (JE.to je_int fun _ => rfl) (jb_ifR w0 (JT.to (jt_lt (je_var (r := .v law_at_1) 2 rfl) (je_len m_len (je_ix hr (je_var (r := .v v_law_state) 0 rfl) je_int))) fun _ => rfl) (JE.to (je_mod (je_int1 m_int (je_ix hr (je_ix hr (je_var (r := .v v_law_state) 0 rfl) je_int) (je_var (r := .v law_at_1) 2 rfl))) (je_var (r := .v v_law_many) 1 rfl)) fun _ => rfl) (jb_set 3 w0 hN (JE.to (je_mod (je_int1 m_int (je_mul (je_add (je_ix hr (je_var (r := .v v_law_state) 0 rfl) je_int) (je_mul (je_var (r := .v law_at_1) 2 rfl) je_int)) je_int)) je_int) fun _ => rfl) (Γ' := fun law_mixed_13 => [some (.v v_law_state), some (.v v_law_many), some (.v law_at_1), some (.v law_mixed_13)]) (fun law_mixed_13 => (jb_set 3 w0 hN (JE.to (je_mod (je_int1 m_int (je_add (je_mul (je_var (r := .v law_mixed_13) 3 rfl) je_int) (je_mul (je_var (r := .v law_at_1) 2 rfl) (je_var (r := .v law_at_1) 2 rfl)))) je_int) fun _ => rfl) (Γ' := fun law_mixed_18 => [some (.v v_law_state), some (.v v_law_many), some (.v law_at_1), some (.v law_mixed_18)]) (fun law_mixed_18 => (jb_ret w0 (JE.to (je_mod (je_div (je_var (r := .v law_mixed_18) 3 rfl) je_int) (je_var (r := .v v_law_many) 1 rfl)) fun _ => rfl)))))))))))
/-! ### _law_term -/
abbrev s__law_term : Stmt := top 21
abbrev N__law_term : List Str := ["_law_state", "_law_depth", "_law_kind", "_law_leaves"]
theorem sc__law_term : FnScope N__law_term ["_law_state", "_law_depth"] (defScope s__law_term) := ⟨rfl, rfl, rfl, by decide +kernel, rfl, by decide +kernel, by decide +kernel⟩
theorem ok__law_term {a : Addr} {fd : FuncData} {n : Nat} {t : Tab} (F : Fun K "_law_term" "_law_term" s__law_term a fd) (h__law_take : HasF P w K mg base n "_law_take" ["_law_state", "_law_many"] (f2 t.d_law_take)) (h__law_term : HasF P w K mg base n "_law_term" ["_law_state", "_law_depth"] (f2 t.d_law_term))         :
    FnOk P w K mg base (L2.CX P w) (n + 1) a fd ["_law_state", "_law_depth"] (spP ⟨K, mg⟩ (f2 fun v_law_state v_law_depth => toF (n_law_term t v_law_state v_law_depth))) :=
  mk_fnP (nL := 2) (b := b2 (n_law_term t)) F sc__law_term rfl rfl (arg2 fun _ _ => trivial) fun cdv A outer s H E hr => by
    have tk : Tk (CxP P w K mg base N__law_term "_law_term" (defScope s__law_term) a cdv A outer s H E) (fun cls d _ H => E cls d H) := .inl (takes_of rfl rfl rfl rfl)
    have te : TkE (CxP P w K mg base N__law_term "_law_term" (defScope s__law_term) a cdv A outer s H E) (fun cls d _ H => E cls d H) := te_own (takes_of rfl rfl rfl rfl)
    have hp : PassesOwn (model P w) (CxP P w K mg base N__law_term "_law_term" (defScope s__law_term) a cdv A outer s H E).A (CxP P w K mg base N__law_term "_law_term" (defScope s__law_term) a cdv A outer s H E).env (CxP P w K mg base N__law_term "_law_term" (defScope s__law_term) a cdv A outer s H E).xe := passes_of rfl
    have hN : (CxP P w K mg base N__law_term "_law_term" (defScope s__law_term) a cdv A outer s H E).N.Nodup := sc__law_term.nd
    have w0 : ∀ {Γ : Sl}, SubX none Γ := trivial
    exact arg2 fun v_law_state v_law_depth E' => (show JB _ _ _ _ _ _ _ _ (n_law_term t v_law_state v_law_depth) from (jb_set 2 w0 hN (JE.to (je_call tk h__law_take hr (Nat.le_refl _) (ja_cons (je_var (r := .v v_law_state) 0 rfl) (ja_cons je_int ja_nil))) fun _ => rfl) (Γ' := fun law_kind_1 => [some (.v v_law_state), some (.v v_law_depth), some (.v law_kind_1), none]) (fun law_kind_1 => (jb_ifL (eE := eN) w0 (JT.to (jt_bool (jw_or (jt_q hr (je_var (r := .v v_law_depth) 1 rfl) je_int) (jw_or1 (jt_lt (je_var (r := .v law_kind_1) 2 rfl) je_int)))) fun _ => rfl) (jb_set 3 w0 hN (JE.to (je_lst (ja_cons je_str (ja_cons je_str (ja_cons (je_tup (ja_cons je_str ja_nil)) (ja_cons (je_tup (ja_cons je_str ja_nil)) ja_nil))))) fun _ => rfl) (Γ' := fun law_leaves_5 => [some (.v v_law_state), some (.v v_law_depth), some (.v law_kind_1), some (.v law_leaves_5)]) (fun law_leaves_5 => (jb_ret w0 (JE.to (je_ix hr (je_var (r := .v law_leaves_5) 3 rfl) (je_call tk h__law_take hr (Nat.le_refl _) (ja_cons (je_var (r := .v v_law_state) 0 rfl) (ja_cons je_int ja_nil)))) fun _ => rfl)))) (jb_ret w0 (JE.to (je_tup (ja_cons je_str (ja_cons (je_call tk h__law_term hr (Nat.le_refl _) (ja_cons (je_var (r := .v v_law_state) 0 rfl) (ja_cons (je_sub (je_var (r := .v v_law_depth) 1 rfl) je_int) ja_nil))) ja_nil))) fun _ => rfl))))))
/-! ### _law_literal -/
abbrev s__law_literal : Stmt := top 22
abbrev N__law_literal : List Str := ["_law_state", "_law_kind", "_law_sign"]
theorem sc__law_literal : FnScope N__law_literal ["_law_state"] (defScope s__law_literal) := ⟨rfl, rfl, rfl, by decide +kernel, rfl, by decide +kernel, by decide +kernel⟩
theorem ok__law_literal {a : Addr} {fd : FuncData} {n : Nat} {t : Tab} (F : Fun K "_law_literal" "_law_literal" s__law_literal a fd) (h__law_take : HasF P w K mg base n "_law_take" ["_law_state", "_law_many"] (f2 t.d_law_take)) (h__law_term : HasF P w K mg base n "_law_term" ["_law_state", "_law_depth"] (f2 t.d_law_term))   (g_TOP : GC K mg "TOP" c_TOP)      :
    FnOk P w K mg base (L2.CX P w) (n + 1) a fd ["_law_state"] (spP ⟨K, mg⟩ (f1 fun v_law_state => toF (n_law_literal t v_law_state))) :=
  mk_fnP (nL := 2) (b := b1 (n_law_literal t)) F sc__law_literal rfl rfl (arg1 fun _ => trivial) fun cdv A outer s H E hr => by
    have tk : Tk (CxP P w K mg base N__law_literal "_law_literal" (defScope s__law_literal) a cdv A outer s H E) (fun cls d _ H => E cls d H) := .inl (takes_of rfl rfl rfl rfl)
    have te : TkE (CxP P w K mg base N__law_literal "_law_literal" (defScope s__law_literal) a cdv A outer s H E) (fun cls d _ H => E cls d H) := te_own (takes_of rfl rfl rfl rfl)
    have hp : PassesOwn (model P w) (CxP P w K mg base N__law_literal "_law_literal" (defScope s__law_literal) a cdv A outer s H E).A (CxP P w K mg base N__law_literal "_law_literal" (defScope s__law_literal) a cdv A outer s H E).env (CxP P w K mg base N__law_literal "_law_literal" (defScope s__law_literal) a cdv A outer s H E).xe := passes_of rfl
    have hN : (CxP P w K mg base N__law_literal "_law_literal" (defScope s__law_literal) a cdv A outer s H E).N.Nodup := sc__law_literal.nd
    have w0 : ∀ {Γ : Sl}, SubX none Γ := trivial
    exact arg1 fun v_law_state E' => (show JB _ _ _ _ _ _ _ _ (n_law_literal t v_law_state) from (jb_set 1 w0 hN (JE.to (je_call tk h__law_take hr (Nat.le_refl _) (ja_cons (je_var (r := .v v_law_state) 0 rfl) (ja_cons je_int ja_nil))) fun _ => rfl) (Γ' := fun law_kind_1 => [some (.v v_law_state), some (.v law_kind_1), none]) (fun law_kind_1 => (jb_set 2 w0 hN (JE.to (je_q hr (je_call tk h__law_take hr (Nat.le_refl _) (ja_cons (je_var (r := .v v_law_state) 0 rfl) (ja_cons je_int ja_nil))) je_int) fun _ => rfl) (Γ' := fun law_sign_3 => [some (.v v_law_state), some (.v law_kind_1), some (.v law_sign_3)]) (fun law_sign_3 => (jb_ifR w0 (JT.to (jt_q hr (je_var (r := .v law_kind_1) 1 rfl) je_int) fun _ => rfl) (JE.to (je_tup (ja_cons (je_var (r := .v law_sign_3) 2 rfl) (ja_cons (je_tup (ja_cons je_str ja_nil)) (ja_cons (je_glob g_TOP) ja_nil)))) fun _ => rfl) (jb_ifR w0 (JT.to (jt_q hr (je_var (r := .v law_kind_1) 1 rfl) je_int) fun _ => rfl) (JE.to (je_tup (ja_cons (je_var (r := .v law_sign_3) 2 rfl) (ja_cons (je_tup (ja_cons je_str (ja_cons (je_call tk h__law_term hr (Nat.le_refl _) (ja_cons (je_var (r := .v v_law_state) 0 rfl) (ja_cons je_int ja_nil))) ja_nil))) (ja_cons (je_glob g_TOP) ja_nil)))) fun _ => rfl) (jb_ifR w0 (JT.to (jt_q hr (je_var (r := .v law_kind_1) 1 rfl) je_int) fun _ => rfl) (JE.to (je_tup (ja_cons (je_var (r := .v law_sign_3) 2 rfl) (ja_cons (je_tup (ja_cons je_str (ja_cons (je_call tk h__law_term hr (Nat.le_refl _) (ja_cons (je_var (r := .v v_law_state) 0 rfl) (ja_cons je_int ja_nil))) (ja_cons (je_call tk h__law_term hr (Nat.le_refl _) (ja_cons (je_var (r := .v v_law_state) 0 rfl) (ja_cons je_int ja_nil))) ja_nil)))) (ja_cons (je_glob g_TOP) ja_nil)))) fun _ => rfl) (jb_ret w0 (JE.to (je_tup (ja_cons (je_var (r := .v law_sign_3) 2 rfl) (ja_cons (je_call tk h__law_term hr (Nat.le_refl _) (ja_cons (je_var (r := .v v_law_state) 0 rfl) (ja_cons je_int ja_nil))) (ja_cons (je_call tk h__law_term hr (Nat.le_refl _) (ja_cons (je_var (r := .v v_law_state) 0 rfl) (ja_cons je_int ja_nil))) ja_nil)))) fun _ => rfl))))))))))
/-! ### _law_text -/
abbrev s__law_text : Stmt := top 23
abbrev N__law_text : List Str := ["_law_term_here", "_law_part"]
theorem sc__law_text : FnScope N__law_text ["_law_term_here"] (defScope s__law_text) := ⟨rfl, rfl, rfl, by decide +kernel, rfl, by decide +kernel, by decide +kernel⟩
theorem ok__law_text {a : Addr} {fd : FuncData} {n : Nat} {t : Tab} (F : Fun K "_law_text" "_law_text" s__law_text a fd) (h__law_text : HasF P w K mg base n "_law_text" ["_law_term_here"] (f1 t.d_law_text))  (m_isinstance : mg "isinstance" = none) (m_str : mg "str" = none) (m_len : mg "len" = none)       :
    FnOk P w K mg base (L2.CX P w) (n + 1) a fd ["_law_term_here"] (spP ⟨K, mg⟩ (f1 fun v_law_term_here => toF (n_law_text t v_law_term_here))) :=
  mk_fnP (nL := 1) (b := b1 (n_law_text t)) F sc__law_text rfl rfl (arg1 fun _ => trivial) fun cdv A outer s H E hr => by
    have tk : Tk (CxP P w K mg base N__law_text "_law_text" (defScope s__law_text) a cdv A outer s H E) (fun cls d _ H => E cls d H) := .inl (takes_of rfl rfl rfl rfl)
    have te : TkE (CxP P w K mg base N__law_text "_law_text" (defScope s__law_text) a cdv A outer s H E) (fun cls d _ H => E cls d H) := te_own (takes_of rfl rfl rfl rfl)
    have hp : PassesOwn (model P w) (CxP P w K mg base N__law_text "_law_text" (defScope s__law_text) a cdv A outer s H E).A (CxP P w K mg base N__law_text "_law_text" (defScope s__law_text) a cdv A outer s H E).env (CxP P w K mg base N__law_text "_law_text" (defScope s__law_text) a cdv A outer s H E).xe := passes_of rfl
    have hN : (CxP P w K mg base N__law_text "_law_text" (defScope s__law_text) a cdv A outer s H E).N.Nodup := sc__law_text.nd
    have w0 : ∀ {Γ : Sl}, SubX none Γ := trivial
    exact arg1 fun v_law_term_here E' => (show JB _ _ _ _ _ _ _ _ (n_law_text t v_law_term_here) from (jb_ifR w0 (JT.to (jt_val (je_isi m_isinstance m_str (je_var (r := .v v_law_term_here) 0 rfl))) fun _ => rfl) (JE.to (je_var (r := .v v_law_term_here) 0 rfl) fun _ => rfl) (jb_ifR w0 (JT.to (jt_q hr (je_len m_len (je_var (r := .v v_law_term_here) 0 rfl)) je_int) fun _ => rfl) (JE.to (je_ix hr (je_var (r := .v v_law_term_here) 0 rfl) je_int) fun _ => rfl) (jb_ret w0 (JE.to (je_add (je_add (je_add (je_ix hr (je_var (r := .v v_law_term_here) 0 rfl) je_int) je_str) (je_join je_str (je_lc [("_law_part", 1)] rfl hN (JI.to (ji_seq (je_sl (je_var (r := .v v_law_term_here) 0 rfl) (jp_some je_int) jp_none)) fun _ => rfl) (blkOk_by (N := N__law_text) (sc := defScope s__law_text) (by decide +kernel)) (jgb_name 1 (fun _ _ _ _ _ => hN)) (by decide) (fun law_part_7 => fun _ _ _ _ _ => (JTs.to jts_nil fun _ => rfl)) (fun law_part_7 => fun _ _ _ _ _ => (JE.to (je_call (.inr rfl) h__law_text hr (Nat.le_refl _) (ja_cons (je_var (r := .v law_part_7) 1 rfl) ja_nil)) fun _ => rfl)) (hΓ := fun law_part_7 => rfl) (Γc := fun law_part_7 => [some (.v v_law_term_here), some (.v law_part_7)]) (t := fun law_part_7 => (pur true)) (fe := fun law_part_7 => (t.d_law_text law_part_7))))) je_str) fun _ => rfl)))))
/-! ### _law_formed -/
abbrev s__law_formed : Stmt := top 24
abbrev N__law_formed : List Str := ["_law_literal_here", "_law_sign", "_law_left", "_law_right"]
theorem sc__law_formed : FnScope N__law_formed ["_law_literal_here"] (defScope s__law_formed) := ⟨rfl, rfl, rfl, by decide +kernel, rfl, by decide +kernel, by decide +kernel⟩
theorem ok__law_formed {a : Addr} {fd : FuncData} {n : Nat} {t : Tab} (F : Fun K "_law_formed" "_law_formed" s__law_formed a fd) (h__law_text : HasF P w K mg base n "_law_text" ["_law_term_here"] (f1 t.d_law_text))   (g_TOP : GC K mg "TOP" c_TOP)      :
    FnOk P w K mg base (L2.CX P w) (n + 1) a fd ["_law_literal_here"] (spP ⟨K, mg⟩ (f1 fun v_law_literal_here => toF (n_law_formed t v_law_literal_here))) :=
  mk_fnP (nL := 3) (b := b1 (n_law_formed t)) F sc__law_formed rfl rfl (arg1 fun _ => trivial) fun cdv A outer s H E hr => by
    have tk : Tk (CxP P w K mg base N__law_formed "_law_formed" (defScope s__law_formed) a cdv A outer s H E) (fun cls d _ H => E cls d H) := .inl (takes_of rfl rfl rfl rfl)
    have te : TkE (CxP P w K mg base N__law_formed "_law_formed" (defScope s__law_formed) a cdv A outer s H E) (fun cls d _ H => E cls d H) := te_own (takes_of rfl rfl rfl rfl)
    have hp : PassesOwn (model P w) (CxP P w K mg base N__law_formed "_law_formed" (defScope s__law_formed) a cdv A outer s H E).A (CxP P w K mg base N__law_formed "_law_formed" (defScope s__law_formed) a cdv A outer s H E).env (CxP P w K mg base N__law_formed "_law_formed" (defScope s__law_formed) a cdv A outer s H E).xe := passes_of rfl
    have hN : (CxP P w K mg base N__law_formed "_law_formed" (defScope s__law_formed) a cdv A outer s H E).N.Nodup := sc__law_formed.nd
    have w0 : ∀ {Γ : Sl}, SubX none Γ := trivial
    exact arg1 fun v_law_literal_here E' => (show JB _ _ _ _ _ _ _ _ (n_law_formed t v_law_literal_here) from (jb_asgT w0 (jg_tup rfl (jg_cons (jg_name 1 hN) (jg_cons (jg_name 2 hN) (jg_cons (jg_name 3 hN) jg_nil)))) (JE.to (je_var (r := .v v_law_literal_here) 0 rfl) fun _ => rfl) (Γ' := fun | (law_sign_3, (law_left_2, (law_right_1, ()))) => [some (.v v_law_literal_here), some (.v law_sign_3), some (.v law_left_2), some (.v law_right_1)]) (hΓ := fun | (law_sign_3, (law_left_2, (law_right_1, ()))) => rfl) (fun | (law_sign_3, (law_left_2, (law_right_1, ()))) => (jb_ifR w0 (JT.to (jt_bool (jw_and (jt_nq hr (je_var (r := .v law_right_1) 3 rfl) (je_glob g_TOP)) (jw_and1 (jt_lt (je_call tk h__law_text hr (Nat.le_refl _) (ja_cons (je_var (r := .v law_right_1) 3 rfl) ja_nil)) (je_call tk h__law_text hr (Nat.le_refl _) (ja_cons (je_var (r := .v law_left_2) 2 rfl) ja_nil)))))) fun _ => rfl) (JE.to (je_tup (ja_cons (je_var (r := .v law_sign_3) 1 rfl) (ja_cons (je_var (r := .v law_right_1) 3 rfl) (ja_cons (je_var (r := .v law_left_2) 2 rfl) ja_nil)))) fun _ => rfl) (jb_ret w0 (JE.to (je_tup (ja_cons (je_var (r := .v law_sign_3) 1 rfl) (ja_cons (je_var (r := .v law_left_2) 2 rfl) (ja_cons (je_var (r := .v law_right_1) 3 rfl) ja_nil)))) fun _ => rfl))))))
/-! ### _law_said -/
abbrev s__law_said : Stmt := top 25
abbrev N__law_said : List Str := ["_law_literal_here", "_law_sign", "_law_left", "_law_right"]
theorem sc__law_said : FnScope N__law_said ["_law_literal_here"] (defScope s__law_said) := ⟨rfl, rfl, rfl, by decide +kernel, rfl, by decide +kernel, by decide +kernel⟩
theorem ok__law_said {a : Addr} {fd : FuncData} {n : Nat} {t : Tab} (F : Fun K "_law_said" "_law_said" s__law_said a fd) (h__law_text : HasF P w K mg base n "_law_text" ["_law_term_here"] (f1 t.d_law_text))   (g_TOP : GC K mg "TOP" c_TOP)      :
    FnOk P w K mg base (L2.CX P w) (n + 1) a fd ["_law_literal_here"] (spP ⟨K, mg⟩ (f1 fun v_law_literal_here => toF (n_law_said t v_law_literal_here))) :=
  mk_fnP (nL := 3) (b := b1 (n_law_said t)) F sc__law_said rfl rfl (arg1 fun _ => trivial) fun cdv A outer s H E hr => by
    have tk : Tk (CxP P w K mg base N__law_said "_law_said" (defScope s__law_said) a cdv A outer s H E) (fun cls d _ H => E cls d H) := .inl (takes_of rfl rfl rfl rfl)
    have te : TkE (CxP P w K mg base N__law_said "_law_said" (defScope s__law_said) a cdv A outer s H E) (fun cls d _ H => E cls d H) := te_own (takes_of rfl rfl rfl rfl)
    have hp : PassesOwn (model P w) (CxP P w K mg base N__law_said "_law_said" (defScope s__law_said) a cdv A outer s H E).A (CxP P w K mg base N__law_said "_law_said" (defScope s__law_said) a cdv A outer s H E).env (CxP P w K mg base N__law_said "_law_said" (defScope s__law_said) a cdv A outer s H E).xe := passes_of rfl
    have hN : (CxP P w K mg base N__law_said "_law_said" (defScope s__law_said) a cdv A outer s H E).N.Nodup := sc__law_said.nd
    have w0 : ∀ {Γ : Sl}, SubX none Γ := trivial
    exact arg1 fun v_law_literal_here E' => (show JB _ _ _ _ _ _ _ _ (n_law_said t v_law_literal_here) from (jb_asgT w0 (jg_tup rfl (jg_cons (jg_name 1 hN) (jg_cons (jg_name 2 hN) (jg_cons (jg_name 3 hN) jg_nil)))) (JE.to (je_var (r := .v v_law_literal_here) 0 rfl) fun _ => rfl) (Γ' := fun | (law_sign_3, (law_left_2, (law_right_1, ()))) => [some (.v v_law_literal_here), some (.v law_sign_3), some (.v law_left_2), some (.v law_right_1)]) (hΓ := fun | (law_sign_3, (law_left_2, (law_right_1, ()))) => rfl) (fun | (law_sign_3, (law_left_2, (law_right_1, ()))) => (jb_ifL (eE := eN) w0 (JT.to (jt_q hr (je_var (r := .v law_right_1) 3 rfl) (je_glob g_TOP)) fun _ => rfl) (jb_ifR w0 (JT.to (jt_val (je_var (r := .v law_sign_3) 1 rfl)) fun _ => rfl) (JE.to (je_call tk h__law_text hr (Nat.le_refl _) (ja_cons (je_var (r := .v law_left_2) 2 rfl) ja_nil)) fun _ => rfl) (jb_ret w0 (JE.to (je_add je_str (je_call tk h__law_text hr (Nat.le_refl _) (ja_cons (je_var (r := .v law_left_2) 2 rfl) ja_nil))) fun _ => rfl))) (jb_ifR w0 (JT.to (jt_val (je_var (r := .v law_sign_3) 1 rfl)) fun _ => rfl) (JE.to (je_add (je_add (je_call tk h__law_text hr (Nat.le_refl _) (ja_cons (je_var (r := .v law_left_2) 2 rfl) ja_nil)) je_str) (je_call tk h__law_text hr (Nat.le_refl _) (ja_cons (je_var (r := .v law_right_1) 3 rfl) ja_nil))) fun _ => rfl) (jb_ret w0 (JE.to (je_add (je_add (je_call tk h__law_text hr (Nat.le_refl _) (ja_cons (je_var (r := .v law_left_2) 2 rfl) ja_nil)) je_str) (je_call tk h__law_text hr (Nat.le_refl _) (ja_cons (je_var (r := .v law_right_1) 3 rfl) ja_nil))) fun _ => rfl)))))))
/-! ### _law_clause -/
abbrev s__law_clause : Stmt := top 26
abbrev N__law_clause : List Str := ["_law_literals", "_law_row", "_law_literal_here", "_law_formed_here"]
theorem sc__law_clause : FnScope N__law_clause ["_law_literals"] (defScope s__law_clause) := ⟨rfl, rfl, rfl, by decide +kernel, rfl, by decide +kernel, by decide +kernel⟩
theorem ok__law_clause {a : Addr} {fd : FuncData} {n : Nat} {t : Tab} (F : Fun K "_law_clause" "_law_clause" s__law_clause a fd) (h__law_formed : HasF P w K mg base n "_law_formed" ["_law_literal_here"] (f1 t.d_law_formed)) (h__law_said : HasF P w K mg base n "_law_said" ["_law_literal_here"] (f1 t.d_law_said))  (m_tuple : mg "tuple" = none) (m_sorted : mg "sorted" = none)       :
    FnOk P w K mg base (L2.CX P w) (n + 1 + 1) a fd ["_law_literals"] (spP ⟨K, mg⟩ (f1 fun v_law_literals => toF (n_law_clause t v_law_literals))) :=
  mk_fnP (nL := 3) (b := b1 (n_law_clause t)) F sc__law_clause rfl rfl (arg1 fun _ => trivial) fun cdv A outer s H E hr => by
    have tk : Tk (CxP P w K mg base N__law_clause "_law_clause" (defScope s__law_clause) a cdv A outer s H E) (fun cls d _ H => E cls d H) := .inl (takes_of rfl rfl rfl rfl)
    have te : TkE (CxP P w K mg base N__law_clause "_law_clause" (defScope s__law_clause) a cdv A outer s H E) (fun cls d _ H => E cls d H) := te_own (takes_of rfl rfl rfl rfl)
    have hp : PassesOwn (model P w) (CxP P w K mg base N__law_clause "_law_clause" (defScope s__law_clause) a cdv A outer s H E).A (CxP P w K mg base N__law_clause "_law_clause" (defScope s__law_clause) a cdv A outer s H E).env (CxP P w K mg base N__law_clause "_law_clause" (defScope s__law_clause) a cdv A outer s H E).xe := passes_of rfl
    have hN : (CxP P w K mg base N__law_clause "_law_clause" (defScope s__law_clause) a cdv A outer s H E).N.Nodup := sc__law_clause.nd
    have w0 : ∀ {Γ : Sl}, SubX none Γ := trivial
    exact arg1 fun v_law_literals E' => (show JB _ _ _ _ _ _ _ _ (n_law_clause t v_law_literals) from (jb_setL 1 w0 hN (JE.to (je_lst ja_nil) fun _ => rfl) (Γ' := fun law_row_1 => [some (.v v_law_literals), some (.l law_row_1), none, none]) (fun law_row_1 => (jb_forS (A := List FV) ((fun law_row_7 => [some (.v v_law_literals), some (.l law_row_7), none, none] : (List FV) → Sl)) law_row_1 (Γb := fun law_row_3 law_literal_here_2 => [some (.v v_law_literals), some (.l law_row_3), some (.v law_literal_here_2), none]) (hΓ := fun law_row_3 law_literal_here_2 => rfl) w0 hp rfl (JI.to (ji_seq (je_var (r := .v v_law_literals) 0 rfl)) fun _ => rfl) (jg_name 2 hN) (fun law_row_3 law_literal_here_2 => (jb_set 3 w0 hN (JE.to (je_call tk h__law_formed hr (Nat.le_succ _) (ja_cons (je_var (r := .v law_literal_here_2) 2 rfl) ja_nil)) fun _ => rfl) (Γ' := fun law_formed_here_4 => [some (.v v_law_literals), some (.l law_row_3), some (.v law_literal_here_2), some (.v law_formed_here_4)]) (fun law_formed_here_4 => (jb_ifE w0 (JT.to (jt_nmx hr (je_var (r := .v law_formed_here_4) 3 rfl) (je_var (r := .l law_row_3) 1 rfl)) fun _ => rfl) (jb_append 1 w0 (JE.to (je_var (r := .v law_formed_here_4) 3 rfl) fun _ => rfl) (Γ' := fun law_row_6 => [some (.v v_law_literals), some (.l law_row_6), some (.v law_literal_here_2), some (.v law_formed_here_4)]) (fun law_row_6 => (jb_nil (a := law_row_6) (.keep (.keep (.drop (.drop .nil))))))) (jb_nil (a := law_row_3) (.keep (.keep (.drop (.drop .nil))))))))) (.keep (.keep (.keep (.keep .nil)))) (fun law_row_7 => (jb_ret w0 (JE.to (je_tuple m_tuple (je_sortK h__law_said hr m_sorted (je_var (r := .l law_row_7) 1 rfl))) fun _ => rfl)))))))
/-! ### _law_filled -/
abbrev s__law_filled : Stmt := top 27
abbrev N__law_filled : List Str := ["_law_term_here", "_law_filling", "_law_part"]
theorem sc__law_filled : FnScope N__law_filled ["_law_term_here", "_law_filling"] (defScope s__law_filled) := ⟨rfl, rfl, rfl, by decide +kernel, rfl, by decide +kernel, by decide +kernel⟩
theorem ok__law_filled {a : Addr} {fd : FuncData} {n : Nat} {t : Tab} (F : Fun K "_law_filled" "_law_filled" s__law_filled a fd) (h__law_filled : HasF P w K mg base n "_law_filled" ["_law_term_here", "_law_filling"] (f2 t.d_law_filled))  (m_isinstance : mg "isinstance" = none) (m_str : mg "str" = none) (m_tuple : mg "tuple" = none)       :
    FnOk P w K mg base (L2.CX P w) (n + 1) a fd ["_law_term_here", "_law_filling"] (spP ⟨K, mg⟩ (f2 fun v_law_term_here v_law_filling => toF (n_law_filled t v_law_term_here v_law_filling))) :=
  mk_fnP (nL := 1) (b := b2 (n_law_filled t)) F sc__law_filled rfl rfl (arg2 fun _ _ => trivial) fun cdv A outer s H E hr => by
    have tk : Tk (CxP P w K mg base N__law_filled "_law_filled" (defScope s__law_filled) a cdv A outer s H E) (fun cls d _ H => E cls d H) := .inl (takes_of rfl rfl rfl rfl)
    have te : TkE (CxP P w K mg base N__law_filled "_law_filled" (defScope s__law_filled) a cdv A outer s H E) (fun cls d _ H => E cls d H) := te_own (takes_of rfl rfl rfl rfl)
    have hp : PassesOwn (model P w) (CxP P w K mg base N__law_filled "_law_filled" (defScope s__law_filled) a cdv A outer s H E).A (CxP P w K mg base N__law_filled "_law_filled" (defScope s__law_filled) a cdv A outer s H E).env (CxP P w K mg base N__law_filled "_law_filled" (defScope s__law_filled) a cdv A outer s H E).xe := passes_of rfl
    have hN : (CxP P w K mg base N__law_filled "_law_filled" (defScope s__law_filled) a cdv A outer s H E).N.Nodup := sc__law_filled.nd
    have w0 : ∀ {Γ : Sl}, SubX none Γ := trivial
    exact arg2 fun v_law_term_here v_law_filling E' => (show JB _ _ _ _ _ _ _ _ (n_law_filled t v_law_term_here v_law_filling) from (jb_ifR w0 (JT.to (jt_val (je_isi m_isinstance m_str (je_var (r := .v v_law_term_here) 0 rfl))) fun _ => rfl) (JE.to (je_get hr (je_var (r := .v v_law_filling) 1 rfl) (je_var (r := .v v_law_term_here) 0 rfl) (je_var (r := .v v_law_term_here) 0 rfl)) fun _ => rfl) (jb_ret w0 (JE.to (je_tuple m_tuple (je_add (je_lst (ja_cons (je_ix hr (je_var (r := .v v_law_term_here) 0 rfl) je_int) ja_nil)) (je_lc [("_law_part", 2)] rfl hN (JI.to (ji_seq (je_sl (je_var (r := .v v_law_term_here) 0 rfl) (jp_some je_int) jp_none)) fun _ => rfl) (blkOk_by (N := N__law_filled) (sc := defScope s__law_filled) (by decide +kernel)) (jgb_name 2 (fun _ _ _ _ _ => hN)) (by decide) (fun law_part_5 => fun _ _ _ _ _ => (JTs.to jts_nil fun _ => rfl)) (fun law_part_5 => fun _ _ _ _ _ => (JE.to (je_call (.inr rfl) h__law_filled hr (Nat.le_refl _) (ja_cons (je_var (r := .v law_part_5) 2 rfl) (ja_cons (je_var (r := .v v_law_filling) 1 rfl) ja_nil))) fun _ => rfl)) (hΓ := fun law_part_5 => rfl) (Γc := fun law_part_5 => [some (.v v_law_term_here), some (.v v_law_filling), some (.v law_part_5)]) (t := fun law_part_5 => (pur true)) (fe := fun law_part_5 => (t.d_law_filled law_part_5 v_law_filling))))) fun _ => rfl))))
/-! ### _law_names -/
abbrev s__law_names : Stmt := top 28
abbrev N__law_names : List Str := ["_law_term_here", "_law_names_here", "_law_part"]
theorem sc__law_names : FnScope N__law_names ["_law_term_here"] (defScope s__law_names) := ⟨rfl, rfl, rfl, by decide +kernel, rfl, by decide +kernel, by decide +kernel⟩
theorem ok__law_names {a : Addr} {fd : FuncData} {n : Nat} {t : Tab} (F : Fun K "_law_names" "_law_names" s__law_names a fd) (h__law_names : HasF P w K mg base n "_law_names" ["_law_term_here"] (f1 t.d_law_names))  (m_isinstance : mg "isinstance" = none) (m_str : mg "str" = none)       :
    FnOk P w K mg base (L2.CX P w) (n + 1) a fd ["_law_term_here"] (spP ⟨K, mg⟩ (f1 fun v_law_term_here => toF (n_law_names t v_law_term_here))) :=
  mk_fnP (nL := 2) (b := b1 (n_law_names t)) F sc__law_names rfl rfl (arg1 fun _ => trivial) fun cdv A outer s H E hr => by
    have tk : Tk (CxP P w K mg base N__law_names "_law_names" (defScope s__law_names) a cdv A outer s H E) (fun cls d _ H => E cls d H) := .inl (takes_of rfl rfl rfl rfl)
    have te : TkE (CxP P w K mg base N__law_names "_law_names" (defScope s__law_names) a cdv A outer s H E) (fun cls d _ H => E cls d H) := te_own (takes_of rfl rfl rfl rfl)
    have hp : PassesOwn (model P w) (CxP P w K mg base N__law_names "_law_names" (defScope s__law_names) a cdv A outer s H E).A (CxP P w K mg base N__law_names "_law_names" (defScope s__law_names) a cdv A outer s H E).env (CxP P w K mg base N__law_names "_law_names" (defScope s__law_names) a cdv A outer s H E).xe := passes_of rfl
    have hN : (CxP P w K mg base N__law_names "_law_names" (defScope s__law_names) a cdv A outer s H E).N.Nodup := sc__law_names.nd
    have w0 : ∀ {Γ : Sl}, SubX none Γ := trivial
    exact arg1 fun v_law_term_here E' => (show JB _ _ _ _ _ _ _ _ (n_law_names t v_law_term_here) from (jb_ifR w0 (JT.to (jt_val (je_isi m_isinstance m_str (je_var (r := .v v_law_term_here) 0 rfl))) fun _ => rfl) (JE.to (je_lst (ja_cons (je_var (r := .v v_law_term_here) 0 rfl) ja_nil)) fun _ => rfl) (jb_set 1 w0 hN (JE.to (je_lst ja_nil) fun _ => rfl) (Γ' := fun law_names_here_3 => [some (.v v_law_term_here), some (.v law_names_here_3), none]) (fun law_names_here_3 => (jb_forS (A := FV) ((fun law_names_here_9 => [some (.v v_law_term_here), some (.v law_names_here_9), none] : (FV) → Sl)) law_names_here_3 (Γb := fun law_names_here_6 law_part_5 => [some (.v v_law_term_here), some (.v law_names_here_6), some (.v law_part_5)]) (hΓ := fun law_names_here_6 law_part_5 => rfl) w0 hp rfl (JI.to (ji_seq (je_sl (je_var (r := .v v_law_term_here) 0 rfl) (jp_some je_int) jp_none)) fun _ => rfl) (jg_name 2 hN) (fun law_names_here_6 law_part_5 => (jb_set 1 w0 hN (JE.to (je_add (je_var (r := .v law_names_here_6) 1 rfl) (je_call tk h__law_names hr (Nat.le_refl _) (ja_cons (je_var (r := .v law_part_5) 2 rfl) ja_nil))) fun _ => rfl) (Γ' := fun law_names_here_8 => [some (.v v_law_term_here), some (.v law_names_here_8), some (.v law_part_5)]) (fun law_names_here_8 => (jb_nil (a := law_names_here_8) (.keep (.keep (.drop .nil))))))) (.keep (.keep (.keep .nil))) (fun law_names_here_9 => (jb_ret w0 (JE.to (je_var (r := .v law_names_here_9) 1 rfl) fun _ => rfl))))))))
/-! ### law -/
abbrev s_law : Stmt := top 29
abbrev N_law : List Str := ["_law_script", "_law_state", "_law_literals", "_law_other", "_law_k", "_law_literal_here", "_law_due", "_law_said_here", "_law_text_here", "_law_names_here", "_law_name", "_law_ground", "_law_filling", "_law_filled_here", "_law_either", "_law_turned", "_law_always", "_law_one"]
theorem sc_law : FnScope N_law ["_law_script"] (defScope s_law) := ⟨rfl, rfl, rfl, by decide +kernel, rfl, by decide +kernel, by decide +kernel⟩
theorem ok_law {a : Addr} {fd : FuncData} {n : Nat} {t : Tab} (F : Fun K "law" "law" s_law a fd) (h__law_start : HasF P w K mg base n "_law_start" ["_law_script"] (f1 t.d_law_start)) (h__law_take : HasF P w K mg base n "_law_take" ["_law_state", "_law_many"] (f2 t.d_law_take)) (h__law_literal : HasF P w K mg base n "_law_literal" ["_law_state"] (f1 t.d_law_literal)) (h__law_clause : HasF P w K mg base n "_law_clause" ["_law_literals"] (f1 t.d_law_clause)) (h_make_clause : HasF P w K mg base n "make_clause" ["literals"] (f1 t.d_make_clause)) (h_make_literal : HasF P w K mg base n "make_literal" ["sign", "left", "right"] (f3 t.d_make_literal)) (h__law_said : HasF P w K mg base n "_law_said" ["_law_literal_here"] (f1 t.d_law_said)) (h_literal_text : HasF P w K mg base n "literal_text" ["literal"] (f1 t.d_literal_text)) (h_clause_text : HasF P w K mg base n "clause_text" ["clause"] (f1 t.d_clause_text)) (h__law_names : HasF P w K mg base n "_law_names" ["_law_term_here"] (f1 t.d_law_names)) (h_is_ground : HasF P w K mg base n "is_ground" ["clause"] (f1 t.d_is_ground)) (h_clause_unknowns : HasF P w K mg base n "clause_unknowns" ["clause"] (f1 t.d_clause_unknowns)) (h__law_term : HasF P w K mg base n "_law_term" ["_law_state", "_law_depth"] (f2 t.d_law_term)) (h__law_filled : HasF P w K mg base n "_law_filled" ["_law_term_here", "_law_filling"] (f2 t.d_law_filled)) (h_fill_term : HasF P w K mg base n "fill_term" ["term", "filling"] (f2 t.d_fill_term)) (h_fill_clause : HasF P w K mg base n "fill_clause" ["clause", "filling"] (f2 t.d_fill_clause)) (h_opposite : HasF P w K mg base n "opposite" ["literal"] (f1 t.d_opposite)) (h_always_true : HasF P w K mg base n "always_true" ["clause"] (f1 t.d_always_true))  (m_range : mg "range" = none) (m_len : mg "len" = none) (m_tuple : mg "tuple" = none) (m_isinstance : mg "isinstance" = none) (m_bool : mg "bool" = none) (g_TOP : GC K mg "TOP" c_TOP)      :
    FnOk P w K mg base (L2.CX P w) (n + 1) a fd ["_law_script"] (spP ⟨K, mg⟩ (f1 fun v_law_script => toF (n_law t v_law_script))) :=
  mk_fnP (nL := 17) (b := b1 (n_law t)) F sc_law rfl rfl (arg1 fun _ => trivial) fun cdv A outer s H E hr => by
    have tk : Tk (CxP P w K mg base N_law "law" (defScope s_law) a cdv A outer s H E) (fun cls d _ H => E cls d H) := .inl (takes_of rfl rfl rfl rfl)
    have te : TkE (CxP P w K mg base N_law "law" (defScope s_law) a cdv A outer s H E) (fun cls d _ H => E cls d H) := te_own (takes_of rfl rfl rfl rfl)
    have hp : PassesOwn (model P w) (CxP P w K mg base N_law "law" (defScope s_law) a cdv A outer s H E).A (CxP P w K mg base N_law "law" (defScope s_law) a cdv A outer s H E).env (CxP P w K mg base N_law "law" (defScope s_law) a cdv A outer s H E).xe := passes_of rfl
    have hN : (CxP P w K mg base N_law "law" (defScope s_law) a cdv A outer s H E).N.Nodup := sc_law.nd
    have w0 : ∀ {Γ : Sl}, SubX none Γ := trivial
    exact arg1 fun v_law_script E' => (show JB _ _ _ _ _ _ _ _ (n_law t v_law_script) from (jb_setT 1 w0 hN (JE.to (je_call tk h__law_start hr (Nat.le_refl _) (ja_cons (je_var (r := .v v_law_script) 0 rfl) ja_nil)) fun _ => rfl) (Γ' := fun law_state_1 => [some (.v v_law_script), some (.v law_state_1), none, none, none, none, none, none, none, none, none, none, none, none, none, none, none, none]) (fun law_state_1 => (jb_setLC 2 (Γ' := fun law_literals_5 => [some (.v v_law_script), some (.v law_state_1), some (.v law_literals_5), none, none, none, none, none, none, none, none, none, none, none, none, none, none, none]) [("_law_k", 4)] w0 rfl hN (JI.to (ji_range1 m_range (je_call tk h__law_take hr (Nat.le_refl _) (ja_cons (je_var (r := .v law_state_1) 1 rfl) (ja_cons je_int ja_nil)))) fun _ => rfl) (blkOk_by (N := N_law) (sc := defScope s_law) (by decide +kernel)) (jgb_name 4 (fun _ _ _ _ _ => hN)) (by decide) (fun law_k_3 => fun _ _ _ _ _ => (JTs.to jts_nil fun _ => rfl)) (fun law_k_3 => fun _ _ _ _ _ => (JE.to (je_call (.inr rfl) h__law_literal hr (Nat.le_refl _) (ja_cons (je_var (r := .v law_state_1) 1 rfl) ja_nil)) fun _ => rfl)) (fun law_literals_5 => (jb_setL 3 w0 hN (JE.to (je_lst ja_nil) fun _ => rfl) (Γ' := fun law_other_6 => [some (.v v_law_script), some (.v law_state_1), some (.v law_literals_5), some (.l law_other_6), none, none, none, none, none, none, none, none, none, none, none, none, none, none]) (fun law_other_6 => (jb_forS (A := List FV) ((fun law_other_29 => [some (.v v_law_script), some (.v law_state_1), some (.v law_literals_5), some (.l law_other_29), none, none, none, none, none, none, none, none, none, none, none, none, none, none] : (List FV) → Sl)) law_other_6 (Γb := fun law_other_9 law_k_8 => [some (.v v_law_script), some (.v law_state_1), some (.v law_literals_5), some (.l law_other_9), some (.v law_k_8), none, none, none, none, none, none, none, none, none, none, none, none, none]) (hΓ := fun law_other_9 law_k_8 => rfl) w0 hp rfl (JI.to (ji_range1 m_range (je_len m_len (je_var (r := .v law_literals_5) 2 rfl))) fun _ => rfl) (jg_name 4 hN) (fun law_other_9 law_k_8 => (jb_set 5 w0 hN (JE.to (je_ix hr (je_var (r := .v law_literals_5) 2 rfl) (je_var (r := .v law_k_8) 4 rfl)) fun _ => rfl) (Γ' := fun law_literal_here_10 => [some (.v v_law_script), some (.v law_state_1), some (.v law_literals_5), some (.l law_other_9), some (.v law_k_8), some (.v law_literal_here_10), none, none, none, none, none, none, none, none, none, none, none, none]) (fun law_literal_here_10 => (jb_if (eα := ((fun law_literal_here_14 => [some (.v v_law_script), some (.v law_state_1), some (.v law_literals_5), some (.l law_other_9), some (.v law_k_8), some (.v law_literal_here_14), none, none, none, none, none, none, none, none, none, none, none, none] : (FV) → Sl))) w0 (JT.to (jt_bool (jw_and (jt_nq hr (je_ix hr (je_var (r := .v law_literal_here_10) 5 rfl) je_int) (je_glob g_TOP)) (jw_and1 (jt_q hr (je_call tk h__law_take hr (Nat.le_refl _) (ja_cons (je_var (r := .v law_state_1) 1 rfl) (ja_cons je_int ja_nil))) je_int)))) fun _ => rfl) (jb_set 5 w0 hN (JE.to (je_tup (ja_cons (je_ix hr (je_var (r := .v law_literal_here_10) 5 rfl) je_int) (ja_cons (je_ix hr (je_var (r := .v law_literal_here_10) 5 rfl) je_int) (ja_cons (je_ix hr (je_var (r := .v law_literal_here_10) 5 rfl) je_int) ja_nil)))) fun _ => rfl) (Γ' := fun law_literal_here_28 => [some (.v v_law_script), some (.v law_state_1), some (.v law_literals_5), some (.l law_other_9), some (.v law_k_8), some (.v law_literal_here_28), none, none, none, none, none, none, none, none, none, none, none, none]) (fun law_literal_here_28 => (jb_nil (a := law_literal_here_28) (.keep (.keep (.keep (.keep (.keep (.keep (.keep (.keep (.keep (.keep (.keep (.keep (.keep (.keep (.keep (.keep (.keep (.keep .nil))))))))))))))))))))) (jb_nil (a := law_literal_here_10) (.keep (.keep (.keep (.keep (.keep (.keep (.keep (.keep (.keep (.keep (.keep (.keep (.keep (.keep (.keep (.keep (.keep (.keep .nil))))))))))))))))))) (fun law_literal_here_14 => (jb_insert 3 w0 (JE.to (je_call tk h__law_take hr (Nat.le_refl _) (ja_cons (je_var (r := .v law_state_1) 1 rfl) (ja_cons (je_add (je_len m_len (je_var (r := .l law_other_9) 3 rfl)) je_int) ja_nil))) fun _ => rfl) (JE.to (je_var (r := .v law_literal_here_14) 5 rfl) fun _ => rfl) (Γ' := fun law_other_15 => [some (.v v_law_script), some (.v law_state_1), some (.v law_literals_5), some (.l law_other_15), some (.v law_k_8), some (.v law_literal_here_14), none, none, none, none, none, none, none, none, none, none, none, none]) (fun law_other_15 => (jb_ifE w0 (JT.to (jt_q hr (je_call tk h__law_take hr (Nat.le_refl _) (ja_cons (je_var (r := .v law_state_1) 1 rfl) (ja_cons je_int ja_nil))) je_int) fun _ => rfl) (jb_append 3 w0 (JE.to (je_ix hr (je_var (r := .v law_literals_5) 2 rfl) (je_call tk h__law_take hr (Nat.le_refl _) (ja_cons (je_var (r := .v law_state_1) 1 rfl) (ja_cons (je_len m_len (je_var (r := .v law_literals_5) 2 rfl)) ja_nil)))) fun _ => rfl) (Γ' := fun law_other_20 => [some (.v v_law_script), some (.v law_state_1), some (.v law_literals_5), some (.l law_other_20), some (.v law_k_8), some (.v law_literal_here_14), none, none, none, none, none, none, none, none, none, none, none, none]) (fun law_other_20 => (jb_nil (a := law_other_20) (.keep (.keep (.keep (.keep (.drop (.drop (.keep (.keep (.keep (.keep (.keep (.keep (.keep (.keep (.keep (.keep (.keep (.keep .nil))))))))))))))))))))) (jb_nil (a := law_other_15) (.keep (.keep (.keep (.keep (.drop (.drop (.keep (.keep (.keep (.keep (.keep (.keep (.keep (.keep (.keep (.keep (.keep (.keep .nil))))))))))))))))))))))))))) (.keep (.keep (.keep (.keep (.keep (.keep (.keep (.keep (.keep (.keep (.keep (.keep (.keep (.keep (.keep (.keep (.keep (.keep .nil)))))))))))))))))) (fun law_other_29 => (jb_set 6 w0 hN (JE.to (je_call tk h__law_clause hr (Nat.le_refl _) (ja_cons (je_var (r := .v law_literals_5) 2 rfl) ja_nil)) fun _ => rfl) (Γ' := fun law_due_30 => [some (.v v_law_script), some (.v law_state_1), some (.v law_literals_5), some (.l law_other_29), none, none, some (.v law_due_30), none, none, none, none, none, none, none, none, none, none, none]) (fun law_due_30 => (jb_ifR w0 (JT.to (jt_nq hr (je_call tk h_make_clause hr (Nat.le_refl _) (ja_cons (je_lc [("_law_one", 17)] rfl hN (JI.to (ji_seq (je_var (r := .v law_literals_5) 2 rfl)) fun _ => rfl) (blkOk_by (N := N_law) (sc := defScope s_law) (by decide +kernel)) (jgb_name 17 (fun _ _ _ _ _ => hN)) (by decide) (fun law_one_31 => fun _ _ _ _ _ => (JTs.to jts_nil fun _ => rfl)) (fun law_one_31 => fun _ _ _ _ _ => (JE.to (je_call (.inr rfl) h_make_literal hr (Nat.le_refl _) (ja_cons (je_ix hr (je_var (r := .v law_one_31) 17 rfl) je_int) (ja_cons (je_ix hr (je_var (r := .v law_one_31) 17 rfl) je_int) (ja_cons (je_ix hr (je_var (r := .v law_one_31) 17 rfl) je_int) ja_nil)))) fun _ => rfl)) (hΓ := fun law_one_31 => rfl) (Γc := fun law_one_31 => [some (.v v_law_script), some (.v law_state_1), some (.v law_literals_5), some (.l law_other_29), none, none, some (.v law_due_30), none, none, none, none, none, none, none, none, none, none, some (.v law_one_31)]) (t := fun law_one_31 => (pur true)) (fe := fun law_one_31 => (bnd (mV (oB gIx (.v law_one_31) (.v (.int 0)))) fun v_32 => (bnd (mV (oB gIx (.v law_one_31) (.v (.int 1)))) fun v_33 => (bnd (mV (oB gIx (.v law_one_31) (.v (.int 2)))) fun v_34 => (t.d_make_literal v_32 v_33 v_34)))))) ja_nil)) (je_var (r := .v law_due_30) 6 rfl)) fun _ => rfl) (JE.to (je_bl (i := false)) fun _ => rfl) (jb_frz 3 (r := (.l law_other_29)) (d := (.fl law_other_29)) rfl rfl (Γ' := [some (.v v_law_script), some (.v law_state_1), some (.v law_literals_5), some (.v (.fl law_other_29)), none, none, some (.v law_due_30), none, none, none, none, none, none, none, none, none, none, none]) (jb_ifR w0 (JT.to (jt_nq hr (je_call tk h_make_clause hr (Nat.le_refl _) (ja_cons (je_tuple m_tuple (je_lc [("_law_one", 17)] rfl hN (JI.to (ji_seq (je_var (r := .v (.fl law_other_29)) 3 rfl)) fun _ => rfl) (blkOk_by (N := N_law) (sc := defScope s_law) (by decide +kernel)) (jgb_name 17 (fun _ _ _ _ _ => hN)) (by decide) (fun law_one_39 => fun _ _ _ _ _ => (JTs.to jts_nil fun _ => rfl)) (fun law_one_39 => fun _ _ _ _ _ => (JE.to (je_call (.inr rfl) h_make_literal hr (Nat.le_refl _) (ja_cons (je_ix hr (je_var (r := .v law_one_39) 17 rfl) je_int) (ja_cons (je_ix hr (je_var (r := .v law_one_39) 17 rfl) je_int) (ja_cons (je_ix hr (je_var (r := .v law_one_39) 17 rfl) je_int) ja_nil)))) fun _ => rfl)) (hΓ := fun law_one_39 => rfl) (Γc := fun law_one_39 => [some (.v v_law_script), some (.v law_state_1), some (.v law_literals_5), some (.v (.fl law_other_29)), none, none, some (.v law_due_30), none, none, none, none, none, none, none, none, none, none, some (.v law_one_39)]) (t := fun law_one_39 => (pur true)) (fe := fun law_one_39 => (bnd (mV (oB gIx (.v law_one_39) (.v (.int 0)))) fun v_40 => (bnd (mV (oB gIx (.v law_one_39) (.v (.int 1)))) fun v_41 => (bnd (mV (oB gIx (.v law_one_39) (.v (.int 2)))) fun v_42 => (t.d_make_literal v_40 v_41 v_42))))))) ja_nil)) (je_var (r := .v law_due_30) 6 rfl)) fun _ => rfl) (JE.to (je_bl (i := false)) fun _ => rfl) (jb_setLC 7 (Γ' := fun law_said_here_50 => [some (.v v_law_script), some (.v law_state_1), some (.v law_literals_5), some (.v (.fl law_other_29)), none, none, some (.v law_due_30), some (.v law_said_here_50), none, none, none, none, none, none, none, none, none, none]) [("_law_literal_here", 5)] w0 rfl hN (JI.to (ji_seq (je_var (r := .v law_due_30) 6 rfl)) fun _ => rfl) (blkOk_by (N := N_law) (sc := defScope s_law) (by decide +kernel)) (jgb_name 5 (fun _ _ _ _ _ => hN)) (by decide) (fun law_literal_here_48 => fun _ _ _ _ _ => (JTs.to jts_nil fun _ => rfl)) (fun law_literal_here_48 => fun _ _ _ _ _ => (JE.to (je_call (.inr rfl) h__law_said hr (Nat.le_refl _) (ja_cons (je_var (r := .v law_literal_here_48) 5 rfl) ja_nil)) fun _ => rfl)) (fun law_said_here_50 => (jb_ifR w0 (JT.to (jt_nq hr (je_lc [("_law_literal_here", 5)] rfl hN (JI.to (ji_seq (je_var (r := .v law_due_30) 6 rfl)) fun _ => rfl) (blkOk_by (N := N_law) (sc := defScope s_law) (by decide +kernel)) (jgb_name 5 (fun _ _ _ _ _ => hN)) (by decide) (fun law_literal_here_51 => fun _ _ _ _ _ => (JTs.to jts_nil fun _ => rfl)) (fun law_literal_here_51 => fun _ _ _ _ _ => (JE.to (je_call (.inr rfl) h_literal_text hr (Nat.le_refl _) (ja_cons (je_var (r := .v law_literal_here_51) 5 rfl) ja_nil)) fun _ => rfl)) (hΓ := fun law_literal_here_51 => rfl) (Γc := fun law_literal_here_51 => [some (.v v_law_script), some (.v law_state_1), some (.v law_literals_5), some (.v (.fl law_other_29)), none, some (.v law_literal_here_51), some (.v law_due_30), some (.v law_said_here_50), none, none, none, none, none, none, none, none, none, none]) (t := fun law_literal_here_51 => (pur true)) (fe := fun law_literal_here_51 => (t.d_literal_text law_literal_here_51))) (je_var (r := .v law_said_here_50) 7 rfl)) fun _ => rfl) (JE.to (je_bl (i := false)) fun _ => rfl) (jb_set 8 w0 hN (JE.to je_str fun _ => rfl) (Γ' := fun law_text_here_55 => [some (.v v_law_script), some (.v law_state_1), some (.v law_literals_5), some (.v (.fl law_other_29)), none, none, some (.v law_due_30), some (.v law_said_here_50), some (.v law_text_here_55), none, none, none, none, none, none, none, none, none]) (fun law_text_here_55 => (jb_if (eα := ((fun law_text_here_58 => [some (.v v_law_script), some (.v law_state_1), some (.v law_literals_5), some (.v (.fl law_other_29)), none, none, some (.v law_due_30), some (.v law_said_here_50), some (.v law_text_here_58), none, none, none, none, none, none, none, none, none] : (FV) → Sl))) w0 (JT.to (jt_gt (je_len m_len (je_var (r := .v law_said_here_50) 7 rfl)) je_int) fun _ => rfl) (jb_set 8 w0 hN (JE.to (je_join je_str (je_var (r := .v law_said_here_50) 7 rfl)) fun _ => rfl) (Γ' := fun law_text_here_129 => [some (.v v_law_script), some (.v law_state_1), some (.v law_literals_5), some (.v (.fl law_other_29)), none, none, some (.v law_due_30), some (.v law_said_here_50), some (.v law_text_here_129), none, none, none, none, none, none, none, none, none]) (fun law_text_here_129 => (jb_nil (a := law_text_here_129) (.keep (.keep (.keep (.keep (.keep (.keep (.keep (.keep (.keep (.keep (.keep (.keep (.keep (.keep (.keep (.keep (.keep (.keep .nil))))))))))))))))))))) (jb_nil (a := law_text_here_55) (.keep (.keep (.keep (.keep (.keep (.keep (.keep (.keep (.keep (.keep (.keep (.keep (.keep (.keep (.keep (.keep (.keep (.keep .nil))))))))))))))))))) (fun law_text_here_58 => (jb_ifR w0 (JT.to (jt_nq hr (je_call tk h_clause_text hr (Nat.le_refl _) (ja_cons (je_var (r := .v law_due_30) 6 rfl) ja_nil)) (je_var (r := .v law_text_here_58) 8 rfl)) fun _ => rfl) (JE.to (je_bl (i := false)) fun _ => rfl) (jb_setL 9 w0 hN (JE.to (je_lst ja_nil) fun _ => rfl) (Γ' := fun law_names_here_61 => [some (.v v_law_script), some (.v law_state_1), some (.v law_literals_5), some (.v (.fl law_other_29)), none, none, some (.v law_due_30), some (.v law_said_here_50), some (.v law_text_here_58), some (.l law_names_here_61), none, none, none, none, none, none, none, none]) (fun law_names_here_61 => (jb_forS (A := List FV) ((fun law_names_here_75 => [some (.v v_law_script), some (.v law_state_1), some (.v law_literals_5), some (.v (.fl law_other_29)), none, none, some (.v law_due_30), some (.v law_said_here_50), some (.v law_text_here_58), some (.l law_names_here_75), none, none, none, none, none, none, none, none] : (List FV) → Sl)) law_names_here_61 (Γb := fun law_names_here_63 law_literal_here_62 => [some (.v v_law_script), some (.v law_state_1), some (.v law_literals_5), some (.v (.fl law_other_29)), none, some (.v law_literal_here_62), some (.v law_due_30), some (.v law_said_here_50), some (.v law_text_here_58), some (.l law_names_here_63), none, none, none, none, none, none, none, none]) (hΓ := fun law_names_here_63 law_literal_here_62 => rfl) w0 hp rfl (JI.to (ji_seq (je_var (r := .v law_due_30) 6 rfl)) fun _ => rfl) (jg_name 5 hN) (fun law_names_here_63 law_literal_here_62 => (jb_forS (A := List FV) ((fun law_names_here_73 => [some (.v v_law_script), some (.v law_state_1), some (.v law_literals_5), some (.v (.fl law_other_29)), none, some (.v law_literal_here_62), some (.v law_due_30), some (.v law_said_here_50), some (.v law_text_here_58), some (.l law_names_here_73), none, none, none, none, none, none, none, none] : (List FV) → Sl)) law_names_here_63 (Γb := fun law_names_here_70 law_name_69 => [some (.v v_law_script), some (.v law_state_1), some (.v law_literals_5), some (.v (.fl law_other_29)), none, some (.v law_literal_here_62), some (.v law_due_30), some (.v law_said_here_50), some (.v law_text_here_58), some (.l law_names_here_70), some (.v law_name_69), none, none, none, none, none, none, none]) (hΓ := fun law_names_here_70 law_name_69 => rfl) w0 hp rfl (JI.to (ji_seq (je_add (je_call tk h__law_names hr (Nat.le_refl _) (ja_cons (je_ix hr (je_var (r := .v law_literal_here_62) 5 rfl) je_int) ja_nil)) (je_call tk h__law_names hr (Nat.le_refl _) (ja_cons (je_ix hr (je_var (r := .v law_literal_here_62) 5 rfl) je_int) ja_nil)))) fun _ => rfl) (jg_name 10 hN) (fun law_names_here_70 law_name_69 => (jb_ifE w0 (JT.to (jt_nmx hr (je_var (r := .v law_name_69) 10 rfl) (je_var (r := .l law_names_here_70) 9 rfl)) fun _ => rfl) (jb_append 9 w0 (JE.to (je_var (r := .v law_name_69) 10 rfl) fun _ => rfl) (Γ' := fun law_names_here_72 => [some (.v v_law_script), some (.v law_state_1), some (.v law_literals_5), some (.v (.fl law_other_29)), none, some (.v law_literal_here_62), some (.v law_due_30), some (.v law_said_here_50), some (.v law_text_here_58), some (.l law_names_here_72), some (.v law_name_69), none, none, none, none, none, none, none]) (fun law_names_here_72 => (jb_nil (a := law_names_here_72) (.keep (.keep (.keep (.keep (.keep (.keep (.keep (.keep (.keep (.keep (.drop (.keep (.keep (.keep (.keep (.keep (.keep (.keep .nil))))))))))))))))))))) (jb_nil (a := law_names_here_70) (.keep (.keep (.keep (.keep (.keep (.keep (.keep (.keep (.keep (.keep (.drop (.keep (.keep (.keep (.keep (.keep (.keep (.keep .nil))))))))))))))))))))) (.keep (.keep (.keep (.keep (.keep (.keep (.keep (.keep (.keep (.keep (.keep (.keep (.keep (.keep (.keep (.keep (.keep (.keep .nil)))))))))))))))))) (fun law_names_here_73 => (jb_nil (a := law_names_here_73) (.keep (.keep (.keep (.keep (.keep (.drop (.keep (.keep (.keep (.keep (.keep (.keep (.keep (.keep (.keep (.keep (.keep (.keep .nil)))))))))))))))))))))) (.keep (.keep (.keep (.keep (.keep (.keep (.keep (.keep (.keep (.keep (.keep (.keep (.keep (.keep (.keep (.keep (.keep (.keep .nil)))))))))))))))))) (fun law_names_here_75 => (jb_set 11 w0 hN (JE.to (je_call tk h_is_ground hr (Nat.le_refl _) (ja_cons (je_var (r := .v law_due_30) 6 rfl) ja_nil)) fun _ => rfl) (Γ' := fun law_ground_76 => [some (.v v_law_script), some (.v law_state_1), some (.v law_literals_5), some (.v (.fl law_other_29)), none, none, some (.v law_due_30), some (.v law_said_here_50), some (.v law_text_here_58), some (.l law_names_here_75), none, some (.v law_ground_76), none, none, none, none, none, none]) (fun law_ground_76 => (jb_ifR w0 (JT.to (jt_bool (jw_or (jt_nq hr (je_call tk h_clause_unknowns hr (Nat.le_refl _) (ja_cons (je_var (r := .v law_due_30) 6 rfl) ja_nil)) (je_var (r := .l law_names_here_75) 9 rfl)) (jw_or (jt_not (jt_val (je_isi m_isinstance m_bool (je_var (r := .v law_ground_76) 11 rfl)))) (jw_or1 (jt_nq hr (je_var (r := .v law_ground_76) 11 rfl) (je_q hr (je_len m_len (je_var (r := .l law_names_here_75) 9 rfl)) je_int)))))) fun _ => rfl) (JE.to (je_bl (i := false)) fun _ => rfl) (jb_setD 12 w0 hN (JE.to (je_dis (jps_cons je_str (je_call tk h__law_term hr (Nat.le_refl _) (ja_cons (je_var (r := .v law_state_1) 1 rfl) (ja_cons je_int ja_nil))) jps_nil)) fun _ => rfl) (Γ' := fun law_filling_84 => [some (.v v_law_script), some (.v law_state_1), some (.v law_literals_5), some (.v (.fl law_other_29)), none, none, some (.v law_due_30), some (.v law_said_here_50), some (.v law_text_here_58), some (.l law_names_here_75), none, some (.v law_ground_76), some (.d law_filling_84), none, none, none, none, none]) (fun law_filling_84 => (jb_if (eα := ((fun law_filling_87 => [some (.v v_law_script), some (.v law_state_1), some (.v law_literals_5), some (.v (.fl law_other_29)), none, none, some (.v law_due_30), some (.v law_said_here_50), some (.v law_text_here_58), some (.l law_names_here_75), none, some (.v law_ground_76), some (.d law_filling_87), none, none, none, none, none] : (List (Key × FV)) → Sl))) w0 (JT.to (jt_q hr (je_call tk h__law_take hr (Nat.le_refl _) (ja_cons (je_var (r := .v law_state_1) 1 rfl) (ja_cons je_int ja_nil))) je_int) fun _ => rfl) (jb_dput 12 hr w0 (JE.to (je_call tk h__law_term hr (Nat.le_refl _) (ja_cons (je_var (r := .v law_state_1) 1 rfl) (ja_cons je_int ja_nil))) fun _ => rfl) (JE.to je_str fun _ => rfl) (Γ' := fun law_filling_126 => [some (.v v_law_script), some (.v law_state_1), some (.v law_literals_5), some (.v (.fl law_other_29)), none, none, some (.v law_due_30), some (.v law_said_here_50), some (.v law_text_here_58), some (.l law_names_here_75), none, some (.v law_ground_76), some (.d law_filling_126), none, none, none, none, none]) (fun law_filling_126 => (jb_nil (a := law_filling_126) (.keep (.keep (.keep (.keep (.keep (.keep (.keep (.keep (.keep (.keep (.keep (.keep (.keep (.keep (.keep (.keep (.keep (.keep .nil))))))))))))))))))))) (jb_nil (a := law_filling_84) (.keep (.keep (.keep (.keep (.keep (.keep (.keep (.keep (.keep (.keep (.keep (.keep (.keep (.keep (.keep (.keep (.keep (.keep .nil))))))))))))))))))) (fun law_filling_87 => (jb_frz 12 (r := (.d law_filling_87)) (d := (frzD law_filling_87)) rfl rfl (Γ' := [some (.v v_law_script), some (.v law_state_1), some (.v law_literals_5), some (.v (.fl law_other_29)), none, none, some (.v law_due_30), some (.v law_said_here_50), some (.v law_text_here_58), some (.l law_names_here_75), none, some (.v law_ground_76), some (.v (frzD law_filling_87)), none, none, none, none, none]) (jb_setLC 13 (Γ' := fun law_filled_here_95 => [some (.v v_law_script), some (.v law_state_1), some (.v law_literals_5), some (.v (.fl law_other_29)), none, none, some (.v law_due_30), some (.v law_said_here_50), some (.v law_text_here_58), some (.l law_names_here_75), none, some (.v law_ground_76), some (.v (frzD law_filling_87)), some (.v law_filled_here_95), none, none, none, none]) [("_law_one", 17)] w0 rfl hN (JI.to (ji_seq (je_var (r := .v law_due_30) 6 rfl)) fun _ => rfl) (blkOk_by (N := N_law) (sc := defScope s_law) (by decide +kernel)) (jgb_name 17 (fun _ _ _ _ _ => hN)) (by decide) (fun law_one_88 => fun _ _ _ _ _ => (JTs.to jts_nil fun _ => rfl)) (fun law_one_88 => fun _ _ _ _ _ => (JE.to (je_tup (ja_cons (je_ix hr (je_var (r := .v law_one_88) 17 rfl) je_int) (ja_cons (je_call (.inr rfl) h__law_filled hr (Nat.le_refl _) (ja_cons (je_ix hr (je_var (r := .v law_one_88) 17 rfl) je_int) (ja_cons (je_var (r := .v (frzD law_filling_87)) 12 rfl) ja_nil))) (ja_cons (je_call (.inr rfl) h__law_filled hr (Nat.le_refl _) (ja_cons (je_ix hr (je_var (r := .v law_one_88) 17 rfl) je_int) (ja_cons (je_var (r := .v (frzD law_filling_87)) 12 rfl) ja_nil))) ja_nil)))) fun _ => rfl)) (fun law_filled_here_95 => (jb_ifR w0 (JT.to (jt_nq hr (je_lc [("_law_one", 17)] rfl hN (JI.to (ji_seq (je_var (r := .v law_due_30) 6 rfl)) fun _ => rfl) (blkOk_by (N := N_law) (sc := defScope s_law) (by decide +kernel)) (jgb_name 17 (fun _ _ _ _ _ => hN)) (by decide) (fun law_one_96 => fun _ _ _ _ _ => (JTs.to jts_nil fun _ => rfl)) (fun law_one_96 => fun _ _ _ _ _ => (JE.to (je_call (.inr rfl) h_fill_term hr (Nat.le_refl _) (ja_cons (je_ix hr (je_var (r := .v law_one_96) 17 rfl) je_int) (ja_cons (je_var (r := .v (frzD law_filling_87)) 12 rfl) ja_nil))) fun _ => rfl)) (hΓ := fun law_one_96 => rfl) (Γc := fun law_one_96 => [some (.v v_law_script), some (.v law_state_1), some (.v law_literals_5), some (.v (.fl law_other_29)), none, none, some (.v law_due_30), some (.v law_said_here_50), some (.v law_text_here_58), some (.l law_names_here_75), none, some (.v law_ground_76), some (.v (frzD law_filling_87)), some (.v law_filled_here_95), none, none, none, some (.v law_one_96)]) (t := fun law_one_96 => (pur true)) (fe := fun law_one_96 => (bnd (mV (oB gIx (.v law_one_96) (.v (.int 1)))) fun v_97 => (t.d_fill_term v_97 (frzD law_filling_87))))) (je_lc [("_law_one", 17)] rfl hN (JI.to (ji_seq (je_var (r := .v law_filled_here_95) 13 rfl)) fun _ => rfl) (blkOk_by (N := N_law) (sc := defScope s_law) (by decide +kernel)) (jgb_name 17 (fun _ _ _ _ _ => hN)) (by decide) (fun law_one_99 => fun _ _ _ _ _ => (JTs.to jts_nil fun _ => rfl)) (fun law_one_99 => fun _ _ _ _ _ => (JE.to (je_ix hr (je_var (r := .v law_one_99) 17 rfl) je_int) fun _ => rfl)) (hΓ := fun law_one_99 => rfl) (Γc := fun law_one_99 => [some (.v v_law_script), some (.v law_state_1), some (.v law_literals_5), some (.v (.fl law_other_29)), none, none, some (.v law_due_30), some (.v law_said_here_50), some (.v law_text_here_58), some (.l law_names_here_75), none, some (.v law_ground_76), some (.v (frzD law_filling_87)), some (.v law_filled_here_95), none, none, none, some (.v law_one_99)]) (t := fun law_one_99 => (pur true)) (fe := fun law_one_99 => (oB gIx (.v law_one_99) (.v (.int 1)))))) fun _ => rfl) (JE.to (je_bl (i := false)) fun _ => rfl) (jb_ifR w0 (JT.to (jt_nq hr (je_call tk h_fill_clause hr (Nat.le_refl _) (ja_cons (je_var (r := .v law_due_30) 6 rfl) (ja_cons (je_var (r := .v (frzD law_filling_87)) 12 rfl) ja_nil))) (je_call tk h__law_clause hr (Nat.le_refl _) (ja_cons (je_var (r := .v law_filled_here_95) 13 rfl) ja_nil))) fun _ => rfl) (JE.to (je_bl (i := false)) fun _ => rfl) (jb_set 14 w0 hN (JE.to (je_bl (i := false)) fun _ => rfl) (Γ' := fun law_either_107 => [some (.v v_law_script), some (.v law_state_1), some (.v law_literals_5), some (.v (.fl law_other_29)), none, none, some (.v law_due_30), some (.v law_said_here_50), some (.v law_text_here_58), some (.l law_names_here_75), none, some (.v law_ground_76), some (.v (frzD law_filling_87)), some (.v law_filled_here_95), some (.v law_either_107), none, none, none]) (fun law_either_107 => (jb_forS (A := FV) ((fun law_either_122 => [some (.v v_law_script), some (.v law_state_1), some (.v law_literals_5), some (.v (.fl law_other_29)), none, none, some (.v law_due_30), some (.v law_said_here_50), some (.v law_text_here_58), some (.l law_names_here_75), none, some (.v law_ground_76), some (.v (frzD law_filling_87)), some (.v law_filled_here_95), some (.v law_either_122), none, none, none] : (FV) → Sl)) law_either_107 (Γb := fun law_either_109 law_literal_here_108 => [some (.v v_law_script), some (.v law_state_1), some (.v law_literals_5), some (.v (.fl law_other_29)), none, some (.v law_literal_here_108), some (.v law_due_30), some (.v law_said_here_50), some (.v law_text_here_58), some (.l law_names_here_75), none, some (.v law_ground_76), some (.v (frzD law_filling_87)), some (.v law_filled_here_95), some (.v law_either_109), none, none, none]) (hΓ := fun law_either_109 law_literal_here_108 => rfl) w0 hp rfl (JI.to (ji_seq (je_var (r := .v law_due_30) 6 rfl)) fun _ => rfl) (jg_name 5 hN) (fun law_either_109 law_literal_here_108 => (jb_set 15 w0 hN (JE.to (je_tup (ja_cons (je_not (je_ix hr (je_var (r := .v law_literal_here_108) 5 rfl) je_int)) (ja_cons (je_ix hr (je_var (r := .v law_literal_here_108) 5 rfl) je_int) (ja_cons (je_ix hr (je_var (r := .v law_literal_here_108) 5 rfl) je_int) ja_nil)))) fun _ => rfl) (Γ' := fun law_turned_114 => [some (.v v_law_script), some (.v law_state_1), some (.v law_literals_5), some (.v (.fl law_other_29)), none, some (.v law_literal_here_108), some (.v law_due_30), some (.v law_said_here_50), some (.v law_text_here_58), some (.l law_names_here_75), none, some (.v law_ground_76), some (.v (frzD law_filling_87)), some (.v law_filled_here_95), some (.v law_either_109), some (.v law_turned_114), none, none]) (fun law_turned_114 => (jb_ifR w0 (JT.to (jt_nq hr (je_call tk h_opposite hr (Nat.le_refl _) (ja_cons (je_var (r := .v law_literal_here_108) 5 rfl) ja_nil)) (je_var (r := .v law_turned_114) 15 rfl)) fun _ => rfl) (JE.to (je_bl (i := false)) fun _ => rfl) (jb_ifE w0 (JT.to (jt_bool (jw_or (jt_mx hr (je_var (r := .v law_turned_114) 15 rfl) (je_var (r := .v law_due_30) 6 rfl)) (jw_or1 (jt_bool (jw_and (jt_val (je_ix hr (je_var (r := .v law_literal_here_108) 5 rfl) je_int)) (jw_and1 (jt_q hr (je_ix hr (je_var (r := .v law_literal_here_108) 5 rfl) je_int) (je_ix hr (je_var (r := .v law_literal_here_108) 5 rfl) je_int)))))))) fun _ => rfl) (jb_set 14 w0 hN (JE.to (je_bl (i := true)) fun _ => rfl) (Γ' := fun law_either_121 => [some (.v v_law_script), some (.v law_state_1), some (.v law_literals_5), some (.v (.fl law_other_29)), none, some (.v law_literal_here_108), some (.v law_due_30), some (.v law_said_here_50), some (.v law_text_here_58), some (.l law_names_here_75), none, some (.v law_ground_76), some (.v (frzD law_filling_87)), some (.v law_filled_here_95), some (.v law_either_121), some (.v law_turned_114), none, none]) (fun law_either_121 => (jb_nil (a := law_either_121) (.keep (.keep (.keep (.keep (.keep (.drop (.keep (.keep (.keep (.keep (.keep (.keep (.keep (.keep (.keep (.drop (.keep (.keep .nil))))))))))))))))))))) (jb_nil (a := law_either_109) (.keep (.keep (.keep (.keep (.keep (.drop (.keep (.keep (.keep (.keep (.keep (.keep (.keep (.keep (.keep (.drop (.keep (.keep .nil)))))))))))))))))))))))) (.keep (.keep (.keep (.keep (.keep (.keep (.keep (.keep (.keep (.keep (.keep (.keep (.keep (.keep (.keep (.keep (.keep (.keep .nil)))))))))))))))))) (fun law_either_122 => (jb_set 16 w0 hN (JE.to (je_call tk h_always_true hr (Nat.le_refl _) (ja_cons (je_var (r := .v law_due_30) 6 rfl) ja_nil)) fun _ => rfl) (Γ' := fun law_always_123 => [some (.v v_law_script), some (.v law_state_1), some (.v law_literals_5), some (.v (.fl law_other_29)), none, none, some (.v law_due_30), some (.v law_said_here_50), some (.v law_text_here_58), some (.l law_names_here_75), none, some (.v law_ground_76), some (.v (frzD law_filling_87)), some (.v law_filled_here_95), some (.v law_either_122), none, some (.v law_always_123), none]) (fun law_always_123 => (jb_ret w0 (JE.to (je_and (je_isi m_isinstance m_bool (je_var (r := .v law_always_123) 16 rfl)) (je_one (je_q hr (je_var (r := .v law_always_123) 16 rfl) (je_var (r := .v law_either_122) 14 rfl)))) fun _ => rfl))))))))))) (hΓ := fun law_one_88 => rfl) (Γc := fun law_one_88 => [some (.v v_law_script), some (.v law_state_1), some (.v law_literals_5), some (.v (.fl law_other_29)), none, none, some (.v law_due_30), some (.v law_said_here_50), some (.v law_text_here_58), some (.l law_names_here_75), none, some (.v law_ground_76), some (.v (frzD law_filling_87)), none, none, none, none, some (.v law_one_88)]) (t := fun law_one_88 => (pur true)))))))))))))))))))))) (hΓ := fun law_literal_here_48 => rfl) (Γc := fun law_literal_here_48 => [some (.v v_law_script), some (.v law_state_1), some (.v law_literals_5), some (.v (.fl law_other_29)), none, some (.v law_literal_here_48), some (.v law_due_30), none, none, none, none, none, none, none, none, none, none, none]) (t := fun law_literal_here_48 => (pur true))))))))))))) (hΓ := fun law_k_3 => rfl) (Γc := fun law_k_3 => [some (.v v_law_script), some (.v law_state_1), none, none, some (.v law_k_3), none, none, none, none, none, none, none, none, none, none, none, none, none]) (t := fun law_k_3 => (pur true))))))
end
end Q87
namespace Q87
open PySem P
/-! the text of a term -/
theorem push_loop {β : Type} : ∀ (vs D : List Tm), (D.length + 2 * vs.length ≤ 10000000) → (forN ((fun due_22 argument_21 => (bnd (mV (oLst [argument_21, (.str ", ")])) fun v_25 => (bnd (oL v_25) fun es_24 => bnd (oExt due_22 es_24) fun due_23 => (pur (.nx due_23))))) : List FV → FV → M (Fl (List FV) (List FV))) (vs.map Tm.fv) (D.map Tm.fv) : M (Fl (List FV) β)) = pur (.nx ((D ++ pushL vs).map Tm.fv))
  | [], D, _ => by unfold pushL; rw [List.flatMap_nil, List.append_nil]; rfl
  | v :: vs, D, h => by
    rw [List.length_cons] at h
    rw [List.map_cons, forN_cons, lst_2, mV_l, bnd_pur, oL_fl, bnd_pur, ext_le (by rw [List.length_map, List.length_cons, List.length_cons, List.length_nil]; omega), bnd_pur, bnd_pur]
    have e : D.map Tm.fv ++ [v.fv, FV.str ", "] = (D ++ [v, .var ", "]).map Tm.fv := by
      rw [List.map_append, List.map_cons, List.map_cons, List.map_nil, fv_var]
    rw [e]
    have ih := push_loop (β := β) vs (D ++ [v, .var ", "]) (by rw [List.length_append, List.length_cons, List.length_cons, List.length_nil]; omega)
    refine ih.trans ?_
    unfold pushL
    rw [List.flatMap_cons, List.append_assoc]
theorem tt_turn {all : List Nat} {N : Nat} (hN : N ≤ 1000000) (ys : List Str) (ds : List Tm) (t : Tm) (h1 : catS ys ++ outL (ds ++ [t]) = all) (h2 : ys.length + nnL (ds ++ [t]) ≤ N) (h3 : ∀ y, y ∈ ys → y.length ≤ 101) (h4 : ∀ d, d ∈ ds ++ [t] → d.sm) :
    ∃ (ys' : List Str) (ds' : List Tm), ((fun | (texts_3, due_4) => (bnd (oPopO due_4) (fun | (part_7, due_6) => (bnd (bnd (oU (gIs "str") (.v part_7)) fun t_8 => (oT t_8)) fun c_9 => if c_9 = true then (bnd (oApp texts_3 part_7) fun texts_10 => (pur (.nx (texts_10, due_6)))) else (bnd (oC (gQ false) (.v part_7) (.v c_TOP)) fun c_11 => if c_11 = true then (bnd (oApp texts_3 (.str "true")) fun texts_12 => (pur (.nx (texts_12, due_6)))) else (bnd (bnd (oU gLen (.v part_7)) fun t_13 => (oC (gQ false) t_13 (.v (.int 1)))) fun c_14 => if c_14 = true then (bnd (mV (oB gIx (.v part_7) (.v (.int 0)))) fun v_16 => (bnd (oApp texts_3 v_16) fun texts_15 => (pur (.nx (texts_15, due_6))))) else (bnd (mV (bnd (oB gIx (.v part_7) (.v (.int 0))) fun t_18 => (oB gAdd t_18 (.v (.str "("))))) fun v_30 => (bnd (oApp texts_3 v_30) fun texts_17 => (bnd (oApp due_6 (.str ")")) fun due_19 => (bnd (bnd (mV (oU (gRevS (some 1)) (.v part_7))) fun v_20 => (oW v_20)) fun xs_29 => seqN (forN (fun due_22 argument_21 => (bnd (mV (oLst [argument_21, (.str ", ")])) fun v_25 => (bnd (oL v_25) fun es_24 => bnd (oExt due_22 es_24) fun due_23 => (pur (.nx due_23))))) xs_29 due_19) (fun due_26 => (bnd (mV (oB gIx (.v part_7) (.v (.int 1)))) fun v_28 => (bnd (oApp due_26 v_28) fun due_27 => (pur (.nx (texts_17, due_27)))))))))))))))) : List FV × List FV → M (Fl (List FV × List FV) (List FV × List FV))) (ys.map .str, (ds ++ [t]).map Tm.fv) = pur (.nx (ys'.map .str, ds'.map Tm.fv)) ∧ catS ys' ++ outL ds' = all ∧ ys'.length + nnL ds' ≤ N ∧ (∀ y, y ∈ ys' → y.length ≤ 101) ∧ (∀ d, d ∈ ds' → d.sm) ∧ nnL ds' < nnL (ds ++ [t]) := by
  rw [outL_snoc] at h1
  rw [nnL_app, nnL_one] at h2 ⊢
  have h4d : ∀ d, d ∈ ds → d.sm := fun d hd => h4 d (List.mem_append_left _ hd)
  have h4t := h4 t (List.mem_append_right _ List.mem_cons_self)
  have yl : ys.length ≤ 1000000 := by omega
  have dl := nnL_len ds
  have snocs : ∀ x : Str, x.length ≤ 101 → ∀ y, y ∈ ys ++ [x] → y.length ≤ 101 := fun x hx y hy => by
    rcases List.mem_append.mp hy with hy | hy
    · exact h3 y hy
    · have : y = x := by simpa using hy
      rw [this]; exact hx
  dsimp only
  rw [List.map_append, List.map_cons, List.map_nil, pop_o, bnd_pur]
  dsimp only
  rw [is_str_t, bnd_pur, oT_bl, bnd_pur]
  cases t with
  | var x =>
    have hx := sm_var.mp h4t
    rw [nn_var] at h2 ⊢
    dsimp only
    rw [if_pos rfl, fv_var, app_lt (by rw [List.length_map]; omega), bnd_pur]
    refine ⟨ys ++ [x], ds, by rw [List.map_append]; rfl, ?_, by rw [List.length_append, List.length_cons, List.length_nil]; omega, snocs x (by omega), h4d, by omega⟩
    rw [catS_app, catS_one, List.append_assoc, ← h1, cs_var]
  | app f ts =>
    obtain ⟨⟨f1, f2⟩, hts⟩ := sm_app.mp h4t
    rw [nn_app] at h2 ⊢
    dsimp only
    rw [if_neg Bool.false_ne_true, show c_TOP = (Tm.app "" []).fv by rw [fv_app, fvs_nil]; rfl, q_tt (by rw [dep_app "" []]; exact Nat.le_trans (Nat.min_le_right _ _) (by rw [deps_nil]; decide)), if_neg Bool.false_ne_true, bnd_pur, decide_eq_false (by
      intro z
      cases z
      revert f1; decide), if_neg Bool.false_ne_true, fv_app, len_t, bnd_pur, q_ii, if_neg Bool.false_ne_true, bnd_pur, List.length_cons, fvs_len, ix_t0]
    cases ts with
    | nil =>
      rw [decide_eq_true (by rfl), if_pos rfl, mV_v, bnd_pur, app_lt (by rw [List.length_map]; omega), bnd_pur]
      refine ⟨ys ++ [f], ds, by rw [List.map_append]; rfl, ?_, by rw [List.length_append, List.length_cons, List.length_nil]; omega, snocs f (by omega), h4d, by omega⟩
      rw [catS_app, catS_one, List.append_assoc, ← h1, cs_app, csA_nil, List.append_nil]
    | cons u us =>
      rw [nns_cons] at h2 ⊢
      have ul := nnL_push us
      have ul2 := two_len us
      have l1 : ("(" : Str).length = 1 := by decide +kernel
      rw [decide_eq_false (by rw [List.length_cons]; omega), if_neg Bool.false_ne_true, bnd_pur, add_ss (by omega), mV_v, bnd_pur, app_lt (by rw [List.length_map]; omega), bnd_pur, app_lt (by rw [List.length_map]; omega), bnd_pur]
      rw [show oU (gRevS (some 1)) (.v (.tup (FV.str f :: Tm.fvs (u :: us)))) = pur (.v (.tup (us.reverse.map Tm.fv))) from lift_ok fun s => by
        show some (RV.v (.tup ((FV.str f :: Tm.fvs (u :: us)).drop (1 + 1)).reverse)) = _
        rw [fvs_cons, fvs_map, List.map_reverse]; rfl, mV_v, bnd_pur, oW_tup, bnd_pur]
      have pl := push_loop (β := List FV × List FV) us.reverse (ds ++ [.var ")"]) (by rw [List.length_append, List.length_reverse, List.length_cons, List.length_nil]; omega)
      rw [List.map_append, List.map_cons, List.map_nil, fv_var] at pl
      rw [pl, seqN_nx, fvs_cons, ix_t1, mV_v, bnd_pur, app_lt (by
        have := nnL_len (ds ++ [Tm.var ")"] ++ pushL us.reverse)
        rw [nnL_app, nnL_app, nnL_one, nn_var, ul] at this
        rw [List.length_map]; omega), bnd_pur]
      refine ⟨ys ++ [f ++ "("], ds ++ [.var ")"] ++ pushL us.reverse ++ [u], by simp, ?_, ?_, snocs _ (by rw [slen]; omega), ?_, ?_⟩
      · rw [catS_app, catS_one, outL_snoc, outL_push, outL_snoc, ← h1, cs_app, csA_cons, csR_flat, sgs_app, s_mks.1, cs_var, s_mks.2.1]
        simp
      · rw [nnL_app, nnL_app, nnL_app, nnL_one, nnL_one, nn_var, ul, List.length_append, List.length_cons, List.length_nil]; omega
      · intro d hd
        rcases List.mem_append.mp hd with hd | hd
        · rcases List.mem_append.mp hd with hd | hd
          · rcases List.mem_append.mp hd with hd | hd
            · exact h4d d hd
            · have : d = .var ")" := by simpa using hd
              subst this
              exact sm_var.mpr (by decide +kernel)
          · rcases mem_push hd with hd | rfl
            · exact hts d (List.mem_cons_of_mem _ (List.mem_reverse.mp hd))
            · exact sm_var.mpr (by decide +kernel)
        · have : d = u := by simpa using hd
          subst this
          exact hts d List.mem_cons_self
      · rw [nnL_app, nnL_app, nnL_app, nnL_one, nnL_one, nn_var, ul]; omega
theorem term_text_ok (n : Nat) (t : Tm) (h : t.sm) (hn : t.nn ≤ 100000) : (T (n + 1)).d_term_text t.fv = pur (.v (.str (mk t.cs))) := by
  rw [T_term_text]
  unfold n_term_text
  rw [lst_nil, mL_l, bnd_pur, lst_1, mL_l, bnd_pur]
  have key : ∀ (k fuel : Nat) (ys : List Str) (ds : List Tm), nnL ds ≤ k → k < fuel → catS ys ++ outL ds = t.cs → ys.length + nnL ds ≤ 100000 → (∀ y, y ∈ ys → y.length ≤ 101) → (∀ d, d ∈ ds → d.sm) →
      ∃ ys' : List Str, (whileN ((fun | (texts_3, due_4) => (bnd (oU gLen (.bl due_4)) fun t_5 => (oC gGt t_5 (.v (.int 0)))))) ((fun | (texts_3, due_4) => (bnd (oPopO due_4) (fun | (part_7, due_6) => (bnd (bnd (oU (gIs "str") (.v part_7)) fun t_8 => (oT t_8)) fun c_9 => if c_9 = true then (bnd (oApp texts_3 part_7) fun texts_10 => (pur (.nx (texts_10, due_6)))) else (bnd (oC (gQ false) (.v part_7) (.v c_TOP)) fun c_11 => if c_11 = true then (bnd (oApp texts_3 (.str "true")) fun texts_12 => (pur (.nx (texts_12, due_6)))) else (bnd (bnd (oU gLen (.v part_7)) fun t_13 => (oC (gQ false) t_13 (.v (.int 1)))) fun c_14 => if c_14 = true then (bnd (mV (oB gIx (.v part_7) (.v (.int 0)))) fun v_16 => (bnd (oApp texts_3 v_16) fun texts_15 => (pur (.nx (texts_15, due_6))))) else (bnd (mV (bnd (oB gIx (.v part_7) (.v (.int 0))) fun t_18 => (oB gAdd t_18 (.v (.str "("))))) fun v_30 => (bnd (oApp texts_3 v_30) fun texts_17 => (bnd (oApp due_6 (.str ")")) fun due_19 => (bnd (bnd (mV (oU (gRevS (some 1)) (.v part_7))) fun v_20 => (oW v_20)) fun xs_29 => seqN (forN (fun due_22 argument_21 => (bnd (mV (oLst [argument_21, (.str ", ")])) fun v_25 => (bnd (oL v_25) fun es_24 => bnd (oExt due_22 es_24) fun due_23 => (pur (.nx due_23))))) xs_29 due_19) (fun due_26 => (bnd (mV (oB gIx (.v part_7) (.v (.int 1)))) fun v_28 => (bnd (oApp due_26 v_28) fun due_27 => (pur (.nx (texts_17, due_27))))))))))))))))) fuel (ys.map .str, ds.map Tm.fv) : M (Fl (List FV × List FV) Empty)) = pur (.nx (ys'.map .str, [])) ∧ catS ys' = t.cs ∧ ys'.length ≤ 100000 ∧ ∀ y, y ∈ ys' → y.length ≤ 101 := fun k => by
    induction k with
    | zero =>
      intro fuel ys ds hk hf h1 h2 h3 h4
      obtain ⟨fuel, rfl⟩ : ∃ j, fuel = j + 1 := ⟨fuel - 1, by omega⟩
      have dl := nnL_len ds
      have : ds = [] := List.length_eq_zero_iff.mp (by omega)
      subst this
      refine ⟨ys, ?_, by rw [← h1]; unfold outL; simp, by omega, h3⟩
      exact while_stop (by
        dsimp only
        rw [List.map_nil, len_bl, bnd_pur, gt_ii, decide_eq_false (by simp)])
    | succ k ih =>
      intro fuel ys ds hk hf h1 h2 h3 h4
      obtain ⟨fuel, rfl⟩ : ∃ j, fuel = j + 1 := ⟨fuel - 1, by omega⟩
      by_cases e : ds = []
      · subst e
        refine ⟨ys, ?_, by rw [← h1]; unfold outL; simp, by omega, h3⟩
        exact while_stop (by
          dsimp only
          rw [List.map_nil, len_bl, bnd_pur, gt_ii, decide_eq_false (by simp)])
      · obtain ⟨ds, u, rfl⟩ : ∃ m y, ds = m ++ [y] := ⟨_, _, (List.dropLast_concat_getLast e).symm⟩
        obtain ⟨ys', ds', e1, g1, g2, g3, g4, g5⟩ := tt_turn (N := 100000) (by decide) ys ds u h1 h2 h3 h4
        obtain ⟨zs, e2, z1, z2, z3⟩ := ih fuel ys' ds' (by omega) (by omega) g1 g2 g3 g4
        refine ⟨zs, ?_, z1, z2, z3⟩
        refine (while_step ?_ e1).trans e2
        dsimp only
        rw [len_bl, bnd_pur, gt_ii, decide_eq_true (by rw [List.length_map, List.length_append, List.length_cons]; omega)]
  obtain ⟨ys, e, h1, h2, h3⟩ := key 100000 FUEL [] [t] (by rw [nnL_one]; exact hn) (by decide) (by unfold catS outL; simp) (by rw [nnL_one]; simpa using hn) (fun y hy => by cases hy) (fun d hd => by
    have : d = t := by simpa using hd
    rw [this]; exact h)
  have e' := e
  rw [List.map_nil, List.map_cons, List.map_nil] at e'
  rw [e', seqN_nx]
  dsimp only
  rw [join_s (b := false) (fun _ => rfl) (txts_str ys) (by
    have := sum_le h3
    have l0 : ("" : Str).length = 0 := by decide +kernel
    have : ys.length * 101 ≤ 100000 * 101 := Nat.mul_le_mul_right _ h2
    rw [l0]; omega), ret_pur, toF_rt, gcM_pur']
  rw [show Txt.join "" ys = mk t.cs from str_ext (by show sgs (Txt.join "" ys) = t.cs; rw [join0, h1])]
end Q87
namespace Q87
open PySem P
/-! the parts of a term in preorder -/
theorem args_ok (n : Nat) (t : Tm) : (T (n + 1)).d_arguments t.fv = pur (.v (.tup (t.args.map Tm.fv))) := by
  rw [T__arguments, n_arguments, is_str_t, bnd_pur, oT_bl, bnd_pur]
  cases t with
  | var x =>
    dsimp only
    rw [if_pos rfl, tup_nil, ret_pur, toF_rt, gcM_pur']; rfl
  | app f ts =>
    dsimp only
    rw [if_neg Bool.false_ne_true, fv_app, sl_t1, ret_pur, toF_rt, gcM_pur', fvs_map]; rfl
theorem all_loop' (n : Nat) : ∀ (k fuel : Nat) (ps ds : List Tm), nnL ds ≤ k → k < fuel → ps.length + k ≤ 1000000 →
    (whileN ((fun | (parts_3, due_4) => (bnd (oU gLen (.bl due_4)) fun t_5 => (oC gGt t_5 (.v (.int 0)))))) ((fun | (parts_3, due_4) => (bnd (oPopO due_4) (fun | (part_7, due_6) => (bnd (oApp parts_3 part_7) fun parts_8 => (bnd (mV (bnd ((T (n + 1)).d_arguments part_7) fun t_10 => (oU (gRevS none) t_10))) fun v_12 => (bnd (oLu v_12) fun es_11 => bnd (oExt due_6 es_11) fun due_9 => (pur (.nx (parts_8, due_9)))))))))) fuel (ps.map Tm.fv, ds.map Tm.fv) : M (Fl (List FV × List FV) Empty)) = pur (.nx ((ps ++ prL ds).map Tm.fv, [])) := fun k => by
  have stop : ∀ (fuel : Nat) (ps : List Tm), (whileN ((fun | (parts_3, due_4) => (bnd (oU gLen (.bl due_4)) fun t_5 => (oC gGt t_5 (.v (.int 0)))))) ((fun | (parts_3, due_4) => (bnd (oPopO due_4) (fun | (part_7, due_6) => (bnd (oApp parts_3 part_7) fun parts_8 => (bnd (mV (bnd ((T (n + 1)).d_arguments part_7) fun t_10 => (oU (gRevS none) t_10))) fun v_12 => (bnd (oLu v_12) fun es_11 => bnd (oExt due_6 es_11) fun due_9 => (pur (.nx (parts_8, due_9)))))))))) (fuel + 1) (ps.map Tm.fv, ([] : List Tm).map Tm.fv) : M (Fl (List FV × List FV) Empty)) = pur (.nx ((ps ++ prL []).map Tm.fv, [])) := fun fuel ps => by
    rw [show prL [] = [] from rfl, List.append_nil]
    exact while_stop (by
      dsimp only
      rw [List.map_nil, len_bl, bnd_pur, gt_ii, decide_eq_false (by simp)])
  induction k with
  | zero =>
    intro fuel ps ds hk hf hl
    obtain ⟨fuel, rfl⟩ : ∃ j, fuel = j + 1 := ⟨fuel - 1, by omega⟩
    have dl := nnL_len ds
    have : ds = [] := List.length_eq_zero_iff.mp (by omega)
    subst this
    exact stop fuel ps
  | succ k ih =>
    intro fuel ps ds hk hf hl
    obtain ⟨fuel, rfl⟩ : ∃ j, fuel = j + 1 := ⟨fuel - 1, by omega⟩
    by_cases e : ds = []
    · subst e
      exact stop fuel ps
    · obtain ⟨ds, u, rfl⟩ : ∃ m y, ds = m ++ [y] := ⟨_, _, (List.dropLast_concat_getLast e).symm⟩
      rw [nnL_app, nnL_one] at hk
      have a := nnL_args u
      have dl := nnL_len ds
      have al := nnL_len u.args
      have nx : (((fun | (parts_3, due_4) => (bnd (oPopO due_4) (fun | (part_7, due_6) => (bnd (oApp parts_3 part_7) fun parts_8 => (bnd (mV (bnd ((T (n + 1)).d_arguments part_7) fun t_10 => (oU (gRevS none) t_10))) fun v_12 => (bnd (oLu v_12) fun es_11 => bnd (oExt due_6 es_11) fun due_9 => (pur (.nx (parts_8, due_9)))))))))) : List FV × List FV → M (Fl (List FV × List FV) (List FV × List FV))) (ps.map Tm.fv, (ds ++ [u]).map Tm.fv) = pur (.nx ((ps ++ [u]).map Tm.fv, (ds ++ u.args.reverse).map Tm.fv)) := by
        dsimp only
        rw [List.map_append, List.map_cons, List.map_nil, pop_o, bnd_pur]
        dsimp only
        rw [app_lt (by rw [List.length_map]; omega), bnd_pur, args_ok, bnd_pur, rev_tup, mV_v, bnd_pur, oLu_t, bnd_pur, ext_le (by rw [List.length_reverse, List.length_map, List.length_map]; omega), bnd_pur, ← List.map_reverse, ← List.map_append]
        rw [show ps.map Tm.fv ++ [u.fv] = (ps ++ [u]).map Tm.fv by rw [List.map_append]; rfl]
      have st := while_step (fuel := fuel) (β := Empty) (t := ((fun | (parts_3, due_4) => (bnd (oU gLen (.bl due_4)) fun t_5 => (oC gGt t_5 (.v (.int 0))))))) (F := (((fun | (parts_3, due_4) => (bnd (oPopO due_4) (fun | (part_7, due_6) => (bnd (oApp parts_3 part_7) fun parts_8 => (bnd (mV (bnd ((T (n + 1)).d_arguments part_7) fun t_10 => (oU (gRevS none) t_10))) fun v_12 => (bnd (oLu v_12) fun es_11 => bnd (oExt due_6 es_11) fun due_9 => (pur (.nx (parts_8, due_9)))))))))) : List FV × List FV → M (Fl (List FV × List FV) (List FV × List FV)))) (a := (ps.map Tm.fv, (ds ++ [u]).map Tm.fv)) (by
        dsimp only
        rw [len_bl, bnd_pur, gt_ii, decide_eq_true (by rw [List.length_map, List.length_append, List.length_cons]; omega)]) nx
      refine st.trans ?_
      have r := ih fuel (ps ++ [u]) (ds ++ u.args.reverse) (by rw [nnL_app, nnL_rev]; omega) (by omega) (by rw [List.length_append, List.length_singleton]; omega)
      refine r.trans ?_
      rw [List.append_assoc, show [u] ++ prL (ds ++ u.args.reverse) = prL (ds ++ [u]) by rw [prL_snoc]; exact prL_args ds u]
theorem all_parts_ok (n : Nat) (t : Tm) (hn : t.nn ≤ 900000) : (T (n + 2)).d_all_parts t.fv = pur (.l (t.pre.map Tm.fv)) := by
  rw [T__all_parts, n_all_parts, lst_nil, mL_l, bnd_pur, lst_1, mL_l, bnd_pur]
  have key := all_loop' n 900000 FUEL [] [t] (by rw [nnL_one]; exact hn) (by decide) (by decide)
  rw [List.map_nil, List.map_cons, List.map_nil, List.nil_append] at key
  rw [key, seqN_nx]
  dsimp only
  rw [toF_rt, gcM_pur', show prL [t] = t.pre from by unfold prL; simp]
end Q87
namespace Q87
open PySem P
/-! terms, atoms, literals -/
inductive U
  | v (b : Bool) | c (b : Bool) | f (t : U)
  deriving DecidableEq
inductive Qs
  | q | p (t : U) | r (t u : U) | e (t u : U)
  deriving DecidableEq
abbrev Lt := Bool × Qs
def vn (b : Bool) : Str := if b = true then "y" else "x"
def cn (b : Bool) : Str := if b = true then "b" else "a"
def U.tm : U → Tm
  | .v b => .var (vn b)
  | .c b => .app (cn b) []
  | .f t => .app "f" [t.tm]
def U.d : U → Nat
  | .v _ => 0
  | .c _ => 1
  | .f t => t.d + 1
theorem U.dep : ∀ u : U, u.tm.dep = u.d
  | .v b => by simp [U.tm, U.d]
  | .c b => by simp [U.tm, U.d]
  | .f t => by simp [U.tm, U.d, U.dep t]
def topT : Tm := .app "" []
theorem top_fv : c_TOP = topT.fv := by simp [c_TOP, topT]
theorem depTop : topT.dep = 1 := by simp [topT]
def Qs.l : Qs → Tm
  | .q => .app "Q" []
  | .p t => .app "P" [t.tm]
  | .r t u => .app "R" [t.tm, u.tm]
  | .e t u => t.tm
def Qs.rr : Qs → Tm
  | .e t u => u.tm
  | _ => topT
def Qs.d : Qs → Nat
  | .q => 1
  | .p t => t.d + 1
  | .r t u => max t.d u.d + 1
  | .e t u => max t.d u.d
def tri (s : Bool) (l r : Tm) : FV := .tup [.bl s, l.fv, r.fv]
def litF (l : Lt) : FV := tri l.1 l.2.l l.2.rr
theorem ne_top {f : Str} (hf : ¬ f = "") (ts : List Tm) : ¬ Tm.app f ts = topT := fun z => by
  unfold topT at z
  injection z with z1 z2
  exact hf z1
theorem cn_ne (b : Bool) : ¬ cn b = "" := by cases b <;> decide +kernel
theorem fne : ¬ ("f" : Str) = "" := by decide +kernel
theorem Qne : ¬ ("Q" : Str) = "" := by decide +kernel
theorem Pne : ¬ ("P" : Str) = "" := by decide +kernel
theorem Rne : ¬ ("R" : Str) = "" := by decide +kernel
theorem U.ne : ∀ u : U, ¬ u.tm = topT
  | .v b => fun z => by simp [U.tm, topT] at z
  | .c b => ne_top (cn_ne b) _
  | .f t => ne_top fne _
theorem q_top {neg : Bool} (t : Tm) : oC (gQ neg) (.v t.fv) (.v c_TOP) = pur (if neg = true then !decide (t = topT) else decide (t = topT)) := by
  rw [top_fv]
  exact q_tt (by rw [depTop]; omega)
theorem slen (a b : Str) : (a ++ b).length = a.length + b.length := Str.length_append a b
theorem str3 : (("(" : Str).length = 1) ∧ ((")" : Str).length = 1) ∧ ((", " : Str).length = 2) := by decide +kernel
def a1 (f x : Str) : Str := f ++ "(" ++ x ++ ")"
def a2 (f x y : Str) : Str := f ++ "(" ++ (x ++ ", " ++ y) ++ ")"
theorem join1 (x : Str) (h : x.length ≤ 1000) {r : RV} {b : Bool} (hr : ∀ s, r.seq s = some (b, [.str x])) : oB gJoin (.v (.str ", ")) r = pur (.v (.str x)) := by
  have := join_s (a := ", ") (x := r) (ds := [.str x]) (ys := [x]) hr rfl (by rw [str3.2.2]; simp; omega)
  rw [this, TL.join_eq]; rfl
theorem join2 (x y : Str) (h : x.length ≤ 1000) (h2 : y.length ≤ 1000) {r : RV} {b : Bool} (hr : ∀ s, r.seq s = some (b, [.str x, .str y])) : oB gJoin (.v (.str ", ")) r = pur (.v (.str (x ++ ", " ++ y))) := by
  have := join_s (a := ", ") (x := r) (ds := [.str x, .str y]) (ys := [x, y]) hr rfl (by rw [str3.2.2]; simp; omega)
  rw [this, TL.join_eq]; rfl
theorem addP (f x : Str) (hf : f.length ≤ 10) (hx : x.length ≤ 3000) : oB gAdd (.v (.str f)) (.v (.str "(")) = pur (.v (.str (f ++ "("))) ∧ oB gAdd (.v (.str (f ++ "("))) (.v (.str x)) = pur (.v (.str (f ++ "(" ++ x))) ∧ oB gAdd (.v (.str (f ++ "(" ++ x))) (.v (.str ")")) = pur (.v (.str (f ++ "(" ++ x ++ ")"))) :=
  ⟨add_ss (by rw [str3.1]; omega), add_ss (by rw [slen, str3.1]; omega), add_ss (by rw [slen, slen, str3.1, str3.2.1]; omega)⟩
section
variable (n : Nat) (f : Str) (t u : Tm) (x y : Str)
theorem lt0 : (T (n + 1)).d_law_text (Tm.app f []).fv = pur (.v (.str f)) := by
  have hl : decide ((([FV.str f] : List FV).length : Int) = 1) = true := rfl
  rw [T__law_text, n_law_text, fv_app, fvs_nil]
  simp only [is_st, bnd_pur, oT_bl, Bool.false_eq_true, if_false, if_true, len_t, q_ii, hl, ix_t0, ret_pur, toF_rt, gcM_pur']
theorem lt1 (lf : f.length ≤ 10) (hx : x.length ≤ 1000) (h : (T n).d_law_text t.fv = pur (.v (.str x))) : (T (n + 1)).d_law_text (Tm.app f [t]).fv = pur (.v (.str (a1 f x))) := by
  have hl : decide ((([FV.str f, t.fv] : List FV).length : Int) = 1) = false := rfl
  obtain ⟨p1, p2, p3⟩ := addP f x lf (by omega)
  have hj := join1 x hx (r := .l [.str x]) (b := false) fun _ => rfl
  have fl : filL (item some (fun _ => pur true) fun a => (T n).d_law_text a) [t.fv] = pur (.l [.str x]) := filL_all (e := Tm.fv) (f := fun _ => .str x) (xs := [t]) (fun z hz => by
    simp at hz; subst hz
    rw [item_some (x := z.fv) rfl, bnd_pur, if_pos rfl, h, mV_v, bnd_pur]) (by show 1 ≤ _; omega)
  rw [T__law_text, n_law_text, fv_app, fvs_cons, fvs_nil]
  simp only [is_st, bnd_pur, oT_bl, Bool.false_eq_true, if_false, len_t, q_ii, hl, sl_t1, mV_v, oW_tup, ix_t0, p1, fl, hj, p2, p3, ret_pur, toF_rt, gcM_pur', bnd_bnd]; rfl
theorem lt2 (lf : f.length ≤ 10) (hx : x.length ≤ 1000) (hy : y.length ≤ 1000) (h : (T n).d_law_text t.fv = pur (.v (.str x))) (h2 : (T n).d_law_text u.fv = pur (.v (.str y))) : (T (n + 1)).d_law_text (Tm.app f [t, u]).fv = pur (.v (.str (a2 f x y))) := by
  have hl : decide ((([FV.str f, t.fv, u.fv] : List FV).length : Int) = 1) = false := rfl
  obtain ⟨p1, p2, p3⟩ := addP f (x ++ ", " ++ y) lf (by rw [slen, slen, str3.2.2]; omega)
  have hj := join2 x y hx hy (r := .l [.str x, .str y]) (b := false) fun _ => rfl
  have fl : filL (item some (fun _ => pur true) fun a => (T n).d_law_text a) [t.fv, u.fv] = pur (.l [.str x, .str y]) := filL_all (e := fun p : Tm × Str => p.1.fv) (f := fun p => .str p.2) (xs := [(t, x), (u, y)]) (fun z hz => by
    rw [item_some (x := z.1.fv) rfl, bnd_pur, if_pos rfl]
    simp at hz
    rcases hz with rfl | rfl
    · rw [h, mV_v, bnd_pur]
    · rw [h2, mV_v, bnd_pur]) (by show 2 ≤ _; omega)
  rw [T__law_text, n_law_text, fv_app, fvs_cons, fvs_cons, fvs_nil]
  simp only [is_st, bnd_pur, oT_bl, Bool.false_eq_true, if_false, len_t, q_ii, hl, sl_t1, mV_v, oW_tup, ix_t0, p1, fl, hj, p2, p3, ret_pur, toF_rt, gcM_pur', bnd_bnd]; rfl
theorem lv (x : Str) : (T (n + 1)).d_law_text (.str x) = pur (.v (.str x)) := by
  rw [T__law_text, n_law_text]
  simp only [is_ss, bnd_pur, oT_bl, if_true, ret_pur, toF_rt, gcM_pur']
end
def tx : U → Str
  | .v b => vn b
  | .c b => cn b
  | .f t => a1 "f" (tx t)
theorem len1 (x : Str) : (a1 "f" x).length = x.length + 3 := by
  unfold a1
  rw [slen, slen, slen, str3.1, str3.2.1, show ("f" : Str).length = 1 by decide +kernel]; omega
theorem vnl (b : Bool) : (vn b).length = 1 := by cases b <;> decide +kernel
theorem cnl (b : Bool) : (cn b).length = 1 := by cases b <;> decide +kernel
theorem tx_len : ∀ u : U, (tx u).length ≤ 3 * u.d + 1
  | .v b => by rw [tx, vnl]; omega
  | .c b => by rw [tx, cnl]; omega
  | .f t => by have := tx_len t; rw [tx, len1, U.d]; omega
theorem tm_sm : ∀ u : U, u.tm.sm
  | .v b => by rw [U.tm]; exact sm_var.mpr (by rw [vnl]; decide)
  | .c b => by rw [U.tm]; exact sm_app.mpr ⟨⟨by rw [cnl]; decide, by rw [cnl]; decide⟩, fun t h => by cases h⟩
  | .f t => by
    rw [U.tm]
    exact sm_app.mpr ⟨by decide +kernel, fun u h => by
      have : u = t.tm := by simpa using h
      rw [this]; exact tm_sm t⟩
theorem tm_nn : ∀ u : U, u.tm.nn ≤ 3 * u.d + 2
  | .v b => by rw [U.tm, nn_var]; omega
  | .c b => by rw [U.tm, nn_app, nns_nil]; omega
  | .f t => by
    have := tm_nn t
    rw [U.tm, nn_app, nns_cons, nns_nil, U.d]; omega
theorem a1_s (f x : Str) : sgs (a1 f x) = sgs f ++ (40 :: (sgs x ++ [41])) := by
  unfold a1
  rw [sgs_app, sgs_app, sgs_app, s_mks.1, s_mks.2.1]; simp
theorem a2_s (f x y : Str) : sgs (a2 f x y) = sgs f ++ (40 :: (sgs x ++ (44 :: 32 :: (sgs y ++ [41])))) := by
  unfold a2
  rw [sgs_app, sgs_app, sgs_app, sgs_app, sgs_app, s_mks.1, s_mks.2.1, s_mks.2.2.2.2.2.2.1]; simp
theorem tm_cs : ∀ u : U, u.tm.cs = sgs (tx u)
  | .v b => by rw [U.tm, cs_var, tx]
  | .c b => by rw [U.tm, cs_app, csA_nil, List.append_nil, tx]
  | .f t => by rw [U.tm, cs_app, csA_cons, csR_nil, tm_cs t, tx, a1_s]
theorem tt_ok {t : Tm} {x : Str} (h : t.sm) (hn : t.nn ≤ 100000) (e : t.cs = sgs x) (n : Nat) : (T (n + 1)).d_term_text t.fv = pur (.v (.str x)) := by
  rw [term_text_ok n t h hn, e, mk_sgs]
theorem u_text (u : U) (n : Nat) (hn : u.d + 1 ≤ n) (hd : u.d ≤ 20) : (T n).d_term_text u.tm.fv = pur (.v (.str (tx u))) ∧ (T n).d_law_text u.tm.fv = pur (.v (.str (tx u))) := by
  have nn := tm_nn u
  refine ⟨?_, ?_⟩
  · obtain ⟨n, rfl⟩ : ∃ k, n = k + 1 := ⟨n - 1, by omega⟩
    exact tt_ok (tm_sm u) (by omega) (tm_cs u) n
  · have go : ∀ (u : U) (n : Nat), u.d + 1 ≤ n → u.d ≤ 20 → (T n).d_law_text u.tm.fv = pur (.v (.str (tx u))) := fun u => by
      induction u with
      | v b =>
        intro n h _
        obtain ⟨n, rfl⟩ : ∃ k, n = k + 1 := ⟨n - 1, by omega⟩
        rw [U.tm, fv_var]; exact lv n _
      | c b =>
        intro n h _
        obtain ⟨n, rfl⟩ : ∃ k, n = k + 1 := ⟨n - 1, by omega⟩
        exact lt0 n _
      | f t ih =>
        intro n h hd
        obtain ⟨n, rfl⟩ : ∃ k, n = k + 1 := ⟨n - 1, by omega⟩
        rw [U.d] at h hd
        have := tx_len t
        exact lt1 n _ _ _ (by decide +kernel) (by omega) (ih n (by omega) (by omega))
    exact go u n hn hd
/-- the left side's text -/
def lx : Qs → Str
  | .q => "Q"
  | .p t => a1 "P" (tx t)
  | .r t u => a2 "R" (tx t) (tx u)
  | .e t u => tx t
theorem l_text (q : Qs) (n : Nat) (h : q.d + 1 ≤ n) (hd : q.d ≤ 20) : (T n).d_term_text q.l.fv = pur (.v (.str (lx q))) ∧ (T n).d_law_text q.l.fv = pur (.v (.str (lx q))) := by
  obtain ⟨n, rfl⟩ : ∃ k, n = k + 1 := ⟨n - 1, by omega⟩
  cases q with
  | q => exact ⟨tt_ok (sm_app.mpr ⟨by decide +kernel, fun t h => by cases h⟩) (by show (Tm.app "Q" []).nn ≤ 100000; rw [nn_app, nns_nil]; decide) (by show (Tm.app "Q" []).cs = sgs "Q"; rw [cs_app, csA_nil, List.append_nil]) n, lt0 n _⟩
  | p t =>
    rw [Qs.d] at h hd
    have nn := tm_nn t
    obtain ⟨h1, h2⟩ := u_text t n (by omega) (by omega)
    have := tx_len t
    refine ⟨tt_ok ?_ ?_ ?_ n, lt1 n _ _ _ (by decide +kernel) (by omega) h2⟩
    · exact sm_app.mpr ⟨by decide +kernel, fun u h => by
        have : u = t.tm := by simpa using h
        rw [this]; exact tm_sm t⟩
    · rw [Qs.l, nn_app, nns_cons, nns_nil]; omega
    · rw [Qs.l, cs_app, csA_cons, csR_nil, tm_cs t, lx, a1_s]
  | r t u =>
    rw [Qs.d] at h hd
    have nn := tm_nn t
    have nu := tm_nn u
    obtain ⟨h1, h2⟩ := u_text t n (by omega) (by omega)
    obtain ⟨h3, h4⟩ := u_text u n (by omega) (by omega)
    have := tx_len t
    have := tx_len u
    refine ⟨tt_ok ?_ ?_ ?_ n, lt2 n _ _ _ _ _ (by decide +kernel) (by omega) (by omega) h2 h4⟩
    · exact sm_app.mpr ⟨by decide +kernel, fun v h => by
        rcases List.mem_cons.mp h with rfl | h
        · exact tm_sm t
        · have : v = u.tm := by simpa using h
          rw [this]; exact tm_sm u⟩
    · rw [Qs.l, nn_app, nns_cons, nns_cons, nns_nil]; omega
    · rw [Qs.l, cs_app, csA_cons, csR_cons, csR_nil, tm_cs t, tm_cs u, lx, a2_s]
  | e t u => rw [Qs.d] at h hd; exact u_text t (n + 1) (by omega) (by omega)
end Q87
namespace Q87
open PySem P
theorem Qs.lne (q : Qs) : ¬ q.l = topT := by
  cases q with
  | q => exact ne_top Qne _
  | p t => exact ne_top Pne _
  | r t u => exact ne_top Rne _
  | e t u => exact t.ne
def ltx : Lt → Str
  | (s, .e t u) => if s = true then tx t ++ " = " ++ tx u else tx t ++ " != " ++ tx u
  | (s, q) => if s = true then lx q else "not " ++ lx q
def isE : Qs → Bool
  | .e _ _ => true
  | _ => false
theorem rr_top {q : Qs} (h : isE q = false) : q.rr = topT := by cases q <;> first | rfl | cases h
theorem ltx_at {s : Bool} {q : Qs} (h : isE q = false) : ltx (s, q) = if s = true then lx q else "not " ++ lx q := by cases q <;> first | rfl | cases h
theorem lx_len (q : Qs) (h : q.d ≤ 20) : (lx q).length ≤ 300 := by
  cases q with
  | q => show ("Q" : Str).length ≤ 300; decide +kernel
  | p t => rw [Qs.d] at h; have := tx_len t; show (a1 "P" (tx t)).length ≤ 300; unfold a1; rw [slen, slen, slen, str3.1, str3.2.1, show ("P" : Str).length = 1 by decide +kernel]; omega
  | r t u => rw [Qs.d] at h; have := tx_len t; have := tx_len u; show (a2 "R" (tx t) (tx u)).length ≤ 300; unfold a2; rw [slen, slen, slen, slen, slen, str3.1, str3.2.1, str3.2.2, show ("R" : Str).length = 1 by decide +kernel]; omega
  | e t u => rw [Qs.d] at h; have := tx_len t; show (tx t).length ≤ 300; omega
theorem seps : (" = " : Str).length = 3 ∧ (" != " : Str).length = 4 ∧ ("not " : Str).length = 4 := by decide +kernel
theorem ltx_len (l : Lt) (h : l.2.d ≤ 20) : (ltx l).length ≤ 1000 := by
  obtain ⟨s, q⟩ := l
  have h1 := lx_len q h
  cases hq : isE q with
  | false =>
    rw [ltx_at hq]
    split
    · omega
    · rw [slen, seps.2.2]; omega
  | true =>
    cases q with
    | e t u =>
      have : max t.d u.d ≤ 20 := h
      have := tx_len t
      have := tx_len u
      rw [ltx]
      split
      · rw [slen, slen, seps.1]; omega
      · rw [slen, slen, seps.2.1]; omega
    | _ => cases hq
theorem lit_text (l : Lt) (n : Nat) (h : l.2.d + 2 ≤ n) (hd : l.2.d ≤ 20) : (T n).d_literal_text (litF l) = pur (.v (.str (ltx l))) ∧ (T n).d_law_said (litF l) = pur (.v (.str (ltx l))) := by
  obtain ⟨n, rfl⟩ : ∃ k, n = k + 1 := ⟨n - 1, by omega⟩
  obtain ⟨s, q⟩ := l
  have h0 : q.d + 2 ≤ n + 1 := h
  obtain ⟨t1, t2⟩ := l_text q n (by omega) hd
  have ll := lx_len q hd
  have q2 := q_top (neg := true) q.l
  rw [decide_eq_false q.lne, if_pos rfl] at q2
  have an : oB gAdd (.v (.str "not ")) (.v (.str (lx q))) = pur (.v (.str ("not " ++ lx q))) := add_ss (by rw [seps.2.2]; omega)
  rw [T_literal_text, n_literal_text, T__law_said, n_law_said]
  unfold litF tri
  dsimp only
  cases hq : isE q with
  | false =>
    have q1 := q_top (neg := false) q.rr
    rw [decide_eq_true (rr_top hq), if_neg Bool.false_ne_true] at q1
    rw [ltx_at hq]
    simp only [bnd_pur, bindT_tup, bCons_cons, bNil_nil, q1, q2, Bool.not_false, mAnd_t, if_true, oT_bl]
    cases s with
    | true => exact ⟨by simp only [if_true, t1, ret_pur, toF_rt, gcM_pur'], by simp only [if_true, t2, ret_pur, up_rt, toF_rt, gcM_pur', up_bnd, bnd_pur]⟩
    | false => exact ⟨by simp only [if_false, Bool.false_eq_true, t1, bnd_pur, an, ret_pur, toF_rt, gcM_pur'], by simp only [if_false, Bool.false_eq_true, t2, bnd_pur, an, ret_pur, up_rt, toF_rt, gcM_pur', up_bnd]⟩
  | true =>
    cases q with
    | e t u =>
      have hm : max t.d u.d ≤ 20 := hd
      have hm2 : max t.d u.d + 2 ≤ n + 1 := h0
      obtain ⟨u1, u2⟩ := u_text u n (by omega) (by omega)
      have q1 := q_top (neg := false) u.tm
      rw [decide_eq_false u.ne, if_neg Bool.false_ne_true] at q1
      have b1 := tx_len t
      have b2 := tx_len u
      have e1 : oB gAdd (.v (.str (tx t))) (.v (.str " = ")) = pur (.v (.str (tx t ++ " = "))) := add_ss (by rw [seps.1]; omega)
      have e2 : oB gAdd (.v (.str (tx t))) (.v (.str " != ")) = pur (.v (.str (tx t ++ " != "))) := add_ss (by rw [seps.2.1]; omega)
      have e3 : oB gAdd (.v (.str (tx t ++ " = "))) (.v (.str (tx u))) = pur (.v (.str (tx t ++ " = " ++ tx u))) := add_ss (by rw [slen, seps.1]; omega)
      have e4 : oB gAdd (.v (.str (tx t ++ " != "))) (.v (.str (tx u))) = pur (.v (.str (tx t ++ " != " ++ tx u))) := add_ss (by rw [slen, seps.2.1]; omega)
      rw [show Qs.rr (.e t u) = u.tm from rfl, show Qs.l (.e t u) = t.tm from rfl] at *
      rw [show lx (.e t u) = tx t from rfl] at t1 t2
      rw [ltx]
      simp only [bnd_pur, bindT_tup, bCons_cons, bNil_nil, q1, mAnd_f, Bool.false_eq_true, if_false, oT_bl]
      cases s with
      | true => exact ⟨by simp only [if_true, mV_v, bnd_pur, t1, u1, e1, e3, ret_pur, toF_rt, gcM_pur'], by simp only [if_true, t2, u2, bnd_pur, e1, e3, ret_pur, toF_rt, gcM_pur']⟩
      | false => exact ⟨by simp only [if_false, Bool.false_eq_true, mV_v, bnd_pur, t1, u1, e2, e4, ret_pur, toF_rt, gcM_pur'], by simp only [if_false, Bool.false_eq_true, t2, u2, bnd_pur, e2, e4, ret_pur, toF_rt, gcM_pur']⟩
    | _ => cases hq
/-- the one form -/
def fm : Lt → Lt
  | (s, .e t u) => if (tx u).cps.toList < (tx t).cps.toList then (s, .e u t) else (s, .e t u)
  | l => l
theorem fm_at {s : Bool} {q : Qs} (h : isE q = false) : fm (s, q) = (s, q) := by cases q <;> first | rfl | cases h
theorem fm_d (l : Lt) : (fm l).2.d = l.2.d := by
  obtain ⟨s, q⟩ := l
  cases q with
  | e t u =>
    rw [fm]
    split
    · exact Nat.max_comm _ _
    · rfl
  | _ => rfl
theorem make_ok (s : Bool) (q : Qs) (n : Nat) (h : q.d + 2 ≤ n) (hd : q.d ≤ 20) : (T n).d_make_literal (.bl s) q.l.fv q.rr.fv = pur (.v (litF (fm (s, q)))) ∧ (T n).d_law_formed (litF (s, q)) = pur (.v (litF (fm (s, q)))) := by
  obtain ⟨n, rfl⟩ : ∃ k, n = k + 1 := ⟨n - 1, by omega⟩
  have q2 := q_top (neg := false) q.l
  rw [decide_eq_false q.lne, if_neg Bool.false_ne_true] at q2
  rw [T_make_literal, n_make_literal, T__law_formed, n_law_formed]
  unfold litF tri
  dsimp only
  cases hq : isE q with
  | false =>
    have q1 := q_top (neg := false) q.rr
    rw [decide_eq_true (rr_top hq), if_neg Bool.false_ne_true] at q1
    have q3 := q_top (neg := true) q.rr
    rw [decide_eq_true (rr_top hq), if_pos rfl] at q3
    rw [fm_at hq]
    exact ⟨by simp only [q1, bnd_pur, if_true, tup_3, ret_pur, toF_rt, gcM_pur'], by simp only [bnd_pur, bindT_tup, bCons_cons, bNil_nil, q3, Bool.not_true, mAnd_f, Bool.false_eq_true, if_false, tup_3, ret_pur, toF_rt, gcM_pur']⟩
  | true =>
    cases q with
    | e t u =>
      have hm : max t.d u.d ≤ 20 := hd
      have hm2 : max t.d u.d + 2 ≤ n + 1 := h
      obtain ⟨u1, u2⟩ := u_text u n (by omega) (by omega)
      obtain ⟨t1, t2⟩ := u_text t n (by omega) (by omega)
      have q1 := q_top (neg := false) u.tm
      rw [decide_eq_false u.ne, if_neg Bool.false_ne_true] at q1
      have q3 := q_top (neg := true) u.tm
      rw [decide_eq_false u.ne, if_pos rfl] at q3
      rw [show Qs.rr (.e t u) = u.tm from rfl, show Qs.l (.e t u) = t.tm from rfl] at *
      rw [fm]
      simp only [q1, q2, q3, bnd_pur, Bool.false_eq_true, if_false, u1, t1, u2, t2, lt_ss, mOr_pp, Bool.false_or, bindT_tup, bCons_cons, bNil_nil, Bool.not_false, mAnd_t]
      by_cases hl : (tx u).cps.toList < (tx t).cps.toList
      · simp only [decide_eq_true hl, if_true, if_pos hl, tup_3, ret_pur, toF_rt, gcM_pur']
        exact ⟨rfl, rfl⟩
      · simp only [decide_eq_false hl, Bool.false_eq_true, if_false, if_neg hl, tup_3, ret_pur, toF_rt, gcM_pur']
        exact ⟨rfl, rfl⟩
    | _ => cases hq
def op (l : Lt) : Lt := (!l.1, l.2)
theorem opp_ok (l : Lt) (n : Nat) (h : 1 ≤ n) : (T n).d_opposite (litF l) = pur (.v (litF (op l))) := by
  obtain ⟨n, rfl⟩ : ∃ k, n = k + 1 := ⟨n - 1, by omega⟩
  rw [T_opposite, n_opposite]
  unfold litF tri op
  simp only [bnd_pur, bindT_tup, bCons_cons, bNil_nil, oNotV_bl, mV_v, tup_3, ret_pur, toF_rt, gcM_pur']
/-! as data -/
theorem U.inj : ∀ t u : U, t.tm = u.tm → t = u
  | .v a, .v b, h => by
    simp only [U.tm, Tm.var.injEq] at h
    cases a <;> cases b <;> first | rfl | (exact absurd h (by decide +kernel))
  | .c a, .c b, h => by
    simp only [U.tm, Tm.app.injEq] at h
    cases a <;> cases b <;> first | rfl | (exact absurd h.1 (by decide +kernel))
  | .f t, .f u, h => by
    simp only [U.tm, Tm.app.injEq, List.cons.injEq] at h
    rw [U.inj t u h.2.1]
  | .v _, .c _, h => by simp [U.tm] at h
  | .v _, .f _, h => by simp [U.tm] at h
  | .c _, .v _, h => by simp [U.tm] at h
  | .c _, .f _, h => by simp [U.tm] at h
  | .f _, .v _, h => by simp [U.tm] at h
  | .f _, .c _, h => by simp [U.tm] at h
theorem Qs.inj : ∀ p q : Qs, p.l = q.l → p.rr = q.rr → p = q
  | .e t u, .e t' u', h, h2 => by rw [U.inj t t' h, U.inj u u' h2]
  | .e t u, .q, h, h2 => absurd h2 u.ne
  | .e t u, .p _, h, h2 => absurd h2 u.ne
  | .e t u, .r _ _, h, h2 => absurd h2 u.ne
  | .q, .e t u, h, h2 => absurd h2.symm u.ne
  | .p _, .e t u, h, h2 => absurd h2.symm u.ne
  | .r _ _, .e t u, h, h2 => absurd h2.symm u.ne
  | .q, .q, h, h2 => rfl
  | .p t, .p u, h, h2 => by
    simp only [Qs.l, Tm.app.injEq, List.cons.injEq] at h
    rw [U.inj t u h.2.1]
  | .r t u, .r t' u', h, h2 => by
    simp only [Qs.l, Tm.app.injEq, List.cons.injEq] at h
    rw [U.inj t t' h.2.1, U.inj u u' h.2.2.1]
  | .p _, .q, h, h2 => by simp [Qs.l] at h
  | .q, .p _, h, h2 => by simp [Qs.l] at h
  | .q, .r _ _, h, h2 => by simp [Qs.l] at h
  | .r _ _, .q, h, h2 => by simp [Qs.l] at h
  | .p _, .r _ _, h, h2 => by simp [Qs.l] at h
  | .r _ _, .p _, h, h2 => by simp [Qs.l] at h
theorem Qs.dl (q : Qs) : q.l.dep ≤ q.d ∧ q.rr.dep ≤ q.d + 1 := by
  cases q with
  | q => simp [Qs.l, Qs.rr, Qs.d, depTop]
  | p t => simp [Qs.l, Qs.rr, Qs.d, depTop, U.dep]
  | r t u => simp [Qs.l, Qs.rr, Qs.d, depTop, U.dep]
  | e t u => simp only [Qs.l, Qs.rr, Qs.d, U.dep]; omega
theorem encL : Enc litF (fun l : Lt => l.2.d ≤ 50) where
  pu l := by unfold litF tri; simp [FV.pure, FV.pures, fv_pure]
  dp l h := by
    have := l.2.dl
    unfold litF tri
    simp only [FV.py, FV.pys, PyData.depth, PyData.depthAll, fv_depth]; omega
  eq a b := by
    unfold litF tri
    simp only [FV.py, FV.pys, PyData.eqv, PyData.eqvAll, fv_eqv, Tm.beq_dec, Bool.and_true]
    have : decide (a = b) = (decide (a.1 = b.1) && (decide (a.2.l = b.2.l) && decide (a.2.rr = b.2.rr))) := by
      rw [← Bool.decide_and, ← Bool.decide_and]
      exact decide_eq_decide.mpr ⟨fun h => by subst h; exact ⟨rfl, rfl, rfl⟩, fun ⟨h1, h2, h3⟩ => Prod.ext h1 (Qs.inj _ _ h2 h3)⟩
    rw [this]
    rfl
end Q87
namespace Q87
open PySem P
/-! texts tell literals apart -/
theorem cat (a b : Str) : (a ++ b).cps.toList = a.cps.toList ++ b.cps.toList := by
  show (a.cps ++ b.cps).toList = _
  rw [Array.toList_append]
def tl : U → List Nat
  | .v b => if b = true then [121] else [120]
  | .c b => if b = true then [98] else [97]
  | .f t => 102 :: 40 :: (tl t ++ [41])
theorem cs1 : ("x" : Str).cps.toList = [120] ∧ ("y" : Str).cps.toList = [121] ∧ ("a" : Str).cps.toList = [97] ∧ ("b" : Str).cps.toList = [98] ∧ ("f" : Str).cps.toList = [102] ∧ ("(" : Str).cps.toList = [40] ∧ (")" : Str).cps.toList = [41] := by decide +kernel
theorem cs2 : ("P" : Str).cps.toList = [80] ∧ ("Q" : Str).cps.toList = [81] ∧ ("R" : Str).cps.toList = [82] ∧ (", " : Str).cps.toList = [44, 32] ∧ (" = " : Str).cps.toList = [32, 61, 32] ∧ (" != " : Str).cps.toList = [32, 33, 61, 32] ∧ ("not " : Str).cps.toList = [110, 111, 116, 32] := by decide +kernel
theorem tx_cs : ∀ u : U, (tx u).cps.toList = tl u
  | .v b => by cases b <;> simp only [tx, vn, tl, Bool.false_eq_true, if_true, if_false, cs1.1, cs1.2.1]
  | .c b => by cases b <;> simp only [tx, cn, tl, Bool.false_eq_true, if_true, if_false, cs1.2.2.1, cs1.2.2.2.1]
  | .f t => by
    rw [tx, a1, cat, cat, cat, tx_cs t, cs1.2.2.2.2.1, cs1.2.2.2.2.2.1, cs1.2.2.2.2.2.2, tl]; rfl
/-- how a term's text begins -/
theorem tl_head : ∀ u : U, ∃ a r, tl u = a :: r ∧ (a = 120 ∨ a = 121 ∨ a = 97 ∨ a = 98 ∨ a = 102)
  | .v b => by cases b <;> exact ⟨_, _, rfl, by simp⟩
  | .c b => by cases b <;> exact ⟨_, _, rfl, by simp⟩
  | .f t => ⟨_, _, rfl, by simp⟩
theorem tl_no : ∀ u : U, 32 ∉ tl u ∧ 44 ∉ tl u
  | .v b => by cases b <;> decide
  | .c b => by cases b <;> decide
  | .f t => by
    obtain ⟨h1, h2⟩ := tl_no t
    rw [tl]
    simp [h1, h2]
theorem tl_inj : ∀ t u : U, tl t = tl u → t = u
  | .v a, .v b, h => by cases a <;> cases b <;> first | rfl | (exact absurd h (by decide))
  | .v a, .c b, h => by cases a <;> cases b <;> exact absurd h (by decide)
  | .c a, .v b, h => by cases a <;> cases b <;> exact absurd h (by decide)
  | .c a, .c b, h => by cases a <;> cases b <;> first | rfl | (exact absurd h (by decide))
  | .v a, .f t, h => by cases a <;> simp [tl] at h
  | .c a, .f t, h => by cases a <;> simp [tl] at h
  | .f t, .v a, h => by cases a <;> simp [tl] at h
  | .f t, .c a, h => by cases a <;> simp [tl] at h
  | .f t, .f u, h => by
    rw [tl, tl] at h
    simp only [List.cons.injEq, true_and] at h
    rw [tl_inj t u (List.append_cancel_right h)]
/-- parted at a sign that neither has -/
theorem part {c : Nat} : ∀ {a b a' b' : List Nat}, c ∉ a → c ∉ b → a ++ c :: a' = b ++ c :: b' → a = b ∧ a' = b'
  | [], [], a', b', _, _, h => by simp at h; exact ⟨rfl, h⟩
  | [], y :: b, a', b', _, hb, h => by
    simp at h
    exact absurd (by rw [h.1]; exact List.mem_cons_self) hb
  | x :: a, [], a', b', ha, _, h => by
    simp at h
    exact absurd (by rw [← h.1]; exact List.mem_cons_self) ha
  | x :: a, y :: b, a', b', ha, hb, h => by
    simp only [List.cons_append, List.cons.injEq] at h
    obtain ⟨h1, h2⟩ := part (fun z => ha (List.mem_cons_of_mem _ z)) (fun z => hb (List.mem_cons_of_mem _ z)) h.2
    exact ⟨by rw [h.1, h1], h2⟩
/-- the left side's codes -/
def ll : Qs → List Nat
  | .q => [81]
  | .p t => 80 :: 40 :: (tl t ++ [41])
  | .r t u => 82 :: 40 :: (tl t ++ 44 :: 32 :: (tl u ++ [41]))
  | .e t u => tl t
theorem lx_cs (q : Qs) : (lx q).cps.toList = ll q := by
  cases q with
  | q => exact cs2.2.1
  | p t => rw [lx, a1, cat, cat, cat, tx_cs, cs2.1, cs1.2.2.2.2.2.1, cs1.2.2.2.2.2.2]; rfl
  | r t u => rw [lx, a2, cat, cat, cat, cat, cat, tx_cs, tx_cs, cs2.2.2.1, cs2.2.2.2.1, cs1.2.2.2.2.2.1, cs1.2.2.2.2.2.2, ll]; simp
  | e t u => exact tx_cs t
/-- a literal's codes -/
def lc : Lt → List Nat
  | (true, .e t u) => tl t ++ 32 :: 61 :: 32 :: tl u
  | (false, .e t u) => tl t ++ 32 :: 33 :: 61 :: 32 :: tl u
  | (true, q) => ll q
  | (false, q) => 110 :: 111 :: 116 :: 32 :: ll q
theorem ltx_cs (l : Lt) : (ltx l).cps.toList = lc l := by
  obtain ⟨s, q⟩ := l
  cases q with
  | e t u =>
    rw [ltx]
    cases s with
    | true => rw [if_pos rfl, cat, cat, tx_cs, tx_cs, cs2.2.2.2.2.1, lc]; simp
    | false => rw [if_neg Bool.false_ne_true, cat, cat, tx_cs, tx_cs, cs2.2.2.2.2.2.1, lc]; simp
  | _ =>
    rw [ltx_at rfl]
    cases s with
    | true => rw [if_pos rfl, lx_cs]; rfl
    | false => rw [if_neg Bool.false_ne_true, cat, lx_cs, cs2.2.2.2.2.2.2]; rfl
theorem ll_inj : ∀ p q : Qs, isE p = false → isE q = false → ll p = ll q → p = q
  | .q, .q, _, _, _ => rfl
  | .p t, .p u, _, _, h => by
    simp only [ll, List.cons.injEq, true_and] at h
    rw [tl_inj t u (List.append_cancel_right h)]
  | .r t u, .r t' u', _, _, h => by
    simp only [ll, List.cons.injEq, true_and] at h
    obtain ⟨h1, h2⟩ := part (tl_no t).2 (tl_no t').2 h
    simp only [List.cons.injEq, true_and] at h2
    rw [tl_inj t t' h1, tl_inj u u' (List.append_cancel_right h2)]
  | .q, .p _, _, _, h => by simp [ll] at h
  | .q, .r _ _, _, _, h => by simp [ll] at h
  | .p _, .q, _, _, h => by simp [ll] at h
  | .p _, .r _ _, _, _, h => by simp [ll] at h
  | .r _ _, .q, _, _, h => by simp [ll] at h
  | .r _ _, .p _, _, _, h => by simp [ll] at h
theorem ll_head (q : Qs) (h : isE q = false) : ∃ a r, ll q = a :: r ∧ (a = 80 ∨ a = 81 ∨ a = 82) := by
  cases q with
  | e t u => cases h
  | _ => exact ⟨_, _, rfl, by simp⟩
theorem lc_at (s : Bool) {q : Qs} (h : isE q = false) : lc (s, q) = if s = true then ll q else 110 :: 111 :: 116 :: 32 :: ll q := by
  cases q with
  | e t u => cases h
  | _ => cases s <;> rfl
theorem lc_inj (a b : Lt) (h : lc a = lc b) : a = b := by
  obtain ⟨s, p⟩ := a
  obtain ⟨s', q⟩ := b
  have mix : ∀ (s s' : Bool) (t u : U) (q : Qs), isE q = false → lc (s, .e t u) = lc (s', q) → False := fun s s' t u q hq h => by
    obtain ⟨x, r, e, hx⟩ := tl_head t
    obtain ⟨y, r', e', hy⟩ := ll_head q hq
    rw [lc_at s' hq] at h
    have h1 : ∃ r2, lc (s, .e t u) = x :: r2 := by cases s <;> exact ⟨_, by rw [lc, e]; rfl⟩
    obtain ⟨r2, h1⟩ := h1
    rw [h1, e'] at h
    cases s' with
    | true => rw [if_pos rfl] at h; have := (List.cons.injEq ..).mp h; omega
    | false => rw [if_neg Bool.false_ne_true] at h; have := (List.cons.injEq ..).mp h; omega
  cases hp : isE p with
  | false =>
    cases hq : isE q with
    | false =>
      rw [lc_at s hp, lc_at s' hq] at h
      obtain ⟨x, r, e, hx⟩ := ll_head p hp
      obtain ⟨y, r', e', hy⟩ := ll_head q hq
      cases s <;> cases s'
      · simp only [Bool.false_eq_true, if_false, List.cons.injEq, true_and] at h
        rw [ll_inj p q hp hq h]
      · simp only [Bool.false_eq_true, if_false, if_true, e', List.cons.injEq] at h; omega
      · simp only [Bool.false_eq_true, if_false, if_true, e, List.cons.injEq] at h; omega
      · simp only [if_true] at h
        rw [ll_inj p q hp hq h]
    | true =>
      cases q with
      | e t u => exact (mix s' s t u p hp h.symm).elim
      | _ => cases hq
  | true =>
    cases p with
    | e t u =>
      cases hq : isE q with
      | false => exact (mix s s' t u q hq h).elim
      | true =>
        cases q with
        | e t' u' =>
          cases s <;> cases s' <;> (rw [lc, lc] at h; obtain ⟨h1, h2⟩ := part (tl_no t).1 (tl_no t').1 h)
          · simp only [List.cons.injEq, true_and] at h2
            rw [tl_inj t t' h1, tl_inj u u' h2]
          · simp at h2
          · simp at h2
          · simp only [List.cons.injEq, true_and] at h2
            rw [tl_inj t t' h1, tl_inj u u' h2]
        | _ => cases hq
    | _ => cases hp
theorem ltx_inj (a b : Lt) (h : ltx a = ltx b) : a = b := lc_inj a b (by rw [← ltx_cs, ← ltx_cs, h])
end Q87
namespace Q87
open PySem P
/-- the loop that keeps each once -/
theorem dd_walk {α : Type} [DecidableEq α] {e : α → FV} {A : α → Prop} (E : Enc e A) (na : ∀ a z, e a ≠ .str z ∨ True) {β : Type} {F : List FV → FV → M (Fl (List FV) (List FV))}
    (hF : ∀ (acc : List α) a, A a → acc.length < 16000000 → F (acc.map e) (e a) = pur (.nx ((addD acc a).map e))) :
    ∀ (xs acc : List α), (∀ a, a ∈ xs → A a) → acc.length + xs.length < 16000000 → (forN F (xs.map e) (acc.map e) : M (Fl (List FV) β)) = pur (.nx ((xs.foldl addD acc).map e))
  | [], acc, _, _ => rfl
  | x :: xs, acc, h, hl => by
    rw [List.length_cons] at hl
    have l2 : (addD acc x).length ≤ acc.length + 1 := by
      unfold addD
      split
      · omega
      · rw [List.length_append]; exact Nat.le_refl _
    rw [List.map_cons, forN_cons, hF acc x (h x List.mem_cons_self) (by omega), bnd_pur]
    exact dd_walk E na hF xs (addD acc x) (fun a ha => h a (List.mem_cons_of_mem _ ha)) (by omega)
theorem add_turn {α : Type} [DecidableEq α] {e : α → FV} (acc : List α) (a : α) (hl : acc.length < 16000000) :
    (bnd (pur (!memD a acc)) fun c => if c = true then (bnd (oApp (acc.map e) (e a)) fun r => (pur (.nx r) : M (Fl (List FV) (List FV)))) else pur (.nx (acc.map e))) = pur (.nx ((addD acc a).map e)) := by
  have l : (acc.map e).length < 16000000 := by rw [List.length_map]; exact hl
  rw [bnd_pur]
  unfold addD memD
  by_cases h : a ∈ acc
  · rw [decide_eq_true h, if_pos h]; rfl
  · rw [decide_eq_false h, if_neg h, Bool.not_false, if_pos rfl, app_lt l, bnd_pur, List.map_append]; rfl
theorem litR (l : Lt) (z : Nat) : litF l ≠ .ref z := fun h => by unfold litF tri at h; cases h
def Small (m : Nat) (xs : List Lt) : Prop := ∀ l, l ∈ xs → l.2.d ≤ m
def MC (xs : List Lt) : List Lt := dd (srt ltx xs)
def LC (xs : List Lt) : List Lt := srt ltx (dd (xs.map fm))
theorem mc_lc {xs ys : List Lt} (h : ∀ a, a ∈ xs ↔ a ∈ ys.map fm) : MC xs = LC ys := srt_dd ltx h fun a b _ _ e => ltx_inj a b e
theorem mem_LC {xs : List Lt} {a : Lt} : a ∈ LC xs ↔ a ∈ xs.map fm := by unfold LC; rw [mem_srt, mem_dd]
theorem make_clause (n : Nat) (xs : List Lt) (v : FV) {b : Bool} (hv : ∀ h, (RV.v v).seq h = some (b, xs.map litF)) (hn : 30 ≤ n) (hs : Small 20 xs) (hl : xs.length ≤ 1000) : (T n).d_make_clause v = pur (.v (.tup ((MC xs).map litF))) := by
  obtain ⟨n, rfl⟩ : ∃ k, n = k + 1 := ⟨n - 1, by omega⟩
  have so := sortK_ok (g := (T n).d_literal_text) (e := litF) (k := ltx) (xs := xs) hv fun a ha => (lit_text a n (by have := hs a ha; omega) (hs a ha)).1
  rw [T_make_clause, n_make_clause]
  have lp := dd_walk encL (fun _ _ => .inr trivial) (β := Empty) (F := fun clause_4 literal_3 => (bnd (oC (gMx true) (.v literal_3) (.bl clause_4)) fun c_5 => if c_5 = true then (bnd (oApp clause_4 literal_3) fun clause_6 => (pur (.nx clause_6))) else (pur (.nx clause_4)))) (fun acc a ha hl => by
    have := encL.mx (neg := true) (a := a) (xs := acc) (y := .bl (acc.map litF)) (b := false) ha (litR a) fun _ => rfl
    rw [if_pos rfl] at this
    rw [this]
    exact add_turn acc a hl) (srt ltx xs) [] (fun a ha => by have := hs a ((mem_srt ltx).mp ha); omega) (by rw [len_srt]; show 0 + _ < _; omega)
  rw [lst_nil, mL_l, bnd_pur, so, mV_l, bnd_pur, oW_fl, bnd_pur]
  rw [List.map_nil] at lp
  rw [lp]
  simp only [seqN_nx, tup_bl, ret_pur, toF_rt, gcM_pur']
  rfl
theorem law_clause (n : Nat) (xs : List Lt) (hn : 30 ≤ n) (hs : Small 20 xs) (hl : xs.length ≤ 1000) : (T n).d_law_clause (.fl (xs.map litF)) = pur (.v (.tup ((LC xs).map litF))) := by
  obtain ⟨n, rfl⟩ : ∃ k, n = k + 1 := ⟨n - 1, by omega⟩
  have dsm : ∀ a, a ∈ dd (xs.map fm) → a.2.d ≤ 20 := fun a ha => by
    obtain ⟨l, hl, rfl⟩ := List.mem_map.mp (mem_dd.mp ha)
    rw [fm_d]; exact hs l hl
  have so := sortK_ok (g := (T n).d_law_said) (e := litF) (k := ltx) (xs := dd (xs.map fm)) (x := .bl ((dd (xs.map fm)).map litF)) (b := false) (fun _ => rfl) fun a ha => (lit_text a n (by have := dsm a ha; omega) (dsm a ha)).2
  rw [T__law_clause, n_law_clause]
  -- the loop takes the literals' forms
  have lp : ∀ (ys acc : List Lt), Small 20 ys → acc.length + ys.length < 16000000 → (forN (fun law_row_3 law_literal_here_2 => (bnd (mV ((T n).d_law_formed law_literal_here_2)) fun law_formed_here_4 => (bnd (oC (gMx true) (.v law_formed_here_4) (.bl law_row_3)) fun c_5 => if c_5 = true then (bnd (oApp law_row_3 law_formed_here_4) fun law_row_6 => (pur (.nx law_row_6))) else (pur (.nx law_row_3))))) (ys.map litF) (acc.map litF) : M (Fl (List FV) Empty)) = pur (.nx (((ys.map fm).foldl addD acc).map litF)) := fun ys => by
    induction ys with
    | nil => intro acc _ _; rfl
    | cons y ys ih =>
      intro acc h hl
      have hy : y.2.d ≤ 20 := h y List.mem_cons_self
      rw [List.length_cons] at hl
      have l2 : (addD acc (fm y)).length ≤ acc.length + 1 := by
        unfold addD
        split
        · omega
        · rw [List.length_append]; exact Nat.le_refl _
      have mk := (make_ok y.1 y.2 n (by omega) hy).2
      have := encL.mx (neg := true) (a := fm y) (xs := acc) (y := .bl (acc.map litF)) (b := false) (show (fm y).2.d ≤ 50 by rw [fm_d]; omega) (litR _) fun _ => rfl
      rw [if_pos rfl] at this
      rw [List.map_cons, forN_cons, show litF y = litF (y.1, y.2) from rfl, mk, mV_v, bnd_pur, this, add_turn acc (fm y) (by omega), bnd_pur]
      exact ih (addD acc (fm y)) (fun a ha => h a (List.mem_cons_of_mem _ ha)) (by omega)
  have lp2 := lp xs [] hs (by show 0 + _ < _; omega)
  rw [List.map_nil] at lp2
  rw [lst_nil, mL_l, bnd_pur, oW_fl, bnd_pur, lp2]
  rw [show (xs.map fm).foldl addD [] = dd (xs.map fm) from rfl]
  simp only [seqN_nx, so, bnd_pur, tup_l, ret_pur, toF_rt, gcM_pur']
  rfl
theorem sl_t01 (x : FV) (xs : List FV) : oSl (.v (.tup (x :: xs))) none (some 1) = pur (.v (.tup [x])) := by
  have : cutF (x :: xs) none (some 1) = [x] := by
    unfold cutF
    rw [show (some (1 : Int)) = some ((1 : Nat) : Int) from rfl, HT.sIx_nat, HT.sIx_none]
    have : min 1 (x :: xs).length = 1 := by rw [List.length_cons]; omega
    rw [this]
    simp
  rw [sl_t, this]
/-! filling -/
def fl (σ : Bool → Option U) : U → U
  | .v b => (σ b).getD (.v b)
  | .c b => .c b
  | .f t => .f (fl σ t)
def flQ (σ : Bool → Option U) : Qs → Qs
  | .q => .q
  | .p t => .p (fl σ t)
  | .r t u => .r (fl σ t) (fl σ u)
  | .e t u => .e (fl σ t) (fl σ u)
/-- a dict for a filling -/
def IsD (D : FV) (σ : Bool → Option U) : Prop := ∃ ks vs, D = .fd ks vs ∧ ∀ b, lookK (ks.zip vs) (keyS (vn b)) = (σ b).map fun u => u.tm.fv
section
variable {D : FV} {σ : Bool → Option U}
theorem fill_app (n : Nat) (f : Str) (ps : List (Tm × Tm)) (hl : ps.length ≤ 10) (h1 : ∀ p, p ∈ ps → (T n).d_fill_term p.1.fv D = pur (.v p.2.fv)) (h2 : ∀ p, p ∈ ps → (T n).d_law_filled p.1.fv D = pur (.v p.2.fv)) :
    (T (n + 1)).d_fill_term (Tm.app f (ps.map (·.1))).fv D = pur (.v (Tm.app f (ps.map (·.2))).fv) ∧ (T (n + 1)).d_law_filled (Tm.app f (ps.map (·.1))).fv D = pur (.v (Tm.app f (ps.map (·.2))).fv) := by
  have f1 : filL (item some (fun _ => pur true) fun a => (T n).d_fill_term a D) (Tm.fvs (ps.map (·.1))) = pur (.l (Tm.fvs (ps.map (·.2)))) := by
    rw [fvs_map, fvs_map, List.map_map, List.map_map]
    exact filL_all (e := fun p : Tm × Tm => p.1.fv) (f := fun p => p.2.fv) (xs := ps) (fun p hp => by
      rw [item_some (x := p.1.fv) rfl, bnd_pur, if_pos rfl]
      rw [h1 p hp, mV_v, bnd_pur]) (by omega)
  have f2 : filL (item some (fun _ => pur true) fun a => (T n).d_law_filled a D) (Tm.fvs (ps.map (·.1))) = pur (.l (Tm.fvs (ps.map (·.2)))) := by
    rw [fvs_map, fvs_map, List.map_map, List.map_map]
    exact filL_all (e := fun p : Tm × Tm => p.1.fv) (f := fun p => p.2.fv) (xs := ps) (fun p hp => by
      rw [item_some (x := p.1.fv) rfl, bnd_pur, if_pos rfl]
      rw [h2 p hp, mV_v, bnd_pur]) (by omega)
  have a2 : oB gAdd (.l [.str f]) (.l (Tm.fvs (ps.map (·.2)))) = pur (.l ([.str f] ++ Tm.fvs (ps.map (·.2)))) := add_l_l (by rw [fvs_len, List.length_map]; show 1 + _ ≤ _; omega)
  have a1 : oB gAdd (.v (.tup [.str f])) (.v (.tup (Tm.fvs (ps.map (·.2))))) = pur (.v (.tup ([.str f] ++ Tm.fvs (ps.map (·.2))))) := add_tt (by rw [fvs_len, List.length_map]; show 1 + _ ≤ _; omega)
  rw [T_fill_term, n_fill_term, T__law_filled, n_law_filled, fv_app, fv_app]
  constructor
  · simp only [is_st, bnd_pur, oT_bl, Bool.false_eq_true, if_false, sl_t01, sl_t1, mV_v, oW_tup, bnd_bnd, f1, tup_l, a1, ret_pur, toF_rt, gcM_pur']; rfl
  · simp only [is_st, bnd_pur, oT_bl, Bool.false_eq_true, if_false, ix_t0, sl_t1, mV_v, oW_tup, bnd_bnd, lst_1, f2, a2, tup_l, ret_pur, toF_rt, gcM_pur']; rfl
theorem u_fill (hD : IsD D σ) : ∀ (u : U) (n : Nat), u.d + 1 ≤ n → (T n).d_fill_term u.tm.fv D = pur (.v (fl σ u).tm.fv) ∧ (T n).d_law_filled u.tm.fv D = pur (.v (fl σ u).tm.fv)
  | .v b, n, h => by
    obtain ⟨n, rfl⟩ : ∃ k, n = k + 1 := ⟨n - 1, by omega⟩
    obtain ⟨ks, vs, rfl, hk⟩ := hD
    have e := get_fd (ks := ks) (vs := vs) (k := .str (vn b)) (d := .str (vn b)) (kk := keyS (vn b)) rfl
    rw [hk b] at e
    rw [T_fill_term, n_fill_term, T__law_filled, n_law_filled, U.tm, fv_var, fl]
    simp only [is_ss, bnd_pur, oT_bl, if_true, oDk_fd, e, ret_pur, toF_rt, gcM_pur']
    cases σ b with
    | none => exact ⟨by simp [U.tm], by simp [U.tm]⟩
    | some u => exact ⟨by simp, by simp⟩
  | .c b, n, h => by
    obtain ⟨n, rfl⟩ : ∃ k, n = k + 1 := ⟨n - 1, by omega⟩
    exact fill_app n (cn b) [] (Nat.zero_le _) (fun p hp => nomatch hp) fun p hp => nomatch hp
  | .f t, n, h => by
    obtain ⟨n, rfl⟩ : ∃ k, n = k + 1 := ⟨n - 1, by omega⟩
    rw [U.d] at h
    obtain ⟨h1, h2⟩ := u_fill hD t n (by omega)
    exact fill_app n "f" [(t.tm, (fl σ t).tm)] (by show 1 ≤ 10; omega) (fun p hp => by simp at hp; subst hp; exact h1) fun p hp => by simp at hp; subst hp; exact h2
theorem q_fill (hD : IsD D σ) (q : Qs) (n : Nat) (h : q.d + 2 ≤ n) : ((T n).d_fill_term q.l.fv D = pur (.v (flQ σ q).l.fv) ∧ (T n).d_law_filled q.l.fv D = pur (.v (flQ σ q).l.fv)) ∧ (T n).d_fill_term q.rr.fv D = pur (.v (flQ σ q).rr.fv) ∧ (T n).d_law_filled q.rr.fv D = pur (.v (flQ σ q).rr.fv) := by
  obtain ⟨n, rfl⟩ : ∃ k, n = k + 1 := ⟨n - 1, by omega⟩
  have top := fill_app (D := D) n "" [] (Nat.zero_le _) (fun p hp => nomatch hp) fun p hp => nomatch hp
  cases q with
  | q => exact ⟨fill_app n "Q" [] (Nat.zero_le _) (fun p hp => nomatch hp) fun p hp => (nomatch hp), top⟩
  | p t =>
    rw [Qs.d] at h
    obtain ⟨h1, h2⟩ := u_fill hD t n (by omega)
    exact ⟨fill_app n "P" [(t.tm, (fl σ t).tm)] (by show 1 ≤ 10; omega) (fun p hp => by simp at hp; subst hp; exact h1) fun p hp => by simp at hp; subst hp; exact h2, top⟩
  | r t u =>
    rw [Qs.d] at h
    obtain ⟨h1, h2⟩ := u_fill hD t n (by omega)
    obtain ⟨h3, h4⟩ := u_fill hD u n (by omega)
    exact ⟨fill_app n "R" [(t.tm, (fl σ t).tm), (u.tm, (fl σ u).tm)] (by show 2 ≤ 10; omega) (fun p hp => by
      simp at hp
      rcases hp with rfl | rfl
      · exact h1
      · exact h3) fun p hp => by
      simp at hp
      rcases hp with rfl | rfl
      · exact h2
      · exact h4, top⟩
  | e t u =>
    rw [Qs.d] at h
    exact ⟨u_fill hD t (n + 1) (by omega), u_fill hD u (n + 1) (by omega)⟩
end
theorem fl_d {σ : Bool → Option U} {m : Nat} (h : ∀ b u, σ b = some u → u.d ≤ m) : ∀ u : U, (fl σ u).d ≤ u.d + m
  | .v b => by
    rw [fl]
    cases q : σ b with
    | none => simp [U.d]
    | some u => have := h b u q; simp; omega
  | .c b => by rw [fl]; omega
  | .f t => by have := fl_d h t; rw [fl, U.d, U.d]; omega
theorem flQ_d {σ : Bool → Option U} {m : Nat} (h : ∀ b u, σ b = some u → u.d ≤ m) (q : Qs) : (flQ σ q).d ≤ q.d + m := by
  cases q with
  | q => rw [flQ]; omega
  | p t => have := fl_d h t; rw [flQ, Qs.d, Qs.d]; omega
  | r t u => have := fl_d h t; have := fl_d h u; rw [flQ, Qs.d, Qs.d]; omega
  | e t u => have := fl_d h t; have := fl_d h u; rw [flQ, Qs.d, Qs.d]; omega
end Q87
namespace Q87
open PySem P
/-! names -/
def isL (r : RV) (xs : List FV) : Prop := r = .l xs ∨ r = .v (.fl xs)
abbrev txF (x : Str) : FV := .str x
theorem encS : Enc txF (fun _ : Str => True) where
  pu a := rfl
  dp a _ := by simp [FV.py, PyData.depth]
  eq a b := str_eqv a b
theorem add_isL {r s : RV} {i j : List FV} (h1 : isL r i) (h2 : isL s j) (h : i.length + j.length ≤ 16000000) : oB gAdd r s = pur (.l (i ++ j)) := by
  rcases h1 with rfl | rfl <;> rcases h2 with rfl | rfl
  · exact add_l_l h
  · exact add_l_f h
  · exact add_f_l h
  · exact add_lfl h
def nmU : U → List Str
  | .v b => [vn b]
  | .c _ => []
  | .f t => nmU t
def lnm : Qs → List Str
  | .q => []
  | .p t => nmU t
  | .r t u => nmU t ++ nmU u
  | .e t u => nmU t
def rnm : Qs → List Str
  | .e t u => nmU u
  | _ => []
theorem nm_len : ∀ u : U, (nmU u).length ≤ 1
  | .v _ => Nat.le_refl _
  | .c _ => Nat.zero_le _
  | .f t => nm_len t
theorem lnm_len (q : Qs) : (lnm q).length ≤ 2 ∧ (rnm q).length ≤ 1 := by
  cases q with
  | q => exact ⟨Nat.zero_le _, Nat.zero_le _⟩
  | p t => have := nm_len t; exact ⟨by show (nmU t).length ≤ 2; omega, Nat.zero_le _⟩
  | r t u => have := nm_len t; have := nm_len u; exact ⟨by show (nmU t ++ nmU u).length ≤ 2; rw [List.length_append]; omega, Nat.zero_le _⟩
  | e t u => have := nm_len t; have := nm_len u; exact ⟨by show (nmU t).length ≤ 2; omega, by show (nmU u).length ≤ 1; omega⟩
/-- the law's own walk -/
def LnOk (n : Nat) (t : Tm) (xs : List Str) : Prop := ∃ r, (T n).d_law_names t.fv = pur r ∧ isL r (xs.map txF)
theorem ln_app (n : Nat) (f : Str) (ps : List (Tm × List Str)) (h : ∀ p, p ∈ ps → LnOk n p.1 p.2 ∧ p.2.length ≤ 10) (hl : ps.length ≤ 10) : LnOk (n + 1) (.app f (ps.map (·.1))) (ps.flatMap (·.2)) := by
  have lp : ∀ (ps : List (Tm × List Str)) (acc : List Str), (∀ p, p ∈ ps → LnOk n p.1 p.2 ∧ p.2.length ≤ 10) → acc.length + 10 * ps.length ≤ 1000 → (forN (fun law_names_here_6 law_part_5 => (bnd (mV (bnd ((T n).d_law_names law_part_5) fun t_7 => (oB gAdd (.v law_names_here_6) t_7))) fun law_names_here_8 => (pur (.nx law_names_here_8)))) (Tm.fvs (ps.map (·.1))) (.fl (acc.map txF)) : M (Fl FV Empty)) = pur (.nx (.fl ((acc ++ ps.flatMap (·.2)).map txF))) := fun ps => by
    induction ps with
    | nil => intro acc _ _; rw [List.flatMap_nil, List.append_nil]; rfl
    | cons p ps ih =>
      intro acc h hl
      obtain ⟨⟨r, h1, h2⟩, h3⟩ := h p List.mem_cons_self
      rw [List.length_cons] at hl
      have ad := add_isL (r := .v (.fl (acc.map txF))) (.inr rfl) h2 (by rw [List.length_map, List.length_map]; omega)
      rw [List.map_cons, fvs_cons, forN_cons, h1, bnd_pur, ad, mV_l, bnd_pur, bnd_pur, List.flatMap_cons, ← List.append_assoc, ← List.map_append]
      exact ih (acc ++ p.2) (fun q hq => h q (List.mem_cons_of_mem _ hq)) (by rw [List.length_append]; omega)
  have lp2 := lp ps [] h (by show 0 + _ ≤ _; omega)
  rw [List.map_nil, List.nil_append] at lp2
  refine ⟨.v (.fl ((ps.flatMap (·.2)).map txF)), ?_, .inr rfl⟩
  rw [T__law_names, n_law_names, fv_app]
  simp only [is_st, bnd_pur, oT_bl, Bool.false_eq_true, if_false, lst_nil, mV_l, sl_t1, mV_v, oW_tup]
  rw [lp2]
  simp only [seqN_nx, ret_pur, toF_rt, gcM_pur']
theorem ln_var (n : Nat) (x : Str) : LnOk (n + 1) (.var x) [x] := by
  refine ⟨.l [.str x], ?_, .inl rfl⟩
  rw [T__law_names, n_law_names, fv_var]
  simp only [is_ss, bnd_pur, oT_bl, if_true, lst_1, ret_pur, toF_rt, gcM_pur']
/-- the program's: all parts, those that are texts -/
def isV : Tm → Option Str
  | .var x => some x
  | _ => none
def ApOk (n : Nat) (t : Tm) (xs : List Str) : Prop := ∃ ps : List Tm, (T n).d_all_parts t.fv = pur (.l (ps.map Tm.fv)) ∧ ps.filterMap isV = xs ∧ ps.length ≤ 100
theorem ap_ok (n : Nat) (t : Tm) (h : t.nn ≤ 200) (hl : t.pre.length ≤ 100) : ApOk (n + 2) t (t.pre.filterMap isV) := ⟨t.pre, all_parts_ok n t (by omega), rfl, hl⟩
/-- names in a dict -/
def nD (xs : List Str) : List (L2.Key × FV) := embA FV.bl (xs.map (·, true))
theorem put_name (xs : List Str) (x : Str) (hl : xs.length < 1000000) : oPut (nD xs) (.v (.str x)) (.bl true) = pur (nD (addD xs x)) := by
  refine lift_ok fun _ => ?_
  show gPutK (nD xs) (.v (.str x)) (.bl true) = _
  unfold gPutK
  dsimp only
  rw [show (FV.str x).key = some (keyS x) from rfl]
  dsimp only
  rw [if_pos (by unfold nD embA; rw [List.length_map, List.length_map]; show _ < 16000000; omega)]
  unfold nD
  rw [put_emb]
  congr 2
  unfold putA addD
  rw [List.any_map]
  by_cases h : x ∈ xs
  · rw [if_pos h, if_pos (List.any_eq_true.mpr ⟨x, h, by simp⟩), List.map_map]
    refine List.map_congr_left fun y _ => ?_
    simp only [Function.comp_apply]
    split <;> rfl
  · rw [if_neg h, if_neg (fun z => by
      obtain ⟨y, hy, hy2⟩ := List.any_eq_true.mp z
      simp at hy2
      subst hy2
      exact h hy), List.map_append]; rfl
theorem list_names (xs : List Str) : oU gList (.bd (nD xs)) = pur (.l (xs.map txF)) := by
  have : oU gList (.bd (nD xs)) = pur (.l ((nD xs).map fun kv => keyF kv.1)) := lift_ok fun _ => rfl
  rw [this]
  unfold nD embA
  rw [List.map_map, List.map_map]; rfl
theorem len_fold {α : Type} [DecidableEq α] : ∀ (xs acc : List α), (xs.foldl addD acc).length ≤ acc.length + xs.length
  | [], acc => Nat.le_refl _
  | x :: xs, acc => by
    have := len_fold xs (addD acc x)
    have l2 : (addD acc x).length ≤ acc.length + 1 := by
      unfold addD
      split
      · omega
      · rw [List.length_append]; exact Nat.le_refl _
    rw [List.foldl_cons, List.length_cons]; omega
theorem unk_ok (n : Nat) (t : Tm) (xs : List Str) (h : ApOk n t xs) : (T (n + 1)).d_unknowns_of t.fv = pur (.l ((dd xs).map txF)) := by
  obtain ⟨ps, h1, h2, h3⟩ := h
  have lp : ∀ (ps : List Tm) (acc : List Str), acc.length + ps.length ≤ 1000 → (forN (fun found_4 part_3 => (bnd (bnd (oU (gIs "str") (.v part_3)) fun t_5 => (oT t_5)) fun c_6 => if c_6 = true then (bnd (oPut found_4 (.v part_3) (.bl true)) fun found_7 => (pur (.nx found_7))) else (pur (.nx found_4)))) (ps.map Tm.fv) (nD acc) : M (Fl (List (L2.Key × FV)) Empty)) = pur (.nx (nD ((ps.filterMap isV).foldl addD acc))) := fun ps => by
    induction ps with
    | nil => intro acc _; rfl
    | cons p ps ih =>
      intro acc hl
      rw [List.length_cons] at hl
      cases p with
      | var x =>
        have l2 := len_fold [x] acc
        rw [List.map_cons, fv_var, forN_cons, is_ss]
        simp only [bnd_pur, oT_bl, if_true, put_name acc x (by omega)]
        rw [ih (addD acc x) (by have : (addD acc x).length ≤ acc.length + 1 := l2; omega)]; rfl
      | app f ts =>
        rw [List.map_cons, fv_app, forN_cons, is_st]
        simp only [bnd_pur, oT_bl, Bool.false_eq_true, if_false]
        rw [ih acc (by omega)]; rfl
  have lp2 := lp ps [] (by show 0 + _ ≤ _; omega)
  rw [T_unknowns_of, n_unknowns_of]
  rw [show mD (pur (.d [])) = pur (nD []) from rfl, bnd_pur, h1, mV_l, bnd_pur, oW_fl, bnd_pur, lp2, h2]
  simp only [seqN_nx, list_names, ret_pur, toF_rt, gcM_pur']
  rfl
theorem u_pre : ∀ u : U, u.tm.pre.filterMap isV = nmU u ∧ u.tm.pre.length ≤ u.d + 1
  | .v b => by rw [U.tm, pre_var]; exact ⟨rfl, Nat.le_refl _⟩
  | .c b => by rw [U.tm, pre_app, pres_nil]; exact ⟨rfl, by show 1 ≤ _; omega⟩
  | .f t => by
    obtain ⟨h1, h2⟩ := u_pre t
    rw [U.tm, pre_app, pres_cons, pres_nil, List.append_nil]
    exact ⟨by rw [List.filterMap_cons]; exact h1, by rw [List.length_cons, U.d]; omega⟩
theorem u_law : ∀ (u : U) (n : Nat), u.d + 3 ≤ n → LnOk n u.tm (nmU u)
  | .v b, n, h => by
    obtain ⟨n, rfl⟩ : ∃ k, n = k + 1 := ⟨n - 1, by omega⟩
    exact ln_var n _
  | .c b, n, h => by
    obtain ⟨n, rfl⟩ : ∃ k, n = k + 1 := ⟨n - 1, by omega⟩
    exact ln_app n (cn b) [] (fun p hp => nomatch hp) (Nat.zero_le _)
  | .f t, n, h => by
    obtain ⟨n, rfl⟩ : ∃ k, n = k + 1 := ⟨n - 1, by omega⟩
    rw [U.d] at h
    have h1 := u_law t n (by omega)
    have := nm_len t
    have l := ln_app n "f" [(t.tm, nmU t)] (fun p hp => by simp at hp; subst hp; exact ⟨h1, by show (nmU t).length ≤ 10; omega⟩) (by show 1 ≤ 10; omega)
    simpa [U.tm, nmU] using l
theorem u_names (u : U) (n : Nat) (h : u.d + 3 ≤ n) (hd : u.d ≤ 20) : LnOk n u.tm (nmU u) ∧ ∃ ps : List Tm, (T n).d_all_parts u.tm.fv = pur (.l (ps.map Tm.fv)) ∧ ps.filterMap isV = nmU u ∧ ps.length ≤ u.d + 1 := by
  obtain ⟨m, rfl⟩ : ∃ k, n = k + 2 := ⟨n - 2, by omega⟩
  have := tm_nn u
  exact ⟨u_law u _ h, u.tm.pre, all_parts_ok m u.tm (by omega), (u_pre u).1, (u_pre u).2⟩
/-- a literal's sides -/
theorem q_names (q : Qs) (n : Nat) (h : q.d + 4 ≤ n) (hd : q.d ≤ 20) : (LnOk n q.l (lnm q) ∧ ApOk n q.l (lnm q)) ∧ LnOk n q.rr (rnm q) ∧ ApOk n q.rr (rnm q) := by
  obtain ⟨n, rfl⟩ : ∃ k, n = k + 2 := ⟨n - 2, by omega⟩
  have zero : ∀ f : Str, ApOk (n + 2) (.app f []) [] := fun f => by
    have := ap_ok n (.app f []) (by rw [nn_app, nns_nil]; decide) (by rw [pre_app, pres_nil]; show 1 ≤ 100; decide)
    rw [pre_app, pres_nil] at this
    exact this
  have top : LnOk (n + 2) topT [] ∧ ApOk (n + 2) topT [] := ⟨ln_app (n + 1) "" [] (fun p hp => nomatch hp) (Nat.zero_le _), zero ""⟩
  have one : ∀ t : U, t.d + 3 ≤ n + 1 → t.d ≤ 20 → LnOk (n + 1) t.tm (nmU t) ∧ (nmU t).length ≤ 10 := fun t h hd => by
    have := nm_len t
    exact ⟨u_law t (n + 1) h, by omega⟩
  cases q with
  | q => exact ⟨⟨ln_app (n + 1) "Q" [] (fun p hp => nomatch hp) (Nat.zero_le _), zero "Q"⟩, top⟩
  | p t =>
    rw [Qs.d] at h hd
    have h1 := one t (by omega) (by omega)
    have nn := tm_nn t
    have l1 := ln_app (n + 1) "P" [(t.tm, nmU t)] (fun p hp => by simp at hp; subst hp; exact h1) (by show 1 ≤ 10; omega)
    have l2 := ap_ok n (.app "P" [t.tm]) (by rw [nn_app, nns_cons, nns_nil]; omega) (by rw [pre_app, pres_cons, pres_nil, List.append_nil, List.length_cons]; have := (u_pre t).2; omega)
    rw [pre_app, pres_cons, pres_nil, List.append_nil, List.filterMap_cons] at l2
    refine ⟨⟨by simpa [Qs.l, lnm] using l1, ?_⟩, top⟩
    rw [(u_pre t).1] at l2
    exact l2
  | r t u =>
    rw [Qs.d] at h hd
    have h1 := one t (by omega) (by omega)
    have h3 := one u (by omega) (by omega)
    have nn := tm_nn t
    have nu := tm_nn u
    have l1 := ln_app (n + 1) "R" [(t.tm, nmU t), (u.tm, nmU u)] (fun p hp => by
      simp at hp
      rcases hp with rfl | rfl
      · exact h1
      · exact h3) (by show 2 ≤ 10; omega)
    have l2 := ap_ok n (.app "R" [t.tm, u.tm]) (by rw [nn_app, nns_cons, nns_cons, nns_nil]; omega) (by rw [pre_app, pres_cons, pres_cons, pres_nil, List.append_nil, List.length_cons, List.length_append]; have := (u_pre t).2; have := (u_pre u).2; omega)
    rw [pre_app, pres_cons, pres_cons, pres_nil, List.append_nil, List.filterMap_cons, List.filterMap_append, (u_pre t).1, (u_pre u).1] at l2
    exact ⟨⟨by simpa [Qs.l, lnm] using l1, l2⟩, top⟩
  | e t u =>
    rw [Qs.d] at h hd
    obtain ⟨h1, ps, h2, h3, h4⟩ := u_names t (n + 2) (by omega) (by omega)
    obtain ⟨g1, qs, g2, g3, g4⟩ := u_names u (n + 2) (by omega) (by omega)
    exact ⟨⟨h1, ps, h2, h3, by omega⟩, g1, qs, g2, g3, by omega⟩
theorem fold_dd : ∀ (xs acc : List Str), (dd xs).foldl addD acc = xs.foldl addD acc := fun xs => by
  suffices h : ∀ (ys : List Str) (acc : List Str), (dd ys.reverse).foldl addD acc = ys.reverse.foldl addD acc by
    intro acc
    have := h xs.reverse acc
    rwa [List.reverse_reverse] at this
  intro ys
  induction ys with
  | nil => intro acc; rfl
  | cons y ys ih =>
    intro acc
    rw [List.reverse_cons, fold_snoc, ← ih acc]
    have e : dd (ys.reverse ++ [y]) = addD (dd ys.reverse) y := fold_snoc ys.reverse [] y
    rw [e]
    by_cases h : y ∈ dd ys.reverse
    · have e1 : addD (dd ys.reverse) y = dd ys.reverse := if_pos h
      have e2 : addD ((dd ys.reverse).foldl addD acc) y = (dd ys.reverse).foldl addD acc := if_pos ((mem_fold _ _ _).mpr (.inr h))
      rw [e1, e2]
    · have e1 : addD (dd ys.reverse) y = dd ys.reverse ++ [y] := if_neg h
      rw [e1, List.foldl_append]; rfl
def qn (q : Qs) : List Str := lnm q ++ rnm q
/-- the names in a clause, in order, each once -/
def UN (C : List Lt) : List Str := (C.flatMap fun l => qn l.2).foldl addD []
theorem clause_unk (n : Nat) (C : List Lt) (hn : 40 ≤ n) (hs : Small 20 C) (hl : C.length ≤ 1000) : (T n).d_clause_unknowns (.tup (C.map litF)) = pur (.l ((UN C).map txF)) := by
  obtain ⟨n, rfl⟩ : ∃ k, n = k + 2 := ⟨n - 2, by omega⟩
  have inner : ∀ (ys acc : List Str), acc.length + ys.length ≤ 100000 → (forN (fun found_10 name_9 => (bnd (oPut found_10 (.v name_9) (.bl true)) fun found_11 => (pur (.nx found_11)))) (ys.map txF) (nD acc) : M (Fl (List (L2.Key × FV)) (List (L2.Key × FV)))) = pur (.nx (nD (ys.foldl addD acc))) := fun ys => by
    induction ys with
    | nil => intro acc _; rfl
    | cons y ys ih =>
      intro acc hl
      rw [List.length_cons] at hl
      have l2 : (addD acc y).length ≤ acc.length + 1 := len_fold [y] acc
      rw [List.map_cons, forN_cons, put_name acc y (by omega), bnd_pur, bnd_pur]
      exact ih (addD acc y) (by omega)
  have lp : ∀ (F : List (L2.Key × FV) → FV → M (Fl (List (L2.Key × FV)) (List (L2.Key × FV)))) (hF : ∀ (acc : List Str) (l : Lt), l.2.d ≤ 20 → acc.length ≤ 50000 → F (nD acc) (litF l) = pur (.nx (nD ((qn l.2).foldl addD acc)))) (C : List Lt) (acc : List Str), Small 20 C → acc.length + 10 * C.length ≤ 50000 →
      (forN F (C.map litF) (nD acc) : M (Fl (List (L2.Key × FV)) Empty)) = pur (.nx (nD ((C.flatMap fun l => qn l.2).foldl addD acc))) := fun F hF C => by
    induction C with
    | nil => intro acc _ _; rfl
    | cons l C ih =>
      intro acc hs hl
      rw [List.length_cons] at hl
      obtain ⟨b1, b2⟩ := lnm_len l.2
      have l3 := len_fold (qn l.2) acc
      have lq : (qn l.2).length ≤ 3 := by unfold qn; rw [List.length_append]; omega
      rw [List.map_cons, forN_cons, hF acc l (hs l List.mem_cons_self) (by omega), bnd_pur, List.flatMap_cons, List.foldl_append]
      exact ih _ (fun a ha => hs a (List.mem_cons_of_mem _ ha)) (by omega)
  rw [T_clause_unknowns, n_clause_unknowns]
  rw [show mD (pur (.d [])) = pur (nD []) from rfl, bnd_pur, oW_tup, bnd_pur]
  have fin : gcM (toF (seqN (pur (.nx (nD ((C.flatMap fun l => qn l.2).foldl addD [])))) fun found_14 => (ret (oU gList (.bd found_14))) : M (Fl Unit Empty))) = pur (.l ((UN C).map txF)) := by
    simp only [seqN_nx, list_names, ret_pur, toF_rt, gcM_pur']
    rfl
  rw [lp _ ?_ C [] hs (by show 0 + _ ≤ _; omega)]
  · exact fin
  · intro acc l hd hacc
    obtain ⟨⟨_, a1⟩, _, a2⟩ := q_names l.2 n (by omega) hd
    obtain ⟨b1, b2⟩ := lnm_len l.2
    have u1 := unk_ok n l.2.l (lnm l.2) a1
    have u2 := unk_ok n l.2.rr (rnm l.2) a2
    have d1 : (dd (lnm l.2)).length ≤ 2 := Nat.le_trans (dd_sub _).length_le b1
    have d2 : (dd (rnm l.2)).length ≤ 1 := Nat.le_trans (dd_sub _).length_le b2
    have ad : oB gAdd (.l ((dd (lnm l.2)).map txF)) (.l ((dd (rnm l.2)).map txF)) = pur (.l ((dd (lnm l.2)).map txF ++ (dd (rnm l.2)).map txF)) := add_l_l (by rw [List.length_map, List.length_map]; omega)
    have inn := inner (dd (lnm l.2) ++ dd (rnm l.2)) acc (by rw [List.length_append]; omega)
    rw [List.foldl_append, fold_dd, fold_dd, ← List.foldl_append, List.map_append] at inn
    rw [show litF l = .tup [.bl l.1, l.2.l.fv, l.2.rr.fv] from rfl]
    simp only [bindT_tup, bCons_cons, bNil_nil, u1, u2, bnd_pur, ad, mV_l, oW_fl, inn, seqN_nx]
    rfl
theorem is_ground (n : Nat) (C : List Lt) (hn : 41 ≤ n) (hs : Small 20 C) (hl : C.length ≤ 1000) : (T n).d_is_ground (.tup (C.map litF)) = pur (.v (.bl (decide ((UN C).length = 0)))) := by
  obtain ⟨n, rfl⟩ : ∃ k, n = k + 1 := ⟨n - 1, by omega⟩
  have e : decide (((UN C).length : Int) = 0) = decide ((UN C).length = 0) := decide_eq_decide.mpr (by omega)
  rw [T_is_ground, n_is_ground, clause_unk n C (by omega) hs hl]
  simp only [bnd_pur, len_l, List.length_map, q_ii, Bool.false_eq_true, if_false, e, mB_pur, ret_pur, toF_rt, gcM_pur']
end Q87
namespace Q87
open PySem P
theorem txts_map : ∀ ys : List Str, txts (ys.map txF) = some ys
  | [] => rfl
  | y :: ys => by rw [List.map_cons, txts, txts_map ys]; rfl
theorem sum_le {ys : List Str} {m : Nat} (h : ∀ y, y ∈ ys → y.length ≤ m) : (ys.map (·.length)).sum ≤ ys.length * m := by
  induction ys with
  | nil => simp
  | cons y ys ih =>
    have := ih fun z hz => h z (List.mem_cons_of_mem _ hz)
    have := h y List.mem_cons_self
    rw [List.map_cons, List.sum_cons, List.length_cons, Nat.succ_mul]; omega
/-- texts joined -/
theorem join_or (ys : List Str) (h : ∀ y, y ∈ ys → y.length ≤ 1000) (hl : ys.length ≤ 1000) {r : RV} {b : Bool} (hr : ∀ s, r.seq s = some (b, ys.map txF)) : oB gJoin (.v (.str " or ")) r = pur (.v (.str (Txt.join " or " ys))) := by
  refine join_s (a := " or ") (x := r) (ds := ys.map txF) (ys := ys) hr (txts_map ys) ?_
  have := sum_le h
  rw [show (" or " : Str).length = 4 by decide +kernel]
  have : ys.length * 1000 ≤ 1000 * 1000 := Nat.mul_le_mul_right _ hl
  omega
def CT (C : List Lt) : Str := if C.length = 0 then "false" else Txt.join " or " (C.map ltx)
theorem texts_ok (n : Nat) (C : List Lt) (hn : 30 ≤ n) (hs : Small 20 C) (hl : C.length ≤ 1000) :
    filL (item some (fun _ => pur true) fun l => (T n).d_literal_text l) (C.map litF) = pur (.l ((C.map ltx).map txF)) ∧ filL (item some (fun _ => pur true) fun l => (T n).d_law_said l) (C.map litF) = pur (.l ((C.map ltx).map txF)) := by
  rw [List.map_map]
  constructor
  · exact filL_all (e := litF) (f := txF ∘ ltx) (xs := C) (fun l hl => by
      rw [item_some (x := litF l) rfl, bnd_pur, if_pos rfl, (lit_text l n (by have := hs l hl; omega) (hs l hl)).1, mV_v, bnd_pur]; rfl) (by omega)
  · exact filL_all (e := litF) (f := txF ∘ ltx) (xs := C) (fun l hl => by
      rw [item_some (x := litF l) rfl, bnd_pur, if_pos rfl, (lit_text l n (by have := hs l hl; omega) (hs l hl)).2, mV_v, bnd_pur]; rfl) (by omega)
theorem ltx_small {C : List Lt} (hs : Small 20 C) : ∀ y, y ∈ C.map ltx → y.length ≤ 1000 := fun y hy => by
  obtain ⟨l, hl, rfl⟩ := List.mem_map.mp hy
  exact ltx_len l (hs l hl)
theorem clause_text (n : Nat) (C : List Lt) (hn : 31 ≤ n) (hs : Small 20 C) (hl : C.length ≤ 1000) : (T n).d_clause_text (.tup (C.map litF)) = pur (.v (.str (CT C))) := by
  obtain ⟨n, rfl⟩ : ∃ k, n = k + 1 := ⟨n - 1, by omega⟩
  have e : decide (((C.map litF).length : Int) = 0) = decide (C.length = 0) := by rw [List.length_map]; exact decide_eq_decide.mpr (by omega)
  have jo := join_or (C.map ltx) (ltx_small hs) (by rw [List.length_map]; exact hl) (r := .l ((C.map ltx).map txF)) (b := false) fun _ => rfl
  rw [T_clause_text, n_clause_text]
  simp only [len_t, bnd_pur, q_ii, Bool.false_eq_true, if_false, e, oW_tup, (texts_ok n C (by omega) hs hl).1, jo]
  unfold CT
  by_cases h : C.length = 0
  · simp only [decide_eq_true h, if_true, if_pos h, ret_pur, toF_rt, gcM_pur']
  · simp only [decide_eq_false h, Bool.false_eq_true, if_false, if_neg h, ret_pur, toF_rt, gcM_pur']
/-! always true -/
def pA (C : List Lt) (l : Lt) : Bool := (l.1 && decide (l.2.l = l.2.rr)) || memD (op l) C
theorem always (n : Nat) (C : List Lt) (hn : 30 ≤ n) (hs : Small 20 C) : (T n).d_always_true (.tup (C.map litF)) = pur (.v (.bl (C.any (pA C)))) := by
  obtain ⟨n, rfl⟩ : ∃ k, n = k + 1 := ⟨n - 1, by omega⟩
  have lp : ∀ (F : Unit → FV → M (Fl Unit Unit)) (hF : ∀ l, l ∈ C → F () (litF l) = if pA C l = true then pur (.rt (.v (.bl true))) else pur (.nx ())) (xs : List Lt), (∀ l, l ∈ xs → l ∈ C) →
      (forN F (xs.map litF) () : M (Fl Unit Empty)) = if xs.any (pA C) = true then pur (.rt (.v (.bl true))) else pur (.nx ()) := fun F hF xs => by
    induction xs with
    | nil => intro _; rfl
    | cons x xs ih =>
      intro h
      rw [List.map_cons, forN_cons, hF x (h x List.mem_cons_self), List.any_cons]
      cases pA C x with
      | true => rfl
      | false =>
        rw [if_neg Bool.false_ne_true, bnd_pur, Bool.false_or]
        exact ih fun l hl => h l (List.mem_cons_of_mem _ hl)
  rw [T_always_true, n_always_true, oW_tup, bnd_pur, lp _ ?_ C fun l hl => hl]
  · cases C.any (pA C) with
    | true => simp only [if_true, seqN_rt, toF_rt, gcM_pur']
    | false => simp only [Bool.false_eq_true, if_false, seqN_nx, ret_pur, toF_rt, gcM_pur']
  · intro l hl
    have hd := hs l hl
    have q1 := q_tt (neg := false) (t := l.2.l) (u := l.2.rr) (by have := l.2.dl; omega)
    rw [if_neg Bool.false_ne_true] at q1
    have mx := encL.mx (neg := false) (a := op l) (xs := C) (y := .v (.tup (C.map litF))) (b := true) (show (op l).2.d ≤ 50 from (by show l.2.d ≤ 50; omega)) (litR _) fun _ => rfl
    rw [if_neg Bool.false_ne_true] at mx
    have oo := opp_ok l n (by omega)
    rw [bnd_pur, show litF l = .tup [.bl l.1, l.2.l.fv, l.2.rr.fv] from rfl] at *
    simp only [bindT_tup, bCons_cons, bNil_nil, oT_bl, q1, mAnd_pp, bnd_pur, oo, mx]
    unfold pA
    cases (l.1 && decide (l.2.l = l.2.rr)) with
    | true => rfl
    | false =>
      simp only [Bool.false_eq_true, if_false, Bool.false_or, ret_pur]
/-! filled clauses -/
def gl (σ : Bool → Option U) (l : Lt) : Lt := (l.1, flQ σ l.2)
theorem fill_clause (n : Nat) (C : List Lt) {D : FV} {σ : Bool → Option U} (hD : IsD D σ) (hσ : ∀ b u, σ b = some u → u.d ≤ 5) (hn : 40 ≤ n) (hs : Small 10 C) (hl : C.length ≤ 1000) : (T n).d_fill_clause (.tup (C.map litF)) D = pur (.v (.tup ((MC (C.map fun l => fm (gl σ l))).map litF))) := by
  obtain ⟨n, rfl⟩ : ∃ k, n = k + 2 := ⟨n - 2, by omega⟩
  have one : ∀ l, l ∈ C → (T (n + 1)).d_fill_literal (litF l) D = pur (.v (litF (fm (gl σ l)))) := fun l hl => by
    have hd := hs l hl
    have hd2 := flQ_d hσ l.2
    obtain ⟨⟨f1, _⟩, f2, _⟩ := q_fill hD l.2 n (by omega)
    have mk := (make_ok l.1 (flQ σ l.2) n (by omega) (by omega)).1
    rw [T__fill_literal, n_fill_literal]
    rw [show litF l = .tup [.bl l.1, l.2.l.fv, l.2.rr.fv] from rfl]
    simp only [bnd_pur, bindT_tup, bCons_cons, bNil_nil, f1, f2, mV_v, mk, ret_pur, toF_rt, gcM_pur']
    rfl
  have fl : filL (item some (fun _ => pur true) fun l => (T (n + 1)).d_fill_literal l D) (C.map litF) = pur (.l ((C.map fun l => fm (gl σ l)).map litF)) := by
    rw [List.map_map]
    exact filL_all (e := litF) (f := fun l => litF (fm (gl σ l))) (xs := C) (fun l hl => by
      rw [item_some (x := litF l) rfl, bnd_pur, if_pos rfl, one l hl, mV_v, bnd_pur]) (by omega)
  have mc := make_clause (n + 1) (C.map fun l => fm (gl σ l)) (.fl ((C.map fun l => fm (gl σ l)).map litF)) (b := false) (fun _ => rfl) (by omega) (fun a ha => by
    obtain ⟨l, hl, rfl⟩ := List.mem_map.mp ha
    have := hs l hl
    have := flQ_d hσ l.2
    rw [fm_d]
    show (flQ σ l.2).d ≤ 20
    omega) (by rw [List.length_map]; exact hl)
  rw [T_fill_clause, n_fill_clause]
  simp only [oW_tup, bnd_pur, fl, mV_l, mc, ret_pur, toF_rt, gcM_pur']
end Q87
namespace Q87
open PySem P
/-! what is drawn -/
theorem pick {α : Type} {e : α → FV} {base : List α} {i : Nat} (hi : i < base.length) : ∃ t, t ∈ base ∧ oB gIx (.v (.fl (base.map e))) (.v (.int (i : Int))) = pur (.v (e t)) ∧ base[i]? = some t :=
  ⟨base[i], List.getElem_mem hi, ix_f (atI_nat (by rw [List.getElem?_map, List.getElem?_eq_getElem hi]; rfl)), List.getElem?_eq_getElem hi⟩
theorem take_dr (n k : Nat) (hk : 0 < k) : Dr ((T (n + 1)).d_law_take (.ref 0) (.int (k : Int))) (fun r => ∃ i : Nat, i < k ∧ r = .v (.int i)) 1 := Dr.take (by rw [T__law_take]; rfl) hk
theorem take_mV (n k : Nat) (hk : 0 < k) : Dr (mV ((T (n + 1)).d_law_take (.ref 0) (.int (k : Int)))) (fun v => ∃ i : Nat, i < k ∧ v = .int i) 1 := (take_dr n k hk).mV fun r ⟨i, hi, e⟩ => ⟨.int i, by rw [e]; rfl, i, hi, rfl⟩
def leaves : List U := [.v false, .v true, .c false, .c true]
theorem leaf_d {u : U} (h : u ∈ leaves) : u.d ≤ 1 := by
  simp only [leaves, List.mem_cons, List.not_mem_nil, or_false] at h
  rcases h with rfl | rfl | rfl | rfl <;> simp [U.d]
abbrev uF (u : U) : FV := u.tm.fv
abbrev UQ (d : Nat) (r : RV) : Prop := ∃ u : U, r = .v (uF u) ∧ u.d ≤ d + 1
abbrev UV (d : Nat) (r : FV) : Prop := ∃ u : U, r = uF u ∧ u.d ≤ d + 1
theorem UQ.mV {m : M RV} {d c : Nat} (h : Dr m (UQ d) c) : Dr (mV m) (UV d) c := h.mV fun r ⟨u, e, hu⟩ => ⟨uF u, by rw [e]; rfl, u, rfl, hu⟩
theorem term_dr : ∀ (d n : Nat), d + 2 ≤ n → Dr ((T n).d_law_term (.ref 0) (.int (d : Int))) (UQ d) (2 * (d + 1))
  | d, n, hn => by
    obtain ⟨n, rfl⟩ : ∃ k, n = k + 2 := ⟨n - 2, by omega⟩
    rw [T__law_term]
    refine Dr.fn ?_
    unfold n_law_term
    refine Dr.bnd (take_mV n 5 (by decide)) (d := 2 * d + 1) (fun v ⟨i, hi, e⟩ => ?_) (by omega)
    subst e
    by_cases h0 : d = 0 ∨ i < 4
    · have hc : (mOr (oC (gQ false) (.v (.int (d : Int))) (.v (.int 0))) (oC gLt (.v (.int (i : Int))) (.v (.int 4)))) = pur true := by
        rw [q_ii, lt_ii, mOr_pp]
        rcases h0 with h | h
        · subst h; rfl
        · rw [decide_eq_true (show (i : Int) < 4 by omega), Bool.or_true]
      rw [hc, bnd_pur, if_pos rfl]
      simp only [tup_1, mV_v, bnd_pur, lst_4, mV_l]
      refine Dr.up (c := 1) ?_ (by omega)
      have leaf : Dr (bnd ((T (n + 1)).d_law_take (.ref 0) (.int 4)) fun t => oB gIx (.v (.fl (leaves.map uF))) t) (UQ d) 1 := by
        refine Dr.bnd (take_dr n 4 (by decide)) (d := 0) (fun r ⟨i, hi, e⟩ => ?_) (Nat.le_refl _)
        obtain ⟨t, ht, hx, _⟩ := pick (e := uF) (base := leaves) hi
        rw [e, hx]
        have := leaf_d ht
        exact Dr.pur ⟨t, rfl, by omega⟩
      have e : leaves.map uF = [.str "x", .str "y", .tup [.str "a"], .tup [.str "b"]] := by simp [leaves, uF, U.tm, vn, cn]
      rw [e] at leaf
      unfold P.ret
      simp only [up_bnd, up_rt]
      exact Dr.bnd leaf (d := 0) (fun r q => Dr.pur q) (Nat.le_refl _)
    · have h1 : d ≠ 0 := fun z => h0 (.inl z)
      have h2 : ¬ i < 4 := fun z => h0 (.inr z)
      obtain ⟨d, rfl⟩ : ∃ k, d = k + 1 := ⟨d - 1, by omega⟩
      have hc : (mOr (oC (gQ false) (.v (.int ((d + 1 : Nat) : Int))) (.v (.int 0))) (oC gLt (.v (.int (i : Int))) (.v (.int 4)))) = pur false := by
        rw [q_ii, lt_ii, mOr_pp, decide_eq_false (show ¬ (i : Int) < 4 by omega), decide_eq_false (show ¬ ((d + 1 : Nat) : Int) = 0 by omega)]; rfl
      have hs : oB gMns (.v (.int ((d + 1 : Nat) : Int))) (.v (.int 1)) = pur (.v (.int (d : Int))) := by rw [sub_ii]; congr 3; omega
      rw [hc, bnd_pur, if_neg Bool.false_ne_true]
      refine Dr.up (c := 2 * (d + 1)) ?_ (by omega)
      refine Dr.ret (Q := UQ (d + 1)) ?_ fun r q => q
      simp only [hs, mV_v, bnd_pur]
      refine Dr.bnd (UQ.mV (term_dr d (n + 1) (by omega))) (d := 0) (fun v ⟨u, e, hu⟩ => ?_) (Nat.le_refl _)
      rw [e, tup_2]
      exact Dr.pur ⟨.f u, by simp [uF, U.tm], by rw [U.d]; omega⟩
abbrev LQ (r : RV) : Prop := ∃ l : Lt, r = .v (litF l) ∧ l.2.d ≤ 4
theorem lit_dr (n : Nat) (hn : 10 ≤ n) : Dr ((T n).d_law_literal (.ref 0)) LQ 14 := by
  obtain ⟨n, rfl⟩ : ∃ k, n = k + 2 := ⟨n - 2, by omega⟩
  rw [T__law_literal]
  refine Dr.fn ?_
  unfold n_law_literal
  have t1 : Dr (mV ((T (n + 1)).d_law_term (.ref 0) (.int 1))) (UV 1) 4 := UQ.mV (term_dr 1 (n + 1) (by omega))
  have t2 : Dr (mV ((T (n + 1)).d_law_term (.ref 0) (.int 2))) (UV 2) 6 := UQ.mV (term_dr 2 (n + 1) (by omega))
  refine Dr.bnd (take_mV n 6 (by decide)) (d := 13) (fun v ⟨i, hi, e⟩ => ?_) (by omega)
  subst e
  have sg : Dr (mV (mB (bnd ((T (n + 1)).d_law_take (.ref 0) (.int 2)) fun t_2 => (oC (gQ false) t_2 (.v (.int 1)))))) (fun v => ∃ b, v = .bl b) 1 := by
    rw [mB_bnd, mV_bnd]
    refine Dr.bnd (take_dr n 2 (by decide)) (d := 0) (fun r ⟨i, hi, e⟩ => ?_) (Nat.le_refl _)
    subst e
    rw [q_ii, mB_pur, mV_v]
    exact Dr.pur ⟨_, rfl⟩
  refine Dr.bnd sg (d := 12) (fun v ⟨s, e⟩ => ?_) (by omega)
  subst e
  rw [q_ii, bnd_pur]
  refine Dr.ite (fun _ => ?_) fun _ => ?_
  · simp only [tup_1, mV_v, bnd_pur, tup_3, ret_pur]
    exact (Dr.pur (Q := RtQ LQ) (a := .rt _) ⟨(s, .q), by simp [litF, tri, Qs.l, Qs.rr, topT, c_TOP], by show 1 ≤ 4; omega⟩).up (Nat.zero_le _)
  rw [q_ii, bnd_pur]
  refine Dr.ite (fun _ => ?_) fun _ => ?_
  · refine (Dr.ret (Q := LQ) (c := 6) ?_ fun r q => q).up (by omega)
    simp only [mV_bnd, bnd_bnd]
    refine Dr.bnd t2 (d := 0) (fun v ⟨u, e, hu⟩ => ?_) (Nat.le_refl _)
    subst e
    simp only [tup_2, mV_v, bnd_pur, tup_3]
    exact Dr.pur ⟨(s, .p u), by simp [litF, tri, Qs.l, Qs.rr, topT, c_TOP], by show u.d + 1 ≤ 4; omega⟩
  rw [q_ii, bnd_pur]
  refine Dr.ite (fun _ => ?_) fun _ => ?_
  · refine (Dr.ret (Q := LQ) (c := 8) ?_ fun r q => q).up (by omega)
    simp only [mV_bnd, bnd_bnd]
    refine Dr.bnd t1 (d := 4) (fun v ⟨u, e, hu⟩ => Dr.bnd t1 (d := 0) (fun w ⟨u2, e2, hu2⟩ => ?_) (Nat.le_refl _)) (by omega)
    subst e e2
    simp only [mV_v, bnd_pur, tup_3]
    exact Dr.pur ⟨(s, .r u u2), by simp [litF, tri, Qs.l, Qs.rr, topT, c_TOP], by show max u.d u2.d + 1 ≤ 4; omega⟩
  · refine (Dr.ret (Q := LQ) (c := 12) ?_ fun r q => q)
    refine Dr.bnd t2 (d := 6) (fun v ⟨u, e, hu⟩ => Dr.bnd t2 (d := 0) (fun w ⟨u2, e2, hu2⟩ => ?_) (Nat.le_refl _)) (by omega)
    subst e e2
    simp only [tup_3]
    exact Dr.pur ⟨(s, .e u u2), rfl, by show max u.d u2.d ≤ 4; omega⟩
/-- a loop over numbers that draws -/
theorem Dr.forR {A β : Type} {F : A → FV → M (Fl A A)} {I : Nat → A → Prop} {c : Nat} {top : Nat} (hF : ∀ k a, k < top → I k a → Dr (F a (.int (k : Nat))) (fun r => ∃ a', r = .nx a' ∧ I (k + 1) a') c) :
    ∀ (m k : Nat) (a : A), k + m = top → I k a → Dr (forN F (rngL (k : Nat) m) a : M (Fl A β)) (fun r => ∃ a', r = .nx a' ∧ I top a') (m * c)
  | 0, k, a, hk, h => (Dr.pur ⟨a, rfl, by rw [← hk]; exact h⟩).up (Nat.zero_le _)
  | m + 1, k, a, hk, h => by
    rw [rngL, forN_cons]
    refine Dr.bnd (d := m * c) (hF k a (by omega) h) (fun r ⟨a', e, h'⟩ => ?_) (by rw [Nat.succ_mul]; omega)
    subst e
    rw [show ((k : Nat) : Int) + 1 = ((k + 1 : Nat) : Int) by omega]
    exact Dr.forR hF m (k + 1) a' (by omega) h'
theorem all_map {α : Type} {e : α → FV} {P : α → Prop} : ∀ vs : List FV, (∀ v, v ∈ vs → ∃ a, v = e a ∧ P a) → ∃ xs : List α, vs = xs.map e ∧ ∀ a, a ∈ xs → P a
  | [], _ => ⟨[], rfl, fun a h => nomatch h⟩
  | v :: vs, h => by
    obtain ⟨a, rfl, ha⟩ := h v List.mem_cons_self
    obtain ⟨xs, rfl, hx⟩ := all_map vs fun w hw => h w (List.mem_cons_of_mem _ hw)
    exact ⟨a :: xs, rfl, fun b hb => by
      rcases List.mem_cons.mp hb with rfl | hb
      · exact ha
      · exact hx b hb⟩
end Q87
namespace Q87
open PySem P
theorem fm_swap (s : Bool) (t u : U) : fm (s, .e u t) = fm (s, .e t u) := by
  rw [fm, fm]
  by_cases h1 : (tx u).cps.toList < (tx t).cps.toList
  · rw [if_pos h1, if_neg (List.lt_asymm h1)]
  · rw [if_neg h1]
    by_cases h2 : (tx t).cps.toList < (tx u).cps.toList
    · rw [if_pos h2]
    · rw [if_neg h2]
      have e : (tx t).cps.toList = (tx u).cps.toList := List.le_antisymm (List.not_lt.mp h1) (List.not_lt.mp h2)
      have := tl_inj t u (by rw [← tx_cs, ← tx_cs, e])
      rw [this]
theorem rng_len : ∀ (m : Nat) (lo : Int), (rngL lo m).length = m
  | 0, _ => rfl
  | m + 1, lo => by rw [rngL, List.length_cons, rng_len m]
/-- the literals drawn -/
theorem lits_dr (n : Nat) (hn : 20 ≤ n) : Dr (mV (bnd (bnd ((T n).d_law_take (.ref 0) (.int 7)) fun t_2 => (oR1 t_2)) (filL (item some (fun law_k_3 => (pur true)) (fun law_k_3 => ((T n).d_law_literal (.ref 0))))))) (fun v => ∃ X : List Lt, v = .fl (X.map litF) ∧ X.length ≤ 6 ∧ Small 4 X) 85 := by
  obtain ⟨n, rfl⟩ : ∃ k, n = k + 1 := ⟨n - 1, by omega⟩
  have dl : Dr (bnd (bnd ((T (n + 1)).d_law_take (.ref 0) (.int 7)) fun t_2 => (oR1 t_2)) (filL (item some (fun law_k_3 => (pur true)) (fun law_k_3 => ((T (n + 1)).d_law_literal (.ref 0)))))) (fun r => ∃ X : List Lt, r = .l (X.map litF) ∧ X.length ≤ 6 ∧ Small 4 X) 85 := by
    rw [bnd_bnd]
    refine Dr.bnd (take_dr n 7 (by decide)) (d := 84) (fun r ⟨i, hi, e⟩ => ?_) (Nat.le_refl _)
    subst e
    rw [r1_i (by omega) (by omega), bnd_pur, Int.toNat_natCast]
    unfold filL
    rw [if_pos (by rw [rng_len]; show _ ≤ 16000000; omega)]
    have ld := lit_dr (n + 1) (by omega)
    refine Dr.bnd (c := i * 14) (d := 0) (Z := fun vs : List FV => ∃ X : List Lt, vs = X.map litF ∧ X.length ≤ 6 ∧ Small 4 X) ?_ (fun vs ⟨X, e, h⟩ => Dr.pur ⟨X, by rw [e], h⟩) (by omega)
    have fn := Dr.filN (g := item some (fun law_k_3 => (pur true)) (fun law_k_3 => ((T (n + 1)).d_law_literal (.ref 0)))) (Z := fun _ => True) (Q := fun v => ∃ l : Lt, v = litF l ∧ l.2.d ≤ 4) (c := 14) (fun d _ => by
      rw [item_some (x := d) rfl, bnd_pur, if_pos rfl]
      refine Dr.bnd (ld.mV (Z := fun v => ∃ l : Lt, v = litF l ∧ l.2.d ≤ 4) fun r ⟨l, e, h⟩ => ⟨litF l, by rw [e]; rfl, l, rfl, h⟩) (d := 0) (fun v hv => Dr.pur ⟨v, rfl, hv⟩) (Nat.le_refl _)) (rngL 0 i) fun _ _ => trivial
    refine fn.mono (by rw [rng_len]; exact Nat.le_refl _) fun vs ⟨hl, hv⟩ => ?_
    obtain ⟨X, rfl, hX⟩ := all_map (e := litF) (P := fun l : Lt => l.2.d ≤ 4) vs hv
    exact ⟨X, rfl, by rw [List.length_map, rng_len] at hl; omega, hX⟩
  exact dl.mV fun r ⟨X, e, h⟩ => ⟨.fl (X.map litF), by rw [e]; rfl, X, rfl, h⟩
theorem lit_0 (l : Lt) : oB gIx (.v (litF l)) (.v (.int 0)) = pur (.v (.bl l.1)) := ix_t0 _ _
theorem lit_1 (l : Lt) : oB gIx (.v (litF l)) (.v (.int 1)) = pur (.v l.2.l.fv) := ix_t1 _ _ _
theorem lit_2 (l : Lt) : oB gIx (.v (litF l)) (.v (.int 2)) = pur (.v l.2.rr.fv) := ix_t2 _ _ _ _
/-- what the second list has -/
structure Oth (X : List Lt) (k : Nat) (O : List Lt) : Prop where
  ln : O.length ≤ 2 * k
  sm : Small 4 O
  fr : ∀ o, o ∈ O → fm o ∈ X.map fm
  al : ∀ j x, j < k → X[j]? = some x → fm x ∈ O.map fm
theorem Oth.ins {X O : List Lt} {k : Nat} {x y : Lt} (h : Oth X k O) (hx : X[k]? = some x) (e : fm y = fm x) (hd : y.2.d ≤ 4) (i : Nat) : Oth X (k + 1) (O.take i ++ [y] ++ O.drop i) ∧ (O.take i ++ [y] ++ O.drop i).length ≤ 2 * k + 1 := by
  have ll : (O.take i ++ [y] ++ O.drop i).length = O.length + 1 := by
    rw [List.length_append, List.length_append, List.length_take, List.length_drop, List.length_singleton]; omega
  have mem : ∀ o, o ∈ O.take i ++ [y] ++ O.drop i ↔ o ∈ O ∨ o = y := fun o => by
    have : o ∈ O ↔ o ∈ O.take i ∨ o ∈ O.drop i := by
      rw [← List.mem_append, List.take_append_drop]
    rw [this]
    simp only [List.mem_append, List.mem_singleton]
    constructor
    · rintro ((a | a) | a)
      · exact .inl (.inl a)
      · exact .inr a
      · exact .inl (.inr a)
    · rintro ((a | a) | a)
      · exact .inl (.inl a)
      · exact .inr a
      · exact .inl (.inr a)
  have hln := h.ln
  refine ⟨⟨by omega, fun o ho => ?_, fun o ho => ?_, fun j z hj hz => ?_⟩, by omega⟩
  · rcases (mem o).mp ho with ho | rfl
    · exact h.sm o ho
    · exact hd
  · rcases (mem o).mp ho with ho | rfl
    · exact h.fr o ho
    · rw [e]; exact List.mem_map.mpr ⟨x, List.mem_of_getElem? hx, rfl⟩
  · by_cases hk : j < k
    · obtain ⟨o, ho, e2⟩ := List.mem_map.mp (h.al j z hk hz)
      exact List.mem_map.mpr ⟨o, (mem o).mpr (.inl ho), e2⟩
    · have : j = k := by omega
      subst this
      rw [hx] at hz; cases hz
      exact List.mem_map.mpr ⟨y, (mem y).mpr (.inr rfl), e⟩
theorem Oth.app {X O : List Lt} {k : Nat} {z : Lt} (h : Oth X (k + 1) O) (hl : O.length ≤ 2 * k + 1) (hz : z ∈ X) (hd : z.2.d ≤ 4) : Oth X (k + 1) (O ++ [z]) := by
  refine ⟨by rw [List.length_append, List.length_singleton]; omega, fun o ho => ?_, fun o ho => ?_, fun j x hj hx => ?_⟩
  · rcases List.mem_append.mp ho with ho | ho
    · exact h.sm o ho
    · simp at ho; subst ho; exact hd
  · rcases List.mem_append.mp ho with ho | ho
    · exact h.fr o ho
    · simp at ho; subst ho; exact List.mem_map.mpr ⟨o, hz, rfl⟩
  · rw [List.map_append]; exact List.mem_append_left _ (h.al j x hj hx)
theorem Oth.same {X O : List Lt} (h : Oth X X.length O) (a : Lt) : a ∈ O.map fm ↔ a ∈ X.map fm := by
  constructor
  · intro ha
    obtain ⟨o, ho, rfl⟩ := List.mem_map.mp ha
    exact h.fr o ho
  · intro ha
    obtain ⟨x, hx, rfl⟩ := List.mem_map.mp ha
    obtain ⟨j, hj, e⟩ := List.mem_iff_getElem.mp hx
    exact h.al j x hj (by rw [List.getElem?_eq_getElem hj, e])
theorem other_turn (n : Nat) (hn : 10 ≤ n) (X O : List Lt) (k : Nat) (hk : k < X.length) (hX : X.length ≤ 6) (sX : Small 4 X) (h : Oth X k O) :
    Dr (bnd (mV (oB gIx (.v (.fl (X.map litF))) (.v (.int (k : Nat))))) fun law_literal_here_10 => (bnd (mAnd (bnd (oB gIx (.v law_literal_here_10) (.v (.int 2))) fun t_11 => (oC (gQ true) t_11 (.v c_TOP))) (bnd ((T n).d_law_take (.ref 0) (.int 2)) fun t_12 => (oC (gQ false) t_12 (.v (.int 1))))) fun c_13 => seqN (if c_13 = true then (bnd (mV (bnd (mV (oB gIx (.v law_literal_here_10) (.v (.int 0)))) fun v_25 => (bnd (mV (oB gIx (.v law_literal_here_10) (.v (.int 2)))) fun v_26 => (bnd (mV (oB gIx (.v law_literal_here_10) (.v (.int 1)))) fun v_27 => (oTup [v_25, v_26, v_27]))))) fun law_literal_here_28 => (pur (.nx law_literal_here_28))) else (pur (.nx law_literal_here_10))) (fun law_literal_here_14 => (bnd (mV (bnd (mV (bnd (oU gLen (.bl (O.map litF))) fun t_16 => (oB gAdd t_16 (.v (.int 1))))) fun v_17 => ((T n).d_law_take (.ref 0) v_17))) fun v_24 => (bnd (oIns (O.map litF) v_24 law_literal_here_14) fun law_other_15 => (bnd (bnd ((T n).d_law_take (.ref 0) (.int 3)) fun t_18 => (oC (gQ false) t_18 (.v (.int 0)))) fun c_19 => if c_19 = true then (bnd (mV (bnd (bnd (mV (oU gLen (.v (.fl (X.map litF))))) fun v_21 => ((T n).d_law_take (.ref 0) v_21)) fun t_22 => (oB gIx (.v (.fl (X.map litF))) t_22))) fun v_23 => (bnd (oApp law_other_15 v_23) fun law_other_20 => (pur (.nx law_other_20)))) else (pur (.nx law_other_15))))))) : M (Fl (List FV) (List FV)))
      (fun r => ∃ a', r = .nx a' ∧ ∃ O', a' = O'.map litF ∧ Oth X (k + 1) O') 4 := by
  obtain ⟨n, rfl⟩ : ∃ k, n = k + 1 := ⟨n - 1, by omega⟩
  obtain ⟨x, hx, e1, e2⟩ := pick (e := litF) (base := X) hk
  have xd := sX x hx
  have hln := h.ln
  rw [e1, mV_v, bnd_pur]
  refine Dr.bnd (Z := fun c => c = true → isE x.2 = true) (c := 1) (d := 3) ?_ (fun c hc => ?_) (Nat.le_refl _)
  · have q1 := q_top (neg := true) x.2.rr
    rw [lit_2, bnd_pur, q1, if_pos rfl]
    cases hq : isE x.2 with
    | false =>
      rw [decide_eq_true (rr_top hq), Bool.not_true, mAnd_f]
      exact (Dr.pur fun z => nomatch z).up (Nat.zero_le _)
    | true =>
      have ne : ¬ x.2.rr = topT := by
        obtain ⟨s, q⟩ := x
        cases q with
        | e t u => exact u.ne
        | _ => cases hq
      rw [decide_eq_false ne, Bool.not_false, mAnd_t]
      refine Dr.bnd (take_dr n 2 (by decide)) (d := 0) (fun r ⟨i, hi, e⟩ => ?_) (Nat.le_refl _)
      subst e
      rw [q_ii]
      exact Dr.pur fun _ => rfl
  have ixs : (mV (bnd (mV (oB gIx (.v (litF x)) (.v (.int 0)))) fun v_25 => (bnd (mV (oB gIx (.v (litF x)) (.v (.int 2)))) fun v_26 => (bnd (mV (oB gIx (.v (litF x)) (.v (.int 1)))) fun v_27 => (oTup [v_25, v_26, v_27]))))) = pur (.tup [.bl x.1, x.2.rr.fv, x.2.l.fv]) := by
    simp only [lit_0, lit_1, lit_2, mV_v, bnd_pur, tup_3]
  rw [ixs, bnd_pur]
  have sq : ∀ {v : FV} {K : FV → M (Fl (List FV) (List FV))}, (seqN (pur (.nx v) : M (Fl FV (List FV))) K) = K v := fun {v K} => rfl
  have rest : ∀ y : Lt, fm y = fm x → y.2.d ≤ 4 → Dr (bnd (mV (bnd (mV (bnd (oU gLen (.bl (O.map litF))) fun t_16 => (oB gAdd t_16 (.v (.int 1))))) fun v_17 => ((T (n + 1)).d_law_take (.ref 0) v_17))) fun v_24 => (bnd (oIns (O.map litF) v_24 (litF y)) fun law_other_15 => (bnd (bnd ((T (n + 1)).d_law_take (.ref 0) (.int 3)) fun t_18 => (oC (gQ false) t_18 (.v (.int 0)))) fun c_19 => if c_19 = true then (bnd (mV (bnd (bnd (mV (oU gLen (.v (.fl (X.map litF))))) fun v_21 => ((T (n + 1)).d_law_take (.ref 0) v_21)) fun t_22 => (oB gIx (.v (.fl (X.map litF))) t_22))) fun v_23 => (bnd (oApp law_other_15 v_23) fun law_other_20 => (pur (.nx law_other_20)))) else (pur (.nx law_other_15)))) : M (Fl (List FV) (List FV)))
      (fun r => ∃ a', r = .nx a' ∧ ∃ O', a' = O'.map litF ∧ Oth X (k + 1) O') 3 := fun y ey yd => by
    have l1 : (((O.map litF).length : Int) + 1) = ((O.length + 1 : Nat) : Int) := by rw [List.length_map]; omega
    simp only [len_bl, bnd_pur, add_ii, mV_v, l1]
    refine Dr.bnd (take_mV n (O.length + 1) (Nat.succ_pos _)) (d := 2) (fun v ⟨i, hi, e⟩ => ?_) (Nat.le_refl _)
    subst e
    have ins : oIns (O.map litF) (.int (i : Nat)) (litF y) = pur ((O.take i ++ [y] ++ O.drop i).map litF) := by
      unfold oIns
      dsimp only
      rw [if_pos (by exact ⟨by omega, by omega, by rw [List.length_map]; show _ < 16000000; omega⟩), Int.toNat_natCast, List.map_append, List.map_append, List.map_take, List.map_drop]; rfl
    obtain ⟨h1, h2⟩ := h.ins e2 ey yd i
    rw [ins, bnd_pur, bnd_bnd]
    refine Dr.bnd (take_dr n 3 (by decide)) (d := 1) (fun r ⟨j, hj, e⟩ => ?_) (Nat.le_refl _)
    subst e
    rw [q_ii, bnd_pur]
    refine Dr.ite (fun _ => ?_) fun _ => (Dr.pur ⟨_, rfl, _, rfl, h1⟩).up (Nat.zero_le _)
    rw [len_f, mV_v, bnd_pur, List.length_map, mV_bnd, bnd_bnd]
    refine Dr.bnd (take_dr n X.length (by omega)) (d := 0) (fun r ⟨j, hj, e⟩ => ?_) (Nat.le_refl _)
    subst e
    obtain ⟨z, hz, ez, _⟩ := pick (e := litF) (base := X) hj
    have ap : oApp ((O.take i ++ [y] ++ O.drop i).map litF) (litF z) = pur (((O.take i ++ [y] ++ O.drop i) ++ [z]).map litF) := by
      rw [app_lt (by rw [List.length_map]; omega), List.map_append (l₂ := [z])]; rfl
    rw [ez, mV_v, bnd_pur, ap, bnd_pur]
    exact Dr.pur ⟨_, rfl, _, rfl, h1.app h2 hz (sX z hz)⟩
  cases c with
  | false =>
    rw [if_neg Bool.false_ne_true, sq]
    exact rest x rfl xd
  | true =>
    rw [if_pos rfl, sq]
    obtain ⟨s, q⟩ := x
    have hq := hc rfl
    cases q with
    | e t u =>
      have hd : max t.d u.d ≤ 4 := xd
      exact rest (s, .e u t) (fm_swap s t u) (by show max u.d t.d ≤ 4; omega)
    | _ => cases hq
end Q87
namespace Q87
open PySem P
/-! the law's own lists -/
theorem mk_list (n : Nat) (Y : List Lt) (hn : 30 ≤ n) (hs : Small 20 Y) (hl : Y.length ≤ 1000) : filL (item some (fun _ => pur true) fun one => (bnd (mV (oB gIx (.v one) (.v (.int 0)))) fun v_32 => (bnd (mV (oB gIx (.v one) (.v (.int 1)))) fun v_33 => (bnd (mV (oB gIx (.v one) (.v (.int 2)))) fun v_34 => ((T n).d_make_literal v_32 v_33 v_34))))) (Y.map litF) = pur (.l ((Y.map fm).map litF)) := by
  rw [List.map_map]
  exact filL_all (e := litF) (f := litF ∘ fm) (xs := Y) (fun l hl => by
    rw [item_some (x := litF l) rfl, bnd_pur, if_pos rfl]
    simp only [lit_0, lit_1, lit_2, mV_v, bnd_pur]
    have := hs l hl
    rw [(make_ok l.1 l.2 n (by omega) this).1, mV_v, bnd_pur]; rfl) (by omega)
theorem q_tups (C : List Lt) (h : Small 50 C) : oC (gQ true) (.v (.tup (C.map litF))) (.v (.tup (C.map litF))) = pur false := by
  have pu := encL.pus C
  have dp := encL.dps C h
  have : (FV.tup (C.map litF)).pure = true := by rw [FV.pure]; exact pu
  rw [q_vv this this (by rw [FV.py, PyData.depth]; omega), if_pos rfl, PySem.SeqAt.eqv_refl_plain _ FV.py_plain]; rfl
theorem dv_pure {x : FV} (h : x.pure = true) (s : FH) : (RV.v x).dv s = some (.p x.py) := by
  show x.dv s 3 = _; unfold FV.dv; rw [if_pos h]
theorem dv_lp {ds : List FV} (h : FV.pures ds = true) (s : FH) : (RV.l ds).dv s = some (.p (.list (FV.pys ds))) ∧ (RV.bl ds).dv s = some (.p (.list (FV.pys ds))) ∧ (RV.v (.fl ds)).dv s = some (.p (.list (FV.pys ds))) := by
  refine ⟨if_pos h, if_pos h, ?_⟩
  rw [dv_pure (by rw [FV.pure]; exact h), FV.py]
theorem q_lists {neg : Bool} {x y : RV} {ds : List FV} (h : FV.pures ds = true) (hd : PyData.depthAll (FV.pys ds) ≤ 60) (hx : ∀ s, x.dv s = some (.p (.list (FV.pys ds)))) (hy : ∀ s, y.dv s = some (.p (.list (FV.pys ds)))) : oC (gQ neg) x y = pur (!neg) :=
  q_data hx hy (by rw [PyData.depth]; omega) (by rw [PyData.plain]; exact FV.pys_plain)
theorem txt_dep (ys : List Str) : FV.pures (ys.map txF) = true ∧ PyData.depthAll (FV.pys (ys.map txF)) ≤ 60 := ⟨encS.pus ys, encS.dps ys fun _ _ => trivial⟩
theorem tm_dep : ∀ ts : List Tm, (∀ t, t ∈ ts → t.dep ≤ 50) → FV.pures (ts.map Tm.fv) = true ∧ PyData.depthAll (FV.pys (ts.map Tm.fv)) ≤ 60
  | [], _ => ⟨rfl, by simp [FV.pys, PyData.depthAll]⟩
  | t :: ts, h => by
    obtain ⟨h1, h2⟩ := tm_dep ts fun u hu => h u (List.mem_cons_of_mem _ hu)
    have h3 := h t List.mem_cons_self
    refine ⟨by rw [List.map_cons, FV.pures, fv_pure, h1]; rfl, ?_⟩
    rw [List.map_cons, FV.pys, PyData.depthAll, fv_depth]; omega
/-- the names, as the law lists them -/
theorem names_loop (n : Nat) (C : List Lt) (hn : 40 ≤ n) (hs : Small 20 C) (hl : C.length ≤ 1000) : (forN (fun law_names_here_63 law_literal_here_62 => (bnd (bnd (mV (bnd (bnd (mV (oB gIx (.v law_literal_here_62) (.v (.int 1)))) fun v_64 => ((T n).d_law_names v_64)) fun t_66 => (bnd (bnd (mV (oB gIx (.v law_literal_here_62) (.v (.int 2)))) fun v_65 => ((T n).d_law_names v_65)) fun t_67 => (oB gAdd t_66 t_67)))) fun v_68 => (oW v_68)) fun xs_74 => seqN (forN (fun law_names_here_70 law_name_69 => (bnd (oC (gMx true) (.v law_name_69) (.bl law_names_here_70)) fun c_71 => if c_71 = true then (bnd (oApp law_names_here_70 law_name_69) fun law_names_here_72 => (pur (.nx law_names_here_72))) else (pur (.nx law_names_here_70)))) xs_74 law_names_here_63) (fun law_names_here_73 => (pur (.nx law_names_here_73))))) (C.map litF) [] : M (Fl (List FV) Empty)) = pur (.nx ((UN C).map txF)) := by
  have lp : ∀ (F : List FV → FV → M (Fl (List FV) (List FV))) (hF : ∀ (acc : List Str) (l : Lt), l.2.d ≤ 20 → acc.length ≤ 50000 → F (acc.map txF) (litF l) = pur (.nx (((qn l.2).foldl addD acc).map txF))) (C : List Lt) (acc : List Str), Small 20 C → acc.length + 10 * C.length ≤ 50000 →
      (forN F (C.map litF) (acc.map txF) : M (Fl (List FV) Empty)) = pur (.nx (((C.flatMap fun l => qn l.2).foldl addD acc).map txF)) := fun F hF C => by
    induction C with
    | nil => intro acc _ _; rfl
    | cons l C ih =>
      intro acc hs hl
      rw [List.length_cons] at hl
      obtain ⟨b1, b2⟩ := lnm_len l.2
      have l3 := len_fold (qn l.2) acc
      have lq : (qn l.2).length ≤ 3 := by unfold qn; rw [List.length_append]; omega
      rw [List.map_cons, forN_cons, hF acc l (hs l List.mem_cons_self) (by omega), bnd_pur, List.flatMap_cons, List.foldl_append]
      exact ih _ (fun a ha => hs a (List.mem_cons_of_mem _ ha)) (by omega)
  refine (lp _ (fun acc l hd hacc => ?_) C [] hs (by show 0 + _ ≤ _; omega)).trans rfl
  obtain ⟨⟨⟨r1, a1, i1⟩, _⟩, ⟨r2, a2, i2⟩, _⟩ := q_names l.2 n (by omega) hd
  obtain ⟨b1, b2⟩ := lnm_len l.2
  have ad := add_isL i1 i2 (by rw [List.length_map, List.length_map]; omega)
  have inn := dd_walk encS (fun _ _ => .inr trivial) (β := List FV) (F := fun law_names_here_70 law_name_69 => (bnd (oC (gMx true) (.v law_name_69) (.bl law_names_here_70)) fun c_71 => if c_71 = true then (bnd (oApp law_names_here_70 law_name_69) fun law_names_here_72 => (pur (.nx law_names_here_72))) else (pur (.nx law_names_here_70)))) (fun acc a ha hl => by
    have := encS.mx (neg := true) (a := a) (xs := acc) (y := .bl (acc.map txF)) (b := false) ha (fun z h => nomatch h) fun _ => rfl
    rw [if_pos rfl] at this
    rw [this]
    exact add_turn acc a hl) (qn l.2) acc (fun _ _ => trivial) (by unfold qn; rw [List.length_append]; omega)
  simp only [lit_1, lit_2, mV_v, bnd_pur, a1, a2, ad, mV_l, oW_fl]
  rw [← List.map_append, show lnm l.2 ++ rnm l.2 = qn l.2 from rfl, inn]
  rfl
section
variable {D : FV} {σ : Bool → Option U}
theorem filled_list (n : Nat) (C : List Lt) (hD : IsD D σ) (hn : 30 ≤ n) (hs : Small 20 C) (hl : C.length ≤ 1000) : filL (item some (fun _ => pur true) fun one => (bnd (mV (oB gIx (.v one) (.v (.int 0)))) fun v_91 => (bnd (mV (bnd (mV (oB gIx (.v one) (.v (.int 1)))) fun v_89 => ((T n).d_law_filled v_89 D))) fun v_92 => (bnd (mV (bnd (mV (oB gIx (.v one) (.v (.int 2)))) fun v_90 => ((T n).d_law_filled v_90 D))) fun v_93 => (oTup [v_91, v_92, v_93]))))) (C.map litF) = pur (.l ((C.map (gl σ)).map litF)) := by
  rw [List.map_map]
  exact filL_all (e := litF) (f := litF ∘ gl σ) (xs := C) (fun l hl => by
    have := hs l hl
    obtain ⟨⟨_, f1⟩, _, f2⟩ := q_fill hD l.2 n (by omega)
    rw [item_some (x := litF l) rfl, bnd_pur, if_pos rfl]
    simp only [lit_0, lit_1, lit_2, mV_v, bnd_pur, f1, f2, tup_3]
    rfl) (by omega)
theorem left_list (n : Nat) (C : List Lt) (hD : IsD D σ) (hn : 30 ≤ n) (hs : Small 20 C) (hl : C.length ≤ 1000) : filL (item some (fun _ => pur true) fun one => (bnd (mV (oB gIx (.v one) (.v (.int 1)))) fun v_97 => ((T n).d_fill_term v_97 D))) (C.map litF) = pur (.l ((C.map fun l => (flQ σ l.2).l).map Tm.fv)) := by
  rw [List.map_map]
  exact filL_all (e := litF) (f := fun l => (flQ σ l.2).l.fv) (xs := C) (fun l hl => by
    have := hs l hl
    obtain ⟨⟨f1, _⟩, _⟩ := q_fill hD l.2 n (by omega)
    rw [item_some (x := litF l) rfl, bnd_pur, if_pos rfl]
    simp only [lit_1, mV_v, bnd_pur, f1]) (by omega)
end
theorem left_ix (σ : Bool → Option U) (C : List Lt) (hl : C.length ≤ 1000) : filL (item some (fun _ => pur true) fun one => (oB gIx (.v one) (.v (.int 1)))) ((C.map (gl σ)).map litF) = pur (.l ((C.map fun l => (flQ σ l.2).l).map Tm.fv)) := by
  rw [List.map_map, List.map_map]
  exact filL_all (e := litF ∘ gl σ) (f := fun l => (flQ σ l.2).l.fv) (xs := C) (fun l hl => by
    rw [item_some (x := (litF ∘ gl σ) l) rfl, bnd_pur, if_pos rfl]
    show bnd (mV (oB gIx (.v (litF (gl σ l))) _)) _ = _
    rw [lit_1, mV_v, bnd_pur]; rfl) (by omega)
/-- the last loop -/
theorem either_loop (n : Nat) (C : List Lt) (hn : 10 ≤ n) (hs : Small 20 C) : (forN (fun law_either_109 law_literal_here_108 => (bnd (mV (bnd (mV (bnd (oB gIx (.v law_literal_here_108) (.v (.int 0))) fun t_110 => (oNotV t_110))) fun v_111 => (bnd (mV (oB gIx (.v law_literal_here_108) (.v (.int 1)))) fun v_112 => (bnd (mV (oB gIx (.v law_literal_here_108) (.v (.int 2)))) fun v_113 => (oTup [v_111, v_112, v_113]))))) fun law_turned_114 => (bnd (bnd ((T n).d_opposite law_literal_here_108) fun t_115 => (oC (gQ true) t_115 (.v law_turned_114))) fun c_116 => if c_116 = true then ret (pur (.v (.bl false))) else (bnd (mOr (oC (gMx false) (.v law_turned_114) (.v (.tup (C.map litF)))) (mAnd (bnd (oB gIx (.v law_literal_here_108) (.v (.int 0))) fun t_117 => (oT t_117)) (bnd (oB gIx (.v law_literal_here_108) (.v (.int 1))) fun t_118 => (bnd (oB gIx (.v law_literal_here_108) (.v (.int 2))) fun t_119 => (oC (gQ false) t_118 t_119))))) fun c_120 => if c_120 = true then (bnd (pur (.bl true)) fun law_either_121 => (pur (.nx law_either_121))) else (pur (.nx law_either_109)))))) (C.map litF) (.bl false) : M (Fl FV Empty)) = pur (.nx (.bl (C.any (pA C)))) := by
  have lp : ∀ (F : FV → FV → M (Fl FV FV)) (hF : ∀ (b : Bool) (l : Lt), l ∈ C → F (.bl b) (litF l) = pur (.nx (.bl (b || pA C l)))) (xs : List Lt) (b : Bool), (∀ l, l ∈ xs → l ∈ C) →
      (forN F (xs.map litF) (.bl b) : M (Fl FV Empty)) = pur (.nx (.bl (b || xs.any (pA C)))) := fun F hF xs => by
    induction xs with
    | nil => intro b _; rw [List.any_nil, Bool.or_false]; rfl
    | cons x xs ih =>
      intro b h
      rw [List.map_cons, forN_cons, hF b x (h x List.mem_cons_self), bnd_pur, List.any_cons, ← Bool.or_assoc]
      exact ih _ fun l hl => h l (List.mem_cons_of_mem _ hl)
  refine (lp _ (fun b l hl => ?_) C false fun l hl => hl).trans (by rw [Bool.false_or])
  have hd := hs l hl
  have q1 := q_tt (neg := false) (t := l.2.l) (u := l.2.rr) (by have := l.2.dl; omega)
  rw [if_neg Bool.false_ne_true] at q1
  have mx := encL.mx (neg := false) (a := op l) (xs := C) (y := .v (.tup (C.map litF))) (b := true) (show (op l).2.d ≤ 50 from (by show l.2.d ≤ 50; omega)) (litR _) fun _ => rfl
  rw [if_neg Bool.false_ne_true] at mx
  have oo := opp_ok l n (by omega)
  have qo := encL.q (neg := true) (a := op l) (b := op l) (show (op l).2.d ≤ 50 from (by show l.2.d ≤ 50; omega))
  rw [if_pos rfl, decide_eq_true rfl] at qo
  have eo : FV.tup [.bl (!l.1), l.2.l.fv, l.2.rr.fv] = litF (op l) := rfl
  simp only [lit_0, lit_1, lit_2, oNotV_bl, mV_v, bnd_pur, tup_3, eo, oo, qo, Bool.not_true, Bool.false_eq_true, if_false, mx, oT_bl, q1, mAnd_pp, mOr_pp]
  unfold pA
  rw [Bool.or_comm (memD (op l) C)]
  cases ((l.1 && decide (l.2.l = l.2.rr)) || memD (op l) C) with
  | true => rw [if_pos rfl, Bool.or_true]
  | false => rw [if_neg Bool.false_ne_true, Bool.or_false]
end Q87
namespace Q87
open PySem P
theorem Small.mono {a b : Nat} {xs : List Lt} (h : Small a xs) (l : a ≤ b) : Small b xs := fun x hx => Nat.le_trans (h x hx) l
theorem LC_small {X : List Lt} {m : Nat} (h : Small m X) : Small m (LC X) := fun l hl => by
  obtain ⟨x, hx, rfl⟩ := List.mem_map.mp (mem_LC.mp hl)
  rw [fm_d]; exact h x hx
theorem LC_len (X : List Lt) : (LC X).length ≤ X.length := by
  unfold LC
  rw [len_srt]
  have := (dd_sub (X.map fm)).length_le
  rwa [List.length_map] at this
/-- a dict as the law makes it -/
def IsK (kvs : List (L2.Key × FV)) (σ : Bool → Option U) : Prop := ∀ b, lookK kvs (keyS (vn b)) = (σ b).map uF
theorem isD_of {kvs : List (L2.Key × FV)} {σ : Bool → Option U} (h : IsK kvs σ) : IsD (frzD kvs) σ := ⟨kvs.map (·.1), kvs.map (·.2), rfl, fun b => by rw [zip_parts]; exact h b⟩
theorem xy : ¬ ("x" : Str) = "y" := by decide +kernel
theorem k_one (a : U) : IsK [(keyS "x", uF a)] (fun b => if b = true then none else some a) := fun b => by
  have e : lookK (embA uF [("x", a)]) (keyS (vn b)) = (lookA [("x", a)] (vn b)).map uF := look_emb (e := uF) (vn b) [("x", a)]
  refine (show lookK [(keyS "x", uF a)] (keyS (vn b)) = _ from e).trans ?_
  congr 1
  cases b with
  | false => simp [lookA, vn]
  | true => simp [lookA, vn, xy]
theorem k_two (a c : U) : putF [(keyS "x", uF a)] (keyS "y") (uF c) = embA uF [("x", a), ("y", c)] ∧ IsK (embA uF [("x", a), ("y", c)]) (fun b => if b = true then some c else some a) := by
  refine ⟨?_, fun b => ?_⟩
  · have e : putF (embA uF [("x", a)]) (keyS "y") (uF c) = embA uF (putA [("x", a)] "y" c) := put_emb (e := uF) "y" c [("x", a)]
    refine (show putF [(keyS "x", uF a)] (keyS "y") (uF c) = _ from e).trans ?_
    rw [put_new (by simp [lookA, xy])]; rfl
  · rw [look_emb]
    congr 1
    cases b with
    | false => simp [lookA, vn]
    | true => simp [lookA, vn, xy]
/-- the filling drawn -/
theorem filling_dr (n : Nat) (hn : 20 ≤ n) {R : Type} {K : List (L2.Key × FV) → M (Fl Unit Empty)} {Q : Fl Unit Empty → Prop} (hK : ∀ kvs σ, IsK kvs σ → (∀ b u, σ b = some u → u.d ≤ 5) → Dr (K kvs) Q 0) :
    Dr (bnd (mD (bnd (mV ((T n).d_law_term (.ref 0) (.int 2))) fun v_82 => (oDis [(.inr "x", v_82)]))) fun law_filling_84 => (bnd (bnd ((T n).d_law_take (.ref 0) (.int 2)) fun t_85 => (oC (gQ false) t_85 (.v (.int 1)))) fun c_86 => seqN (if c_86 = true then (bnd (mV ((T n).d_law_term (.ref 0) (.int 1))) fun v_127 => (bnd (oPut law_filling_84 (.v (.str "y")) v_127) fun law_filling_126 => (pur (.nx law_filling_126)))) else (pur (.nx law_filling_84))) K)) Q 11 := by
  obtain ⟨n, rfl⟩ : ∃ k, n = k + 1 := ⟨n - 1, by omega⟩
  have t1 : Dr (mV ((T (n + 1)).d_law_term (.ref 0) (.int 1))) (UV 1) 4 := UQ.mV (term_dr 1 (n + 1) (by omega))
  have t2 : Dr (mV ((T (n + 1)).d_law_term (.ref 0) (.int 2))) (UV 2) 6 := UQ.mV (term_dr 2 (n + 1) (by omega))
  rw [show ∀ (m : M FV) (k : FV → M RV), mD (bnd m k) = bnd m fun a => mD (k a) from fun m k => bnd_bnd _ _ _, bnd_bnd]
  refine Dr.bnd t2 (d := 5) (fun v ⟨a, e, ha⟩ => ?_) (Nat.le_refl _)
  subst e
  have d1 : oDis [(.inr "x", uF a)] = pur (.d [(keyS "x", uF a)]) := dis_1 _ _
  rw [d1, show mD (pur (.d [(keyS "x", uF a)])) = pur [(keyS "x", uF a)] from rfl, bnd_pur, bnd_bnd]
  refine Dr.bnd (take_dr n 2 (by decide)) (d := 4) (fun r ⟨i, hi, e⟩ => ?_) (Nat.le_refl _)
  subst e
  rw [q_ii, bnd_pur]
  refine Dr.seq (Z := fun kvs => ∃ σ, IsK kvs σ ∧ ∀ b u, σ b = some u → u.d ≤ 5) (c := 4) (d := 0) ?_ (fun kvs ⟨σ, h1, h2⟩ => hK kvs σ h1 h2) (Nat.le_refl _)
  have base : ∃ σ, IsK [(keyS "x", uF a)] σ ∧ ∀ b u, σ b = some u → u.d ≤ 5 := ⟨_, k_one a, fun b u e => by
    cases b with
    | true => cases e
    | false => cases e; omega⟩
  refine Dr.ite (fun _ => ?_) fun _ => (Dr.nx (Z := fun kvs => ∃ σ, IsK kvs σ ∧ ∀ b u, σ b = some u → u.d ≤ 5) rfl base).up (Nat.zero_le _)
  refine Dr.bnd t1 (d := 0) (fun w ⟨c, e, hc⟩ => ?_) (Nat.le_refl _)
  subst e
  obtain ⟨p1, p2⟩ := k_two a c
  have pt : oPut [(keyS "x", uF a)] (.v (.str "y")) (uF c) = pur (embA uF [("x", a), ("y", c)]) := by
    rw [← p1]; rfl
  rw [pt, bnd_pur]
  exact Dr.nx (Z := fun kvs => ∃ σ, IsK kvs σ ∧ ∀ b u, σ b = some u → u.d ≤ 5) rfl ⟨_, p2, fun b u e => by
    cases b with
    | true => cases e; omega
    | false => cases e; omega⟩
theorem Dr.eqb {α β : Type} {m : M α} {a : α} {k : α → M β} {Q : β → Prop} {c : Nat} (e : m = pur a) (h : Dr (k a) Q c) : Dr (bnd m k) Q c := by
  rw [e, bnd_pur]; exact h
theorem Dr.eqs {α γ : Type} {m : M (Fl α Empty)} {a : α} {k : α → M (Fl γ Empty)} {Q : Fl γ Empty → Prop} {c : Nat} (e : m = pur (.nx a)) (h : Dr (k a) Q c) : Dr (seqN m k) Q c := by
  rw [e, seqN_nx]; exact h
theorem Dr.no {α : Type} {m n : M α} {Q : α → Prop} {c : Nat} (h : Dr n Q c) : Dr (if false = true then m else n) Q c := by
  rw [if_neg Bool.false_ne_true]; exact h
/-- the law behind the start -/
theorem law_body (n : Nat) (hn : 60 ≤ n) (v : FV) : ∃ R : FV → M (Fl Unit Empty), n_law (T n) v = bnd (mT ((T n).d_law_start v)) R ∧ Dr (R (.ref 0)) (RtQ fun r => r = .v (.bl true)) 200 := by
  refine ⟨_, rfl, ?_⟩
  refine Dr.bnd (lits_dr n (by omega)) (d := 115) (fun w ⟨X, e, hX, sX⟩ => ?_) (Nat.le_refl _)
  subst e
  rw [lst_nil, mL_l, bnd_pur]
  refine Dr.eqb (a := rngL 0 X.length) (by rw [len_f, bnd_pur, List.length_map, r1_i (by omega) (by omega), Int.toNat_natCast]) ?_
  refine Dr.seq (Z := fun a => ∃ O, a = O.map litF ∧ Oth X X.length O) (c := 24) (d := 91) ?_ (fun a ⟨O, e, hO⟩ => ?_) (Nat.le_refl _)
  · refine (Dr.forR (top := X.length) (I := fun k a => ∃ O, a = O.map litF ∧ Oth X k O) (c := 4) (fun k a hk ⟨O, e, hO⟩ => ?_) X.length 0 [] (Nat.zero_add _) ⟨[], rfl, Nat.zero_le _, fun l hl => (nomatch hl), fun o ho => (nomatch ho), fun j x hj _ => absurd hj (Nat.not_lt_zero _)⟩).up (by omega)
    subst e
    exact other_turn n (by omega) X O k hk hX sX hO
  subst e
  have s20 := sX.mono (show 4 ≤ 20 by omega)
  have oln := hO.ln
  have osm := hO.sm.mono (show 4 ≤ 20 by omega)
  have C4 := LC_small sX
  have cln := LC_len X
  have F1 := law_clause n X (by omega) s20 (by omega)
  have F2 := mk_list n X (by omega) s20 (by omega)
  have F2' := mk_list n O (by omega) osm (by omega)
  have fms : ∀ {Y : List Lt}, Small 20 Y → Small 20 (Y.map fm) := fun h l hl => by
    obtain ⟨x, hx, rfl⟩ := List.mem_map.mp hl
    rw [fm_d]; exact h x hx
  have F3 := make_clause n (X.map fm) (.fl ((X.map fm).map litF)) (b := false) (fun _ => rfl) (by omega) (fms s20) (by rw [List.length_map]; omega)
  have F4 := make_clause n (O.map fm) (.tup ((O.map fm).map litF)) (b := true) (fun _ => rfl) (by omega) (fms osm) (by rw [List.length_map]; omega)
  rw [mc_lc (ys := X) fun a => Iff.rfl] at F3
  rw [mc_lc (ys := X) fun a => hO.same a] at F4
  generalize LC X = C at *
  have C10 := C4.mono (show 4 ≤ 10 by omega)
  have C20 := C4.mono (show 4 ≤ 20 by omega)
  have cl : C.length ≤ 1000 := by omega
  have Q1 := q_tups C (C4.mono (by omega))
  obtain ⟨F5, F6⟩ := texts_ok n C (by omega) C20 cl
  have Q2 := q_lists (neg := true) (x := .l ((C.map ltx).map txF)) (y := .v (.fl ((C.map ltx).map txF))) (txt_dep _).1 (txt_dep _).2 (fun s => (dv_lp (txt_dep _).1 s).1) (fun s => (dv_lp (txt_dep _).1 s).2.2)
  have F7 := clause_text n C (by omega) C20 cl
  have jo := join_or (C.map ltx) (ltx_small C20) (by rw [List.length_map]; exact cl) (r := .v (.fl ((C.map ltx).map txF))) (b := false) fun _ => rfl
  have F8 := names_loop n C (by omega) C20 cl
  have F9 := is_ground n C (by omega) C20 cl
  have F10 := clause_unk n C (by omega) C20 cl
  have Q3 := q_lists (neg := true) (x := .l ((UN C).map txF)) (y := .bl ((UN C).map txF)) (txt_dep _).1 (txt_dep _).2 (fun s => (dv_lp (txt_dep _).1 s).1) (fun s => (dv_lp (txt_dep _).1 s).2.1)
  have F11 := either_loop n C (by omega) C20
  have F12 := always n C (by omega) C20
  have el : decide (((UN C).length : Int) = 0) = decide ((UN C).length = 0) := decide_eq_decide.mpr (by omega)

  refine Dr.eqb (a := .tup (C.map litF)) (by rw [F1, mV_v]) ?_
  refine Dr.eqb (a := false) (by simp only [oW_fl, bnd_pur, F2, mV_l, F3, Q1]) (Dr.no ?_)
  refine Dr.eqb (a := false) (by simp only [oW_fl, bnd_pur, F2', tup_l, mV_v, F4, Q1]) (Dr.no ?_)
  refine Dr.eqb (a := .fl ((C.map ltx).map txF)) (by simp only [oW_tup, bnd_pur, F6, mV_l]) ?_
  refine Dr.eqb (a := false) (by simp only [oW_tup, bnd_pur, F5, Q2, Bool.not_true]) (Dr.no ?_)
  rw [bnd_pur]
  refine Dr.eqb (a := decide ((0 : Int) < (((C.map ltx).map txF).length : Int))) (by simp only [len_f, bnd_pur, gt_ii]) ?_
  refine Dr.eqs (a := .str (CT C)) ?_ ?_
  · rw [List.length_map, List.length_map]
    unfold CT
    by_cases h0 : C.length = 0
    · rw [if_pos h0, decide_eq_false (by omega), if_neg Bool.false_ne_true]
    · rw [if_neg h0, decide_eq_true (by omega), if_pos rfl, jo, mV_v, bnd_pur]
  refine Dr.eqb (a := false) (by simp only [F7, bnd_pur, q_ss, if_true, decide_true, Bool.not_true]) (Dr.no ?_)
  rw [bnd_pur, oW_tup, bnd_pur]
  refine Dr.eqs F8 ?_
  refine Dr.eqb (a := .bl (decide ((UN C).length = 0))) (by rw [F9, mV_v]) ?_
  refine Dr.eqb (a := false) (by simp only [F10, bnd_pur, Q3, Bool.not_true, mOr_f, is_bb, oT_bl, mNot_pur, len_bl, List.length_map, q_ii, Bool.false_eq_true, if_false, el, mB_pur, q_bb, if_true, decide_true]) (Dr.no ?_)
  refine (filling_dr n (by omega) (R := Unit) fun kvs σ hk hσ => ?_).up (by omega)
  have hD := isD_of hk
  have G1 := filled_list n C hD (by omega) C20 cl
  have G2 := left_list n C hD (by omega) C20 cl
  have G3 := left_ix σ C cl
  have G4 := fill_clause n C hD hσ (by omega) C10 cl
  have g20 : Small 20 (C.map (gl σ)) := fun l hl => by
    obtain ⟨x, hx, rfl⟩ := List.mem_map.mp hl
    have := flQ_d hσ x.2
    have := C4 x hx
    show (flQ σ x.2).d ≤ 20
    omega
  have G5 := law_clause n (C.map (gl σ)) (by omega) g20 (by rw [List.length_map]; exact cl)
  rw [mc_lc (ys := C.map (gl σ)) fun a => by rw [List.map_map]; exact Iff.rfl] at G4
  have Q5 := q_tups (LC (C.map (gl σ))) ((LC_small g20).mono (by omega))
  have td := tm_dep (C.map fun l => (flQ σ l.2).l) fun x hx => by
    obtain ⟨l, hl, rfl⟩ := List.mem_map.mp hx
    have := flQ_d hσ l.2
    have := C4 l hl
    have := (flQ σ l.2).dl
    omega
  have Q4 := q_lists (neg := true) (x := .l ((C.map fun l => (flQ σ l.2).l).map Tm.fv)) (y := .l ((C.map fun l => (flQ σ l.2).l).map Tm.fv)) td.1 td.2 (fun s => (dv_lp td.1 s).1) (fun s => (dv_lp td.1 s).1)
  refine Dr.eqb (a := .fl ((C.map (gl σ)).map litF)) (by simp only [oW_tup, bnd_pur, G1, mV_l]) ?_
  refine Dr.eqb (a := false) (by simp only [oW_tup, oW_fl, bnd_pur, G2, G3, Q4, Bool.not_true]) (Dr.no ?_)
  refine Dr.eqb (a := false) (by simp only [G4, G5, bnd_pur, Q5]) (Dr.no ?_)
  rw [bnd_pur, bnd_pur]
  refine Dr.eqs F11 ?_
  refine Dr.eqb (a := .bl (C.any (pA C))) (by rw [F12, mV_v]) ?_
  exact Dr.of (a := .rt (.v (.bl true))) (by simp only [is_bb, bnd_pur, oAndV_t, q_bb, Bool.false_eq_true, if_false, decide_true, mB_pur, ret_pur]) rfl
end Q87
namespace Q87
open PySem P
theorem start_eq (n : Nat) (v : FV) : (T (n + 1)).d_law_start v = gcM (toF (startN v)) := by rw [T__law_start]; rfl
theorem law_gen (n : Nat) (hn : 60 ≤ n) (ns : List Int) (hns : ns.length ≤ 63) : (T (n + 1 + 1)).d_law (.sl (ns.map .int)) [] = .ok (.v (.bl true)) [] := by
  obtain ⟨row, sd, hs⟩ := start_ok ns hns
  have e0 : (T (n + 1)).d_law_start (.sl (ns.map .int)) = pur (.l [.fl (row.map .int), .int 0, .int sd]) := by rw [start_eq, hs]
  have e1 : mT ((T (n + 1)).d_law_start (.sl (ns.map .int))) [] = .ok (.ref 0) [(DS.mk row 0 sd).ob] := by rw [e0]; rfl
  obtain ⟨R, h1, h2⟩ := law_body (n + 1) (by omega) (.sl (ns.map .int))
  obtain ⟨r1, s1, a1, a2, a3⟩ := h2.toF ⟨row, 0, sd⟩ [] rfl (by show 0 + 200 ≤ 2 ^ 60; decide)
  subst a3
  rw [T_law, h1]
  have e2 : toF (bnd (mT ((T (n + 1)).d_law_start (.sl (ns.map .int)))) R) [] = .ok (.v (.bl true)) [s1.ob] := by
    rw [toF_bnd, bnd_ok e1]
    exact a1
  exact gc_val e2 rfl rfl fun i z => nomatch z
theorem f1_at (f : FV → M RV) (x : FV) (h : FH) : P.f1 f [x] h = f x h := rfl
theorem law_at (m : Nat) (hm : m = 98 + 1 + 1) (ns : List Int) (hns : ns.length ≤ 63) : ∃ h', P.f1 (T m).d_law [.sl (ns.map .int)] [] = .ok (.v (.bl true)) h' := by
  subst hm
  refine ⟨[], ?_⟩
  rw [f1_at]
  exact law_gen 98 (by decide) ns hns
theorem law_true (ns : List Int) (hns : ns.length ≤ 63) : ∃ h', P.f1 (T 100).d_law [.sl (ns.map .int)] [] = .ok (.v (.bl true)) h' := law_at 100 (by decide) ns hns
end Q87
namespace Q87
open PySem PySem.Spec PyProof.Rows L2 G P
theorem all_mk {l : PySem.W.OpenLaw} {w : World} {K : PySem.W.Frag} {h : Heap} {mg : Str → Option Value} {fa : Addr} (X : K.In h) (GN : h.Ns mainGlobals mg) (hfa : mg "law" = some (.ref fa))
    {f1 f2 f3 f4 f5 f6 f7 f8 f9 f10 f11 f12 f13 f14 f15 f16 f17 f18 f19 f20 f21 f22 f23 f24 f25 f26 : Addr} {od1 an1 od2 an2 od3 an3 od4 an4 od5 an5 od6 an6 od7 an7 od8 an8 od9 an9 od10 an10 od11 an11 od12 an12 od13 an13 od14 an14 od15 an15 od16 an16 od17 an17 od18 an18 od19 an19 od20 an20 od21 an21 od22 an22 od23 an23 od24 an24 od25 an25 od26 an26 : Option Addr} {sl1 sl2 sl3 sl4 sl5 sl6 sl7 sl8 sl9 sl10 sl11 sl12 sl13 sl14 sl15 sl16 sl17 sl18 sl19 sl20 sl21 sl22 sl23 sl24 sl25 sl26 : Array (Option Value)} {oc1 kV1 dc1 pm1 cd1 ct1 oc2 kV2 dc2 pm2 cd2 ct2 oc3 kV3 dc3 pm3 cd3 ct3 oc4 kV4 dc4 pm4 cd4 ct4 oc5 kV5 dc5 pm5 cd5 ct5 oc6 kV6 dc6 pm6 cd6 ct6 oc7 kV7 dc7 pm7 cd7 ct7 oc8 kV8 dc8 pm8 cd8 ct8 oc9 kV9 dc9 pm9 cd9 ct9 oc10 kV10 dc10 pm10 cd10 ct10 oc11 kV11 dc11 pm11 cd11 ct11 oc12 kV12 dc12 pm12 cd12 ct12 oc13 kV13 dc13 pm13 cd13 ct13 oc14 kV14 dc14 pm14 cd14 ct14 oc15 kV15 dc15 pm15 cd15 ct15 oc16 kV16 dc16 pm16 cd16 ct16 oc17 kV17 dc17 pm17 cd17 ct17 oc18 kV18 dc18 pm18 cd18 ct18 oc19 kV19 dc19 pm19 cd19 ct19 oc20 kV20 dc20 pm20 cd20 ct20 oc21 kV21 dc21 pm21 cd21 ct21 oc22 kV22 dc22 pm22 cd22 ct22 oc23 kV23 dc23 pm23 cd23 ct23 oc24 kV24 dc24 pm24 cd24 ct24 oc25 kV25 dc25 pm25 cd25 ct25 oc26 kV26 dc26 pm26 cd26 ct26 : Value}
    (a1 : PySem.W.nsIn K mainGlobals "unknowns_of" = some (some (.ref f1))) (l1 : K.lookup f1 = some ⟨oc1, od1, .func (PySem.W.fnOf "unknowns_of" "unknowns_of" (defArgs s_unknowns_of) (defBody s_unknowns_of) (defScope s_unknowns_of) .none kV1 dc1 pm1 an1 cd1 ct1), sl1⟩) (c1 : PySem.W.codeIn K cd1 "unknowns_of" = true) (k1 : PySem.W.keepIn K (.ref f1) = true)
    (a2 : PySem.W.nsIn K mainGlobals "fill_term" = some (some (.ref f2))) (l2 : K.lookup f2 = some ⟨oc2, od2, .func (PySem.W.fnOf "fill_term" "fill_term" (defArgs s_fill_term) (defBody s_fill_term) (defScope s_fill_term) .none kV2 dc2 pm2 an2 cd2 ct2), sl2⟩) (c2 : PySem.W.codeIn K cd2 "fill_term" = true) (k2 : PySem.W.keepIn K (.ref f2) = true)
    (a3 : PySem.W.nsIn K mainGlobals "term_text" = some (some (.ref f3))) (l3 : K.lookup f3 = some ⟨oc3, od3, .func (PySem.W.fnOf "term_text" "term_text" (defArgs s_term_text) (defBody s_term_text) (defScope s_term_text) .none kV3 dc3 pm3 an3 cd3 ct3), sl3⟩) (c3 : PySem.W.codeIn K cd3 "term_text" = true) (k3 : PySem.W.keepIn K (.ref f3) = true)
    (a4 : PySem.W.nsIn K mainGlobals "_arguments" = some (some (.ref f4))) (l4 : K.lookup f4 = some ⟨oc4, od4, .func (PySem.W.fnOf "_arguments" "_arguments" (defArgs s__arguments) (defBody s__arguments) (defScope s__arguments) .none kV4 dc4 pm4 an4 cd4 ct4), sl4⟩) (c4 : PySem.W.codeIn K cd4 "_arguments" = true) (k4 : PySem.W.keepIn K (.ref f4) = true)
    (a5 : PySem.W.nsIn K mainGlobals "_all_parts" = some (some (.ref f5))) (l5 : K.lookup f5 = some ⟨oc5, od5, .func (PySem.W.fnOf "_all_parts" "_all_parts" (defArgs s__all_parts) (defBody s__all_parts) (defScope s__all_parts) .none kV5 dc5 pm5 an5 cd5 ct5), sl5⟩) (c5 : PySem.W.codeIn K cd5 "_all_parts" = true) (k5 : PySem.W.keepIn K (.ref f5) = true)
    (a6 : PySem.W.nsIn K mainGlobals "make_literal" = some (some (.ref f6))) (l6 : K.lookup f6 = some ⟨oc6, od6, .func (PySem.W.fnOf "make_literal" "make_literal" (defArgs s_make_literal) (defBody s_make_literal) (defScope s_make_literal) .none kV6 dc6 pm6 an6 cd6 ct6), sl6⟩) (c6 : PySem.W.codeIn K cd6 "make_literal" = true) (k6 : PySem.W.keepIn K (.ref f6) = true)
    (a7 : PySem.W.nsIn K mainGlobals "literal_text" = some (some (.ref f7))) (l7 : K.lookup f7 = some ⟨oc7, od7, .func (PySem.W.fnOf "literal_text" "literal_text" (defArgs s_literal_text) (defBody s_literal_text) (defScope s_literal_text) .none kV7 dc7 pm7 an7 cd7 ct7), sl7⟩) (c7 : PySem.W.codeIn K cd7 "literal_text" = true) (k7 : PySem.W.keepIn K (.ref f7) = true)
    (a8 : PySem.W.nsIn K mainGlobals "opposite" = some (some (.ref f8))) (l8 : K.lookup f8 = some ⟨oc8, od8, .func (PySem.W.fnOf "opposite" "opposite" (defArgs s_opposite) (defBody s_opposite) (defScope s_opposite) .none kV8 dc8 pm8 an8 cd8 ct8), sl8⟩) (c8 : PySem.W.codeIn K cd8 "opposite" = true) (k8 : PySem.W.keepIn K (.ref f8) = true)
    (a9 : PySem.W.nsIn K mainGlobals "make_clause" = some (some (.ref f9))) (l9 : K.lookup f9 = some ⟨oc9, od9, .func (PySem.W.fnOf "make_clause" "make_clause" (defArgs s_make_clause) (defBody s_make_clause) (defScope s_make_clause) .none kV9 dc9 pm9 an9 cd9 ct9), sl9⟩) (c9 : PySem.W.codeIn K cd9 "make_clause" = true) (k9 : PySem.W.keepIn K (.ref f9) = true)
    (a10 : PySem.W.nsIn K mainGlobals "fill_clause" = some (some (.ref f10))) (l10 : K.lookup f10 = some ⟨oc10, od10, .func (PySem.W.fnOf "fill_clause" "fill_clause" (defArgs s_fill_clause) (defBody s_fill_clause) (defScope s_fill_clause) .none kV10 dc10 pm10 an10 cd10 ct10), sl10⟩) (c10 : PySem.W.codeIn K cd10 "fill_clause" = true) (k10 : PySem.W.keepIn K (.ref f10) = true)
    (a11 : PySem.W.nsIn K mainGlobals "clause_text" = some (some (.ref f11))) (l11 : K.lookup f11 = some ⟨oc11, od11, .func (PySem.W.fnOf "clause_text" "clause_text" (defArgs s_clause_text) (defBody s_clause_text) (defScope s_clause_text) .none kV11 dc11 pm11 an11 cd11 ct11), sl11⟩) (c11 : PySem.W.codeIn K cd11 "clause_text" = true) (k11 : PySem.W.keepIn K (.ref f11) = true)
    (a12 : PySem.W.nsIn K mainGlobals "clause_unknowns" = some (some (.ref f12))) (l12 : K.lookup f12 = some ⟨oc12, od12, .func (PySem.W.fnOf "clause_unknowns" "clause_unknowns" (defArgs s_clause_unknowns) (defBody s_clause_unknowns) (defScope s_clause_unknowns) .none kV12 dc12 pm12 an12 cd12 ct12), sl12⟩) (c12 : PySem.W.codeIn K cd12 "clause_unknowns" = true) (k12 : PySem.W.keepIn K (.ref f12) = true)
    (a13 : PySem.W.nsIn K mainGlobals "is_ground" = some (some (.ref f13))) (l13 : K.lookup f13 = some ⟨oc13, od13, .func (PySem.W.fnOf "is_ground" "is_ground" (defArgs s_is_ground) (defBody s_is_ground) (defScope s_is_ground) .none kV13 dc13 pm13 an13 cd13 ct13), sl13⟩) (c13 : PySem.W.codeIn K cd13 "is_ground" = true) (k13 : PySem.W.keepIn K (.ref f13) = true)
    (a14 : PySem.W.nsIn K mainGlobals "always_true" = some (some (.ref f14))) (l14 : K.lookup f14 = some ⟨oc14, od14, .func (PySem.W.fnOf "always_true" "always_true" (defArgs s_always_true) (defBody s_always_true) (defScope s_always_true) .none kV14 dc14 pm14 an14 cd14 ct14), sl14⟩) (c14 : PySem.W.codeIn K cd14 "always_true" = true) (k14 : PySem.W.keepIn K (.ref f14) = true)
    (a15 : PySem.W.nsIn K mainGlobals "_fill_literal" = some (some (.ref f15))) (l15 : K.lookup f15 = some ⟨oc15, od15, .func (PySem.W.fnOf "_fill_literal" "_fill_literal" (defArgs s__fill_literal) (defBody s__fill_literal) (defScope s__fill_literal) .none kV15 dc15 pm15 an15 cd15 ct15), sl15⟩) (c15 : PySem.W.codeIn K cd15 "_fill_literal" = true) (k15 : PySem.W.keepIn K (.ref f15) = true)
    (a16 : PySem.W.nsIn K mainGlobals "_law_start" = some (some (.ref f16))) (l16 : K.lookup f16 = some ⟨oc16, od16, .func (PySem.W.fnOf "_law_start" "_law_start" (defArgs s__law_start) (defBody s__law_start) (defScope s__law_start) .none kV16 dc16 pm16 an16 cd16 ct16), sl16⟩) (c16 : PySem.W.codeIn K cd16 "_law_start" = true) (k16 : PySem.W.keepIn K (.ref f16) = true)
    (a17 : PySem.W.nsIn K mainGlobals "_law_take" = some (some (.ref f17))) (l17 : K.lookup f17 = some ⟨oc17, od17, .func (PySem.W.fnOf "_law_take" "_law_take" (defArgs s__law_take) (defBody s__law_take) (defScope s__law_take) .none kV17 dc17 pm17 an17 cd17 ct17), sl17⟩) (c17 : PySem.W.codeIn K cd17 "_law_take" = true) (k17 : PySem.W.keepIn K (.ref f17) = true)
    (a18 : PySem.W.nsIn K mainGlobals "_law_term" = some (some (.ref f18))) (l18 : K.lookup f18 = some ⟨oc18, od18, .func (PySem.W.fnOf "_law_term" "_law_term" (defArgs s__law_term) (defBody s__law_term) (defScope s__law_term) .none kV18 dc18 pm18 an18 cd18 ct18), sl18⟩) (c18 : PySem.W.codeIn K cd18 "_law_term" = true) (k18 : PySem.W.keepIn K (.ref f18) = true)
    (a19 : PySem.W.nsIn K mainGlobals "_law_literal" = some (some (.ref f19))) (l19 : K.lookup f19 = some ⟨oc19, od19, .func (PySem.W.fnOf "_law_literal" "_law_literal" (defArgs s__law_literal) (defBody s__law_literal) (defScope s__law_literal) .none kV19 dc19 pm19 an19 cd19 ct19), sl19⟩) (c19 : PySem.W.codeIn K cd19 "_law_literal" = true) (k19 : PySem.W.keepIn K (.ref f19) = true)
    (a20 : PySem.W.nsIn K mainGlobals "_law_text" = some (some (.ref f20))) (l20 : K.lookup f20 = some ⟨oc20, od20, .func (PySem.W.fnOf "_law_text" "_law_text" (defArgs s__law_text) (defBody s__law_text) (defScope s__law_text) .none kV20 dc20 pm20 an20 cd20 ct20), sl20⟩) (c20 : PySem.W.codeIn K cd20 "_law_text" = true) (k20 : PySem.W.keepIn K (.ref f20) = true)
    (a21 : PySem.W.nsIn K mainGlobals "_law_formed" = some (some (.ref f21))) (l21 : K.lookup f21 = some ⟨oc21, od21, .func (PySem.W.fnOf "_law_formed" "_law_formed" (defArgs s__law_formed) (defBody s__law_formed) (defScope s__law_formed) .none kV21 dc21 pm21 an21 cd21 ct21), sl21⟩) (c21 : PySem.W.codeIn K cd21 "_law_formed" = true) (k21 : PySem.W.keepIn K (.ref f21) = true)
    (a22 : PySem.W.nsIn K mainGlobals "_law_said" = some (some (.ref f22))) (l22 : K.lookup f22 = some ⟨oc22, od22, .func (PySem.W.fnOf "_law_said" "_law_said" (defArgs s__law_said) (defBody s__law_said) (defScope s__law_said) .none kV22 dc22 pm22 an22 cd22 ct22), sl22⟩) (c22 : PySem.W.codeIn K cd22 "_law_said" = true) (k22 : PySem.W.keepIn K (.ref f22) = true)
    (a23 : PySem.W.nsIn K mainGlobals "_law_clause" = some (some (.ref f23))) (l23 : K.lookup f23 = some ⟨oc23, od23, .func (PySem.W.fnOf "_law_clause" "_law_clause" (defArgs s__law_clause) (defBody s__law_clause) (defScope s__law_clause) .none kV23 dc23 pm23 an23 cd23 ct23), sl23⟩) (c23 : PySem.W.codeIn K cd23 "_law_clause" = true) (k23 : PySem.W.keepIn K (.ref f23) = true)
    (a24 : PySem.W.nsIn K mainGlobals "_law_filled" = some (some (.ref f24))) (l24 : K.lookup f24 = some ⟨oc24, od24, .func (PySem.W.fnOf "_law_filled" "_law_filled" (defArgs s__law_filled) (defBody s__law_filled) (defScope s__law_filled) .none kV24 dc24 pm24 an24 cd24 ct24), sl24⟩) (c24 : PySem.W.codeIn K cd24 "_law_filled" = true) (k24 : PySem.W.keepIn K (.ref f24) = true)
    (a25 : PySem.W.nsIn K mainGlobals "_law_names" = some (some (.ref f25))) (l25 : K.lookup f25 = some ⟨oc25, od25, .func (PySem.W.fnOf "_law_names" "_law_names" (defArgs s__law_names) (defBody s__law_names) (defScope s__law_names) .none kV25 dc25 pm25 an25 cd25 ct25), sl25⟩) (c25 : PySem.W.codeIn K cd25 "_law_names" = true) (k25 : PySem.W.keepIn K (.ref f25) = true)
    (a26 : PySem.W.nsIn K mainGlobals "law" = some (some (.ref f26))) (l26 : K.lookup f26 = some ⟨oc26, od26, .func (PySem.W.fnOf "law" "law" (defArgs s_law) (defBody s_law) (defScope s_law) .none kV26 dc26 pm26 an26 cd26 ct26), sl26⟩) (c26 : PySem.W.codeIn K cd26 "law" = true) (k26 : PySem.W.keepIn K (.ref f26) = true)
    (z1 : PySem.W.nsIn K mainGlobals "isinstance" = some none)
    (z2 : PySem.W.nsIn K mainGlobals "str" = some none)
    (z3 : PySem.W.nsIn K mainGlobals "list" = some none)
    (z4 : PySem.W.nsIn K mainGlobals "tuple" = some none)
    (z5 : PySem.W.nsIn K mainGlobals "len" = some none)
    (z6 : PySem.W.nsIn K mainGlobals "sorted" = some none)
    (z7 : PySem.W.nsIn K mainGlobals "range" = some none)
    (z8 : PySem.W.nsIn K mainGlobals "abs" = some none)
    (z9 : PySem.W.nsIn K mainGlobals "int" = some none)
    (z10 : PySem.W.nsIn K mainGlobals "bool" = some none)
    {ga1 : Addr} {go1 : Obj} (y1 : PySem.W.nsIn K mainGlobals "TOP" = some (some (.ref ga1))) (yl1 : K.lookup ga1 = some go1) (yt1 : tupOf go1 [""] = true)
    : ∃ fd : FuncData, (∀ (s : Shared) (v : Value), BindsTo s fd ⟨[v], []⟩ [("_law_script", v)]) ∧ ∀ base : Heap, K.In base → base.Ns mainGlobals mg → FnOk l.prog w K mg base (L2.CX l.prog w) 200 fa fd ["_law_script"] (spP ⟨K, mg⟩ (_root_.P.f1 (T 100).d_law)) := by
  have e := hfa.symm.trans (PySem.W.mg_of X GN a26)
  cases e
  have F1 := fun_mk (st := s_unknowns_of) l1 c1 k1
  have b1 := F1.binds (ps := ["term"]) fun _ _ _ _ _ _ us hl => match us, hl with | [_], _ => rfl
  have m1 := PySem.W.mg_of X GN a1
  have F2 := fun_mk (st := s_fill_term) l2 c2 k2
  have b2 := F2.binds (ps := ["term", "filling"]) fun _ _ _ _ _ _ us hl => match us, hl with | [_, _], _ => rfl
  have m2 := PySem.W.mg_of X GN a2
  have F3 := fun_mk (st := s_term_text) l3 c3 k3
  have b3 := F3.binds (ps := ["term"]) fun _ _ _ _ _ _ us hl => match us, hl with | [_], _ => rfl
  have m3 := PySem.W.mg_of X GN a3
  have F4 := fun_mk (st := s__arguments) l4 c4 k4
  have b4 := F4.binds (ps := ["term"]) fun _ _ _ _ _ _ us hl => match us, hl with | [_], _ => rfl
  have m4 := PySem.W.mg_of X GN a4
  have F5 := fun_mk (st := s__all_parts) l5 c5 k5
  have b5 := F5.binds (ps := ["term"]) fun _ _ _ _ _ _ us hl => match us, hl with | [_], _ => rfl
  have m5 := PySem.W.mg_of X GN a5
  have F6 := fun_mk (st := s_make_literal) l6 c6 k6
  have b6 := F6.binds (ps := ["sign", "left", "right"]) fun _ _ _ _ _ _ us hl => match us, hl with | [_, _, _], _ => rfl
  have m6 := PySem.W.mg_of X GN a6
  have F7 := fun_mk (st := s_literal_text) l7 c7 k7
  have b7 := F7.binds (ps := ["literal"]) fun _ _ _ _ _ _ us hl => match us, hl with | [_], _ => rfl
  have m7 := PySem.W.mg_of X GN a7
  have F8 := fun_mk (st := s_opposite) l8 c8 k8
  have b8 := F8.binds (ps := ["literal"]) fun _ _ _ _ _ _ us hl => match us, hl with | [_], _ => rfl
  have m8 := PySem.W.mg_of X GN a8
  have F9 := fun_mk (st := s_make_clause) l9 c9 k9
  have b9 := F9.binds (ps := ["literals"]) fun _ _ _ _ _ _ us hl => match us, hl with | [_], _ => rfl
  have m9 := PySem.W.mg_of X GN a9
  have F10 := fun_mk (st := s_fill_clause) l10 c10 k10
  have b10 := F10.binds (ps := ["clause", "filling"]) fun _ _ _ _ _ _ us hl => match us, hl with | [_, _], _ => rfl
  have m10 := PySem.W.mg_of X GN a10
  have F11 := fun_mk (st := s_clause_text) l11 c11 k11
  have b11 := F11.binds (ps := ["clause"]) fun _ _ _ _ _ _ us hl => match us, hl with | [_], _ => rfl
  have m11 := PySem.W.mg_of X GN a11
  have F12 := fun_mk (st := s_clause_unknowns) l12 c12 k12
  have b12 := F12.binds (ps := ["clause"]) fun _ _ _ _ _ _ us hl => match us, hl with | [_], _ => rfl
  have m12 := PySem.W.mg_of X GN a12
  have F13 := fun_mk (st := s_is_ground) l13 c13 k13
  have b13 := F13.binds (ps := ["clause"]) fun _ _ _ _ _ _ us hl => match us, hl with | [_], _ => rfl
  have m13 := PySem.W.mg_of X GN a13
  have F14 := fun_mk (st := s_always_true) l14 c14 k14
  have b14 := F14.binds (ps := ["clause"]) fun _ _ _ _ _ _ us hl => match us, hl with | [_], _ => rfl
  have m14 := PySem.W.mg_of X GN a14
  have F15 := fun_mk (st := s__fill_literal) l15 c15 k15
  have b15 := F15.binds (ps := ["literal", "filling"]) fun _ _ _ _ _ _ us hl => match us, hl with | [_, _], _ => rfl
  have m15 := PySem.W.mg_of X GN a15
  have F16 := fun_mk (st := s__law_start) l16 c16 k16
  have b16 := F16.binds (ps := ["_law_script"]) fun _ _ _ _ _ _ us hl => match us, hl with | [_], _ => rfl
  have m16 := PySem.W.mg_of X GN a16
  have F17 := fun_mk (st := s__law_take) l17 c17 k17
  have b17 := F17.binds (ps := ["_law_state", "_law_many"]) fun _ _ _ _ _ _ us hl => match us, hl with | [_, _], _ => rfl
  have m17 := PySem.W.mg_of X GN a17
  have F18 := fun_mk (st := s__law_term) l18 c18 k18
  have b18 := F18.binds (ps := ["_law_state", "_law_depth"]) fun _ _ _ _ _ _ us hl => match us, hl with | [_, _], _ => rfl
  have m18 := PySem.W.mg_of X GN a18
  have F19 := fun_mk (st := s__law_literal) l19 c19 k19
  have b19 := F19.binds (ps := ["_law_state"]) fun _ _ _ _ _ _ us hl => match us, hl with | [_], _ => rfl
  have m19 := PySem.W.mg_of X GN a19
  have F20 := fun_mk (st := s__law_text) l20 c20 k20
  have b20 := F20.binds (ps := ["_law_term_here"]) fun _ _ _ _ _ _ us hl => match us, hl with | [_], _ => rfl
  have m20 := PySem.W.mg_of X GN a20
  have F21 := fun_mk (st := s__law_formed) l21 c21 k21
  have b21 := F21.binds (ps := ["_law_literal_here"]) fun _ _ _ _ _ _ us hl => match us, hl with | [_], _ => rfl
  have m21 := PySem.W.mg_of X GN a21
  have F22 := fun_mk (st := s__law_said) l22 c22 k22
  have b22 := F22.binds (ps := ["_law_literal_here"]) fun _ _ _ _ _ _ us hl => match us, hl with | [_], _ => rfl
  have m22 := PySem.W.mg_of X GN a22
  have F23 := fun_mk (st := s__law_clause) l23 c23 k23
  have b23 := F23.binds (ps := ["_law_literals"]) fun _ _ _ _ _ _ us hl => match us, hl with | [_], _ => rfl
  have m23 := PySem.W.mg_of X GN a23
  have F24 := fun_mk (st := s__law_filled) l24 c24 k24
  have b24 := F24.binds (ps := ["_law_term_here", "_law_filling"]) fun _ _ _ _ _ _ us hl => match us, hl with | [_, _], _ => rfl
  have m24 := PySem.W.mg_of X GN a24
  have F25 := fun_mk (st := s__law_names) l25 c25 k25
  have b25 := F25.binds (ps := ["_law_term_here"]) fun _ _ _ _ _ _ us hl => match us, hl with | [_], _ => rfl
  have m25 := PySem.W.mg_of X GN a25
  have F26 := fun_mk (st := s_law) l26 c26 k26
  have b26 := F26.binds (ps := ["_law_script"]) fun _ _ _ _ _ _ us hl => match us, hl with | [_], _ => rfl
  have m26 := PySem.W.mg_of X GN a26
  have n1 := PySem.W.mg_none_of X GN z1
  have n2 := PySem.W.mg_none_of X GN z2
  have n3 := PySem.W.mg_none_of X GN z3
  have n4 := PySem.W.mg_none_of X GN z4
  have n5 := PySem.W.mg_none_of X GN z5
  have n6 := PySem.W.mg_none_of X GN z6
  have n7 := PySem.W.mg_none_of X GN z7
  have n8 := PySem.W.mg_none_of X GN z8
  have n9 := PySem.W.mg_none_of X GN z9
  have n10 := PySem.W.mg_none_of X GN z10
  have q1 : GC K mg "TOP" c_TOP := gc_tup (PySem.W.mg_of X GN y1) yl1 yt1
  refine ⟨PySem.W.fnOf "law" "law" (defArgs s_law) (defBody s_law) (defScope s_law) .none kV26 dc26 pm26 an26 cd26 ct26, fun s v => .of_eq rfl, fun base _ _ => ?_⟩
  have all : ∀ n, HasF l.prog w K mg base (2 * n) "unknowns_of" ["term"] (_root_.P.f1 (T n).d_unknowns_of) ∧ HasF l.prog w K mg base (2 * n) "fill_term" ["term", "filling"] (_root_.P.f2 (T n).d_fill_term) ∧ HasF l.prog w K mg base (2 * n) "term_text" ["term"] (_root_.P.f1 (T n).d_term_text) ∧ HasF l.prog w K mg base (2 * n) "_arguments" ["term"] (_root_.P.f1 (T n).d_arguments) ∧ HasF l.prog w K mg base (2 * n) "_all_parts" ["term"] (_root_.P.f1 (T n).d_all_parts) ∧ HasF l.prog w K mg base (2 * n) "make_literal" ["sign", "left", "right"] (_root_.P.f3 (T n).d_make_literal) ∧ HasF l.prog w K mg base (2 * n) "literal_text" ["literal"] (_root_.P.f1 (T n).d_literal_text) ∧ HasF l.prog w K mg base (2 * n) "opposite" ["literal"] (_root_.P.f1 (T n).d_opposite) ∧ HasF l.prog w K mg base (2 * n) "make_clause" ["literals"] (_root_.P.f1 (T n).d_make_clause) ∧ HasF l.prog w K mg base (2 * n) "fill_clause" ["clause", "filling"] (_root_.P.f2 (T n).d_fill_clause) ∧ HasF l.prog w K mg base (2 * n) "clause_text" ["clause"] (_root_.P.f1 (T n).d_clause_text) ∧ HasF l.prog w K mg base (2 * n) "clause_unknowns" ["clause"] (_root_.P.f1 (T n).d_clause_unknowns) ∧ HasF l.prog w K mg base (2 * n) "is_ground" ["clause"] (_root_.P.f1 (T n).d_is_ground) ∧ HasF l.prog w K mg base (2 * n) "always_true" ["clause"] (_root_.P.f1 (T n).d_always_true) ∧ HasF l.prog w K mg base (2 * n) "_fill_literal" ["literal", "filling"] (_root_.P.f2 (T n).d_fill_literal) ∧ HasF l.prog w K mg base (2 * n) "_law_start" ["_law_script"] (_root_.P.f1 (T n).d_law_start) ∧ HasF l.prog w K mg base (2 * n) "_law_take" ["_law_state", "_law_many"] (_root_.P.f2 (T n).d_law_take) ∧ HasF l.prog w K mg base (2 * n) "_law_term" ["_law_state", "_law_depth"] (_root_.P.f2 (T n).d_law_term) ∧ HasF l.prog w K mg base (2 * n) "_law_literal" ["_law_state"] (_root_.P.f1 (T n).d_law_literal) ∧ HasF l.prog w K mg base (2 * n) "_law_text" ["_law_term_here"] (_root_.P.f1 (T n).d_law_text) ∧ HasF l.prog w K mg base (2 * n) "_law_formed" ["_law_literal_here"] (_root_.P.f1 (T n).d_law_formed) ∧ HasF l.prog w K mg base (2 * n) "_law_said" ["_law_literal_here"] (_root_.P.f1 (T n).d_law_said) ∧ HasF l.prog w K mg base (2 * n) "_law_clause" ["_law_literals"] (_root_.P.f1 (T n).d_law_clause) ∧ HasF l.prog w K mg base (2 * n) "_law_filled" ["_law_term_here", "_law_filling"] (_root_.P.f2 (T n).d_law_filled) ∧ HasF l.prog w K mg base (2 * n) "_law_names" ["_law_term_here"] (_root_.P.f1 (T n).d_law_names) ∧ HasF l.prog w K mg base (2 * n) "law" ["_law_script"] (_root_.P.f1 (T n).d_law) := fun n => by
    induction n with
    | zero => exact ⟨hasNo_of fNo_f1 m1 F1.kp b1, hasNo_of fNo_f2 m2 F2.kp b2, hasNo_of fNo_f1 m3 F3.kp b3, hasNo_of fNo_f1 m4 F4.kp b4, hasNo_of fNo_f1 m5 F5.kp b5, hasNo_of fNo_f3 m6 F6.kp b6, hasNo_of fNo_f1 m7 F7.kp b7, hasNo_of fNo_f1 m8 F8.kp b8, hasNo_of fNo_f1 m9 F9.kp b9, hasNo_of fNo_f2 m10 F10.kp b10, hasNo_of fNo_f1 m11 F11.kp b11, hasNo_of fNo_f1 m12 F12.kp b12, hasNo_of fNo_f1 m13 F13.kp b13, hasNo_of fNo_f1 m14 F14.kp b14, hasNo_of fNo_f2 m15 F15.kp b15, hasNo_of fNo_f1 m16 F16.kp b16, hasNo_of fNo_f2 m17 F17.kp b17, hasNo_of fNo_f2 m18 F18.kp b18, hasNo_of fNo_f1 m19 F19.kp b19, hasNo_of fNo_f1 m20 F20.kp b20, hasNo_of fNo_f1 m21 F21.kp b21, hasNo_of fNo_f1 m22 F22.kp b22, hasNo_of fNo_f1 m23 F23.kp b23, hasNo_of fNo_f2 m24 F24.kp b24, hasNo_of fNo_f1 m25 F25.kp b25, hasNo_of fNo_f1 m26 F26.kp b26⟩
    | succ n ih =>
      obtain ⟨h1, h2, h3, h4, h5, h6, h7, h8, h9, h10, h11, h12, h13, h14, h15, h16, h17, h18, h19, h20, h21, h22, h23, h24, h25, h26⟩ := ih
      exact ⟨mk_hasF F1 (((ok_unknowns_of (t := T n) F1 h5 n1 n2 n3).imp fun _ _ _ _ => gc_f1).mono (show 2 * n + 1 ≤ 2 * (n + 1) by omega)) m1 b1,
        mk_hasF F2 (((ok_fill_term (t := T n) F2 h2 n1 n2 n4).imp fun _ _ _ _ => gc_f2).mono (show 2 * n + 1 ≤ 2 * (n + 1) by omega)) m2 b2,
        mk_hasF F3 (((ok_term_text (t := T n) F3 n5 n1 n2 q1).imp fun _ _ _ _ => gc_f1).mono (show 2 * n + 1 ≤ 2 * (n + 1) by omega)) m3 b3,
        mk_hasF F4 (((ok__arguments (t := T n) F4 n1 n2).imp fun _ _ _ _ => gc_f1).mono (show 2 * n + 1 ≤ 2 * (n + 1) by omega)) m4 b4,
        mk_hasF F5 (((ok__all_parts (t := T n) F5 h4 n5).imp fun _ _ _ _ => gc_f1).mono (show 2 * n + 1 ≤ 2 * (n + 1) by omega)) m5 b5,
        mk_hasF F6 (((ok_make_literal (t := T n) F6 h3 q1).imp fun _ _ _ _ => gc_f3).mono (show 2 * n + 1 ≤ 2 * (n + 1) by omega)) m6 b6,
        mk_hasF F7 (((ok_literal_text (t := T n) F7 h3 q1).imp fun _ _ _ _ => gc_f1).mono (show 2 * n + 1 ≤ 2 * (n + 1) by omega)) m7 b7,
        mk_hasF F8 (((ok_opposite (t := T n) F8 ).imp fun _ _ _ _ => gc_f1).mono (show 2 * n + 1 ≤ 2 * (n + 1) by omega)) m8 b8,
        mk_hasF F9 (((ok_make_clause (t := T n) F9 h7 n6 n4).imp fun _ _ _ _ => gc_f1).mono (show 2 * n + 1 + 1 ≤ 2 * (n + 1) by omega)) m9 b9,
        mk_hasF F10 (((ok_fill_clause (t := T n) F10 h9 h15).imp fun _ _ _ _ => gc_f2).mono (show 2 * n + 1 ≤ 2 * (n + 1) by omega)) m10 b10,
        mk_hasF F11 (((ok_clause_text (t := T n) F11 h7 n5).imp fun _ _ _ _ => gc_f1).mono (show 2 * n + 1 ≤ 2 * (n + 1) by omega)) m11 b11,
        mk_hasF F12 (((ok_clause_unknowns (t := T n) F12 h1 n3).imp fun _ _ _ _ => gc_f1).mono (show 2 * n + 1 ≤ 2 * (n + 1) by omega)) m12 b12,
        mk_hasF F13 (((ok_is_ground (t := T n) F13 h12 n5).imp fun _ _ _ _ => gc_f1).mono (show 2 * n + 1 ≤ 2 * (n + 1) by omega)) m13 b13,
        mk_hasF F14 (((ok_always_true (t := T n) F14 h8).imp fun _ _ _ _ => gc_f1).mono (show 2 * n + 1 ≤ 2 * (n + 1) by omega)) m14 b14,
        mk_hasF F15 (((ok__fill_literal (t := T n) F15 h6 h2).imp fun _ _ _ _ => gc_f2).mono (show 2 * n + 1 ≤ 2 * (n + 1) by omega)) m15 b15,
        mk_hasF F16 (((ok__law_start (t := T n) F16 n7 n5 n8 n9).imp fun _ _ _ _ => gc_f1).mono (show 2 * n + 1 ≤ 2 * (n + 1) by omega)) m16 b16,
        mk_hasF F17 (((ok__law_take (t := T n) F17 n5 n9).imp fun _ _ _ _ => gc_f2).mono (show 2 * n + 1 ≤ 2 * (n + 1) by omega)) m17 b17,
        mk_hasF F18 (((ok__law_term (t := T n) F18 h17 h18).imp fun _ _ _ _ => gc_f2).mono (show 2 * n + 1 ≤ 2 * (n + 1) by omega)) m18 b18,
        mk_hasF F19 (((ok__law_literal (t := T n) F19 h17 h18 q1).imp fun _ _ _ _ => gc_f1).mono (show 2 * n + 1 ≤ 2 * (n + 1) by omega)) m19 b19,
        mk_hasF F20 (((ok__law_text (t := T n) F20 h20 n1 n2 n5).imp fun _ _ _ _ => gc_f1).mono (show 2 * n + 1 ≤ 2 * (n + 1) by omega)) m20 b20,
        mk_hasF F21 (((ok__law_formed (t := T n) F21 h20 q1).imp fun _ _ _ _ => gc_f1).mono (show 2 * n + 1 ≤ 2 * (n + 1) by omega)) m21 b21,
        mk_hasF F22 (((ok__law_said (t := T n) F22 h20 q1).imp fun _ _ _ _ => gc_f1).mono (show 2 * n + 1 ≤ 2 * (n + 1) by omega)) m22 b22,
        mk_hasF F23 (((ok__law_clause (t := T n) F23 h21 h22 n4 n6).imp fun _ _ _ _ => gc_f1).mono (show 2 * n + 1 + 1 ≤ 2 * (n + 1) by omega)) m23 b23,
        mk_hasF F24 (((ok__law_filled (t := T n) F24 h24 n1 n2 n4).imp fun _ _ _ _ => gc_f2).mono (show 2 * n + 1 ≤ 2 * (n + 1) by omega)) m24 b24,
        mk_hasF F25 (((ok__law_names (t := T n) F25 h25 n1 n2).imp fun _ _ _ _ => gc_f1).mono (show 2 * n + 1 ≤ 2 * (n + 1) by omega)) m25 b25,
        mk_hasF F26 (((ok_law (t := T n) F26 h16 h17 h19 h23 h9 h6 h22 h7 h11 h25 h13 h12 h18 h24 h2 h10 h8 h14 n7 n5 n4 n1 n10 q1).imp fun _ _ _ _ => gc_f1).mono (show 2 * n + 1 ≤ 2 * (n + 1) by omega)) m26 b26⟩
  obtain ⟨h1, h2, h3, h4, h5, h6, h7, h8, h9, h10, h11, h12, h13, h14, h15, h16, h17, h18, h19, h20, h21, h22, h23, h24, h25, h26⟩ := all 99
  exact ((ok_law (t := T 99) F26 h16 h17 h19 h23 h9 h6 h22 h7 h11 h25 h13 h12 h18 h24 h2 h10 h8 h14 n7 n5 n4 n1 n10 q1).imp fun _ _ _ _ => gc_f1).mono (by decide)
end Q87
open PySem PySem.W PyProof.Rows
set_option maxRecDepth 100000 in
set_option maxHeartbeats 0 in
theorem PySem.Challenge.cw_worldorpaper_k87_one_form_of_a_clause_holds : PySem.Challenge.rw_worldorpaper_k87_one_form_of_a_clause.Holds := by
  w_on; o_law; k_head; (case hw => w_witness2)
  k_fill
  refine P.walkP (l := PySem.Challenge.rw_worldorpaper_k87_one_form_of_a_clause) (k := 200) (f := P.f1 (Q87.T 100).d_law) rfl rfl (fun w h Y => PySem.W.kIn_of Y) ⟨rfl, by decide, by decide⟩ ?F Q87.law_true
  case F =>
    intro w mg fa h KX G hmg
    refine' Q87.all_mk KX G hmg ?a1 ?l1 ?c1 ?k1 ?a2 ?l2 ?c2 ?k2 ?a3 ?l3 ?c3 ?k3 ?a4 ?l4 ?c4 ?k4 ?a5 ?l5 ?c5 ?k5 ?a6 ?l6 ?c6 ?k6 ?a7 ?l7 ?c7 ?k7 ?a8 ?l8 ?c8 ?k8 ?a9 ?l9 ?c9 ?k9 ?a10 ?l10 ?c10 ?k10 ?a11 ?l11 ?c11 ?k11 ?a12 ?l12 ?c12 ?k12 ?a13 ?l13 ?c13 ?k13 ?a14 ?l14 ?c14 ?k14 ?a15 ?l15 ?c15 ?k15 ?a16 ?l16 ?c16 ?k16 ?a17 ?l17 ?c17 ?k17 ?a18 ?l18 ?c18 ?k18 ?a19 ?l19 ?c19 ?k19 ?a20 ?l20 ?c20 ?k20 ?a21 ?l21 ?c21 ?k21 ?a22 ?l22 ?c22 ?k22 ?a23 ?l23 ?c23 ?k23 ?a24 ?l24 ?c24 ?k24 ?a25 ?l25 ?c25 ?k25 ?a26 ?l26 ?c26 ?k26 ?z1 ?z2 ?z3 ?z4 ?z5 ?z6 ?z7 ?z8 ?z9 ?z10 ?y1 ?yl1 ?yt1
    (case a1 => first | k_is | rfl)
    (case l1 => first | k_is | rfl)
    (case c1 => first | k_is | rfl)
    (case k1 => first | k_is | rfl)
    (case a2 => first | k_is | rfl)
    (case l2 => first | k_is | rfl)
    (case c2 => first | k_is | rfl)
    (case k2 => first | k_is | rfl)
    (case a3 => first | k_is | rfl)
    (case l3 => first | k_is | rfl)
    (case c3 => first | k_is | rfl)
    (case k3 => first | k_is | rfl)
    (case a4 => first | k_is | rfl)
    (case l4 => first | k_is | rfl)
    (case c4 => first | k_is | rfl)
    (case k4 => first | k_is | rfl)
    (case a5 => first | k_is | rfl)
    (case l5 => first | k_is | rfl)
    (case c5 => first | k_is | rfl)
    (case k5 => first | k_is | rfl)
    (case a6 => first | k_is | rfl)
    (case l6 => first | k_is | rfl)
    (case c6 => first | k_is | rfl)
    (case k6 => first | k_is | rfl)
    (case a7 => first | k_is | rfl)
    (case l7 => first | k_is | rfl)
    (case c7 => first | k_is | rfl)
    (case k7 => first | k_is | rfl)
    (case a8 => first | k_is | rfl)
    (case l8 => first | k_is | rfl)
    (case c8 => first | k_is | rfl)
    (case k8 => first | k_is | rfl)
    (case a9 => first | k_is | rfl)
    (case l9 => first | k_is | rfl)
    (case c9 => first | k_is | rfl)
    (case k9 => first | k_is | rfl)
    (case a10 => first | k_is | rfl)
    (case l10 => first | k_is | rfl)
    (case c10 => first | k_is | rfl)
    (case k10 => first | k_is | rfl)
    (case a11 => first | k_is | rfl)
    (case l11 => first | k_is | rfl)
    (case c11 => first | k_is | rfl)
    (case k11 => first | k_is | rfl)
    (case a12 => first | k_is | rfl)
    (case l12 => first | k_is | rfl)
    (case c12 => first | k_is | rfl)
    (case k12 => first | k_is | rfl)
    (case a13 => first | k_is | rfl)
    (case l13 => first | k_is | rfl)
    (case c13 => first | k_is | rfl)
    (case k13 => first | k_is | rfl)
    (case a14 => first | k_is | rfl)
    (case l14 => first | k_is | rfl)
    (case c14 => first | k_is | rfl)
    (case k14 => first | k_is | rfl)
    (case a15 => first | k_is | rfl)
    (case l15 => first | k_is | rfl)
    (case c15 => first | k_is | rfl)
    (case k15 => first | k_is | rfl)
    (case a16 => first | k_is | rfl)
    (case l16 => first | k_is | rfl)
    (case c16 => first | k_is | rfl)
    (case k16 => first | k_is | rfl)
    (case a17 => first | k_is | rfl)
    (case l17 => first | k_is | rfl)
    (case c17 => first | k_is | rfl)
    (case k17 => first | k_is | rfl)
    (case a18 => first | k_is | rfl)
    (case l18 => first | k_is | rfl)
    (case c18 => first | k_is | rfl)
    (case k18 => first | k_is | rfl)
    (case a19 => first | k_is | rfl)
    (case l19 => first | k_is | rfl)
    (case c19 => first | k_is | rfl)
    (case k19 => first | k_is | rfl)
    (case a20 => first | k_is | rfl)
    (case l20 => first | k_is | rfl)
    (case c20 => first | k_is | rfl)
    (case k20 => first | k_is | rfl)
    (case a21 => first | k_is | rfl)
    (case l21 => first | k_is | rfl)
    (case c21 => first | k_is | rfl)
    (case k21 => first | k_is | rfl)
    (case a22 => first | k_is | rfl)
    (case l22 => first | k_is | rfl)
    (case c22 => first | k_is | rfl)
    (case k22 => first | k_is | rfl)
    (case a23 => first | k_is | rfl)
    (case l23 => first | k_is | rfl)
    (case c23 => first | k_is | rfl)
    (case k23 => first | k_is | rfl)
    (case a24 => first | k_is | rfl)
    (case l24 => first | k_is | rfl)
    (case c24 => first | k_is | rfl)
    (case k24 => first | k_is | rfl)
    (case a25 => first | k_is | rfl)
    (case l25 => first | k_is | rfl)
    (case c25 => first | k_is | rfl)
    (case k25 => first | k_is | rfl)
    (case a26 => first | k_is | rfl)
    (case l26 => first | k_is | rfl)
    (case c26 => first | k_is | rfl)
    (case k26 => first | k_is | rfl)
    (case z1 => first | k_is | rfl)
    (case z2 => first | k_is | rfl)
    (case z3 => first | k_is | rfl)
    (case z4 => first | k_is | rfl)
    (case z5 => first | k_is | rfl)
    (case z6 => first | k_is | rfl)
    (case z7 => first | k_is | rfl)
    (case z8 => first | k_is | rfl)
    (case z9 => first | k_is | rfl)
    (case z10 => first | k_is | rfl)
    (case y1 => first | k_is | rfl)
    (case yl1 => first | k_is | rfl)
    (case yt1 => decide +kernel)
