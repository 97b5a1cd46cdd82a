import PyProof.Rows.All
import Wide.All
import OpenK.AllK
import Wide.FinOn
import PyProof.EqAt
import PyProof.EqKinds
import PyProof.TupleCall
import KE.DataEq
import HandS.Base
import HandS.Call
import HandS.List
import HandS.Comp
import HandS.Ends
import HandS.Dict
import HandS.Iter
import HandS.Walk
import HandS.Text
import HandS.Exc
import HandS.TryOnly
import HandS.TryElse
import HandS.ExcOwn
import HandS.IsInst
import HandS.TupLe
import HandS.TupAny
import HandS.Wide
import HandS.Words
import HandS.WordsList
import HandS.WordsDict
import HandS.WordsExc
import KE.GoesNew
import HandS.Deep
import HandS.Conv
import HandS.ExcIs
import PyProof.StrBlock2
import HandS.More
import HandS.NoneIn
import HandS.Zip
import HandS.Rev
import HandS.Defaults
import HandS.DictComp
import HandS.DictEq
import HandS.DeepEq
import KE.KEqDict
import PyProof.NeKinds
import KE.SortKeyHeap
import HandS.SortKw
import HandS.SuiteRaise
import HandS.RaiseFrom
import HandS.StrMore
import HandS.Style
import HandS.FStr
import KE.DataMinMax
import HandS.RevRange
import KE.GoesEnumKw
import KE.KExcSuper
import KE.KSuper
import HandS.ExcInit
import HandS.Nested
import HandS.ExcField
import KE.KExcIs
import HandS.HotCalls
import HandS.CallSlots
import PyProof.AutoSeq1
import HandS.ListItems
import KE.KDictZip
import KE.GoesMore
import KE.GoesZip
import KE.GoesEnum
import PySem.Challenge.RW_worldorpaper_k86_parts_and_places
set_option Elab.async false
set_option linter.all false
set_option maxRecDepth 100000
set_option maxHeartbeats 4000000
/-! G: weakest readings, data that cannot change, slots by what they hold. -/
namespace G
open PySem PySem.Spec PyProof.Rows L2
/-! ### the weakest reading of a piece of syntax -/
structure wE (X : Cx) (e : Expr) (σ : L2.St) (H : Hp) (Q : VK) : Prop where
  go : ∀ pins s, Inv X pins σ H s → wpAny (model X.prog X.w) X.A (eval e X.env) (EP X pins σ Q) X.xe s
structure wT (X : Cx) (e : Expr) (σ : L2.St) (H : Hp) (Q : Bool → Hp → Prop) : Prop where
  go : ∀ pins s, Inv X pins σ H s → wpAny (model X.prog X.w) X.A (isTrue e X.env (eval e X.env)) (TP X pins σ Q) X.xe s
structure wA (X : Cx) (es : List Expr) (σ : L2.St) (H : Hp) (Q : List V → Hp → Prop) : Prop where
  go : ∀ pos pins s, Inv X pins σ H s → wpAny (model X.prog X.w) X.A (spliced (backTo pos (starEach es X.env))) (AP X pins σ Q) X.xe s
structure wS (X : Cx) (st : Stmt) (D : Ends) (σ : L2.St) (H : Hp) : Prop where
  go : ∀ pins s, Inv X pins σ H s → wpAny (model X.prog X.w) X.A (exec st X.env) (SP X pins D) X.xe s
structure wSs (X : Cx) (st : List Stmt) (D : Ends) (σ : L2.St) (H : Hp) : Prop where
  go : ∀ pins s, Inv X pins σ H s → wpAny (model X.prog X.w) X.A (execs st X.env) (SP X pins D) X.xe s
section
variable {X : Cx} {e : Expr} {es : List Expr} {st : Stmt} {sts : List Stmt} {te : TE} {tt : TT} {ta : TA} {ts : TS} {σ : L2.St} {H : Hp}
theorem pe_w : PE X e (wE X e) := ⟨fun pins s _ _ _ I h => h.go pins s I⟩
theorem pt_w : PT X e (wT X e) := ⟨fun pins s _ _ _ I h => h.go pins s I⟩
theorem pa_w : PA X es (wA X es) := ⟨fun pos pins s _ _ _ I h => h.go pos pins s I⟩
theorem ps_w : PS X st (wS X st) := ⟨fun pins s _ _ _ I h => h.go pins s I⟩
theorem pss_w : PSs X sts (wSs X sts) := ⟨fun pins s _ _ _ I h => h.go pins s I⟩
theorem wE.of {Q : VK} (h : PE X e te) (q : te σ H Q) : wE X e σ H Q := ⟨fun pins s I => h.run pins s σ H Q I q⟩
theorem wT.of {Q : Bool → Hp → Prop} (h : PT X e tt) (q : tt σ H Q) : wT X e σ H Q := ⟨fun pins s I => h.run pins s σ H Q I q⟩
theorem wA.of {Q : List V → Hp → Prop} (h : PA X es ta) (q : ta σ H Q) : wA X es σ H Q := ⟨fun pos pins s I => h.run pos pins s σ H Q I q⟩
theorem wS.of {D : Ends} (h : PS X st ts) (q : ts D σ H) : wS X st D σ H := ⟨fun pins s I => h.run pins s σ H D I q⟩
theorem wSs.of {D : Ends} (h : PSs X sts ts) (q : ts D σ H) : wSs X sts D σ H := ⟨fun pins s I => h.run pins s σ H D I q⟩
theorem wE.mono {Q Q' : VK} (h : wE X e σ H Q) (q : ∀ v H', Q v H' → Q' v H') : wE X e σ H Q' := ⟨fun pins s I =>
  thn (h.go pins s I) fun _ _ ⟨v, H', I', r, z⟩ => ⟨v, H', I', r, q v H' z⟩⟩
theorem wT.mono {Q Q' : Bool → Hp → Prop} (h : wT X e σ H Q) (q : ∀ v H', Q v H' → Q' v H') : wT X e σ H Q' := ⟨fun pins s I =>
  thn (h.go pins s I) fun _ _ ⟨H', I', z⟩ => ⟨H', I', q _ H' z⟩⟩
theorem wA.mono {Q Q' : List V → Hp → Prop} (h : wA X es σ H Q) (q : ∀ v H', Q v H' → Q' v H') : wA X es σ H Q' := ⟨fun pos pins s I =>
  thn (h.go pos pins s I) fun _ _ ⟨v, H', I', r, z⟩ => ⟨v, H', I', r, q v H' z⟩⟩
end
/-- an argument without a star -/
def plainE : Expr → Bool
  | .Starred .. => false
  | _ => true
theorem star1 {e : Expr} {es : List Expr} {env : Env} (h : plainE e = true) : starEach (e :: es) env = (false, eval e env) :: starEach es env := by
  cases e <;> first | (rw [starEach]; exact fun _ _ z => nomatch z) | rfl | cases h
/-! ### tuples stay -/
def Gw (H H' : Hp) : Prop := (∀ b xs, H b = some (.tup xs) → H' b = some (.tup xs)) ∧ ∀ b o u, H b = some (.frz o u) → H' b = some (.frz o u)
theorem Gw.refl (H : Hp) : Gw H H := ⟨fun _ _ h => h, fun _ _ _ h => h⟩
theorem Gw.trans {H H1 H2 : Hp} (a : Gw H H1) (b : Gw H1 H2) : Gw H H2 := ⟨fun c xs h => b.1 c xs (a.1 c xs h), fun c o u h => b.2 c o u (a.2 c o u h)⟩
theorem Same.gw {H H' : Hp} (e : Same H H') : Gw H H' := ⟨fun c _ h => e c _ h, fun c _ _ h => e c _ h⟩
theorem same_new {H : Hp} {p : Addr} {o : HO} (h : H p = none) : Same H (upd H p o) := fun b u q => by rw [upd_ne (ne_of_none q h)]; exact q
theorem gw_mut {H : Hp} {p : Addr} {o : HO} (h : Mut (H p)) : Gw H (upd H p o) :=
  ⟨fun b xs q => by rw [upd_ne (fun z => by subst z; rw [q] at h; exact h)]; exact q, fun b o u q => by rw [upd_ne (fun z => by subst z; rw [q] at h; exact h)]; exact q⟩
theorem Gw.sqt {K : PySem.W.Frag} {H H' : Hp} {a : Addr} {xs : List V} (e : Gw H H') (h : SqT K H a xs) : SqT K H' a xs := by
  rcases h with (h | ⟨o, h⟩) | h
  · exact .inl (.inl (e.1 _ _ h))
  · exact .inl (.inr ⟨o, e.2 _ _ _ h⟩)
  · exact .inr h
/-! ### data without lists: it can't change -/
mutual
inductive Im (K : PySem.W.Frag) (H : Hp) : V → PyData → Prop
  | non : Im K H .non .none
  | bl (b : Bool) : Im K H (.bl b) (.bool b)
  | int (i : Int) : Im K H (.int i) (.int i)
  | str (x : Str) : Im K H (.str x) (.str x)
  | tup {a : Addr} {xs : List V} {ds : List PyData} : SqT K H a xs → ImAll K H xs ds → Im K H (.ref a) (.tuple ds)
inductive ImAll (K : PySem.W.Frag) (H : Hp) : List V → List PyData → Prop
  | nil : ImAll K H [] []
  | cons {v : V} {vs : List V} {d : PyData} {ds : List PyData} : Im K H v d → ImAll K H vs ds → ImAll K H (v :: vs) (d :: ds)
end
section
variable {K : PySem.W.Frag} {H H' : Hp}
mutual
theorem Im.gw (e : Gw H H') : ∀ (d : PyData) (v : V), Im K H v d → Im K H' v d
  | .none, _, h => by cases h; exact .non
  | .bool b, _, h => by cases h; exact .bl b
  | .int i, _, h => by cases h; exact .int i
  | .str x, _, h => by cases h; exact .str x
  | .tuple ds, _, h => by
    cases h with
    | tup a b => exact .tup (e.sqt a) (ImAll.gw e ds _ b)
  | .list _, _, h => by cases h
  | .dict _, _, h => by cases h
theorem ImAll.gw (e : Gw H H') : ∀ (ds : List PyData) (vs : List V), ImAll K H vs ds → ImAll K H' vs ds
  | [], _, h => by cases h; exact .nil
  | d :: ds, _, h => by
    cases h with
    | cons a b => exact .cons (Im.gw e d _ a) (ImAll.gw e ds _ b)
end
mutual
theorem Im.dp : ∀ (d : PyData) (v : V), Im K H v d → Dp K H v d
  | .none, _, h => by cases h; exact .non
  | .bool b, _, h => by cases h; exact .bl b
  | .int i, _, h => by cases h; exact .int i
  | .str x, _, h => by cases h; exact .str x
  | .tuple ds, _, h => by
    cases h with
    | tup a b => exact .tup a (ImAll.dp ds _ b)
  | .list _, _, h => by cases h
  | .dict _, _, h => by cases h
theorem ImAll.dp : ∀ (ds : List PyData) (vs : List V), ImAll K H vs ds → DpAll K H vs ds
  | [], _, h => by cases h; exact .nil
  | d :: ds, _, h => by
    cases h with
    | cons a b => exact .cons (Im.dp d _ a) (ImAll.dp ds _ b)
end
mutual
theorem Im.plain : ∀ (d : PyData) (v : V), Im K H v d → d.plain = true
  | .none, _, _ => rfl
  | .bool b, _, _ => rfl
  | .int i, _, _ => rfl
  | .str x, _, _ => rfl
  | .tuple ds, _, h => by
    cases h with
    | tup a b => exact ImAll.plain ds _ b
  | .list _, _, h => by cases h
  | .dict _, _, h => by cases h
theorem ImAll.plain : ∀ (ds : List PyData) (vs : List V), ImAll K H vs ds → PyData.plainAll ds = true
  | [], _, h => rfl
  | d :: ds, _, h => by
    cases h with
    | cons a b =>
      show (d.plain && PyData.plainAll ds) = true
      rw [Im.plain d _ a, ImAll.plain ds _ b]; rfl
end
theorem Im.same {v : V} {d : PyData} (e : Same H H') (h : Im K H v d) : Im K H' v d := h.gw (Same.gw e) d v
theorem ImAll.same {v : List V} {d : List PyData} (e : Same H H') (h : ImAll K H v d) : ImAll K H' v d := h.gw (Same.gw e) d v
theorem ImAll.len : ∀ {ds : List PyData} {vs : List V}, ImAll K H vs ds → vs.length = ds.length
  | [], _, h => by cases h; rfl
  | d :: ds, _, h => by
    cases h with
    | cons a b => show _ + 1 = _ + 1; rw [ImAll.len b]
theorem ImAll.get : ∀ {ds : List PyData} {vs : List V} {i : Nat} {d : PyData}, ImAll K H vs ds → ds[i]? = some d → ∃ v, vs[i]? = some v ∧ Im K H v d
  | [], _, i, d, h, e => by simp at e
  | d :: ds, _, 0, d', h, e => by
    cases h with
    | cons a b =>
      have e' : d = d' := Option.some.inj e
      subst e'
      exact ⟨_, rfl, a⟩
  | d :: ds, _, i + 1, d', h, e => by
    cases h with
    | cons a b => exact ImAll.get (i := i) b (by simpa using e)
theorem ImAll.get' : ∀ {ds : List PyData} {vs : List V} {i : Nat} {v : V}, ImAll K H vs ds → vs[i]? = some v → ∃ d, ds[i]? = some d ∧ Im K H v d
  | [], _, i, d, h, e => by cases h; simp at e
  | d :: ds, _, 0, d', h, e => by
    cases h with
    | cons a b =>
      have e' := Option.some.inj e
      subst e'
      exact ⟨_, rfl, a⟩
  | d :: ds, _, i + 1, d', h, e => by
    cases h with
    | cons a b => exact ImAll.get' (i := i) b (by simpa using e)
theorem ImAll.append : ∀ {ds es : List PyData} {vs us : List V}, ImAll K H vs ds → ImAll K H us es → ImAll K H (vs ++ us) (ds ++ es)
  | [], _, _, _, h, g => by cases h; exact g
  | d :: ds, _, _, _, h, g => by
    cases h with
    | cons a b => exact .cons a (ImAll.append b g)
theorem ImAll.drop : ∀ {ds : List PyData} {vs : List V} (n : Nat), ImAll K H vs ds → ImAll K H (vs.drop n) (ds.drop n)
  | _, _, 0, h => h
  | [], _, n + 1, h => by cases h; exact .nil
  | d :: ds, _, n + 1, h => by
    cases h with
    | cons a b => exact ImAll.drop n b
theorem ImAll.take : ∀ {ds : List PyData} {vs : List V} (n : Nat), ImAll K H vs ds → ImAll K H (vs.take n) (ds.take n)
  | _, _, 0, h => .nil
  | [], _, n + 1, h => by cases h; exact .nil
  | d :: ds, _, n + 1, h => by
    cases h with
    | cons a b => exact .cons a (ImAll.take n b)
theorem ImAll.set : ∀ {ds : List PyData} {vs : List V} {v : V} {d : PyData} (n : Nat), Im K H v d → ImAll K H vs ds → ImAll K H (vs.set n v) (ds.set n d)
  | [], _, _, _, n, a, h => by cases h; exact .nil
  | e :: ds, _, _, _, 0, a, h => by
    cases h with
    | cons _ b => exact .cons a b
  | e :: ds, _, _, _, n + 1, a, h => by
    cases h with
    | cons c b => exact .cons c (ImAll.set n a b)
end
end G
namespace G
open PySem PySem.Spec PyProof.Rows L2
abbrev St := L2.St
/-! ### slots by what they hold -/
inductive SD where
  /-- nothing is known -/
  | no
  /-- data that cannot change -/
  | im (d : PyData)
  /-- this very value -/
  | va (v : V)
  /-- a list of one's own, of data that cannot change -/
  | ls (ds : List PyData)
  /-- a list of one's own that is only read for a while; a list that the caller handed over, only read -/
  | rl (p : Addr) (ds : List PyData)
  | pl (p : Addr) (ds : List PyData)
  /-- a dict of one's own -/
  | dk (kvs : List (Key × PyData))
  /-- the drawing state: a list of a list of ints, an int between 0 and b, an int -/
  | st (a r : Addr) (b : Nat)
abbrev SC := List SD
/-- the drawing state at a -/
def StAt (H : Hp) (a r : Addr) (b : Nat) : Prop := a ≠ r ∧ ∃ (row : List Int) (n sd : Int), H a = some (.lst [.ref r, .int n, .int sd]) ∧ H r = some (.lst (row.map V.int)) ∧ 0 ≤ n ∧ n ≤ (b : Int)
theorem StAt.mono {H : Hp} {a r : Addr} {b c : Nat} (h : StAt H a r b) (l : b ≤ c) : StAt H a r c := by
  obtain ⟨h0, row, n, sd, h1, h2, h3, h4⟩ := h
  exact ⟨h0, row, n, sd, h1, h2, h3, by omega⟩
/-- all but a is as it was -/
def But (M : List Addr) (H H' : Hp) : Prop := ∀ b o, b ∉ M → H b = some o → H' b = some o
theorem But.refl (M : List Addr) (H : Hp) : But M H H := fun _ _ _ h => h
theorem But.trans {M : List Addr} {H H1 H2 : Hp} (a : But M H H1) (b : But M H1 H2) : But M H H2 := fun c o n h => b c o n (a c o n h)
theorem But.same {M : List Addr} {H H1 H2 : Hp} (a : But M H H1) (b : Same H1 H2) : But M H H2 := fun c o n h => b c o (a c o n h)
theorem But.of {M : List Addr} {H H1 : Hp} (b : Same H H1) : But M H H1 := fun c o n h => b c o h
theorem But.nil {H H1 : Hp} (b : But [] H H1) : Same H H1 := fun c o h => b c o (by simp) h
/-- lists that no name holds, kept as they are -/
abbrev Gs := List (Addr × List V)
def Kept (g : Gs) (H : Hp) : Prop := ∀ q, q ∈ g → H q.1 = some (.lst q.2)
def ImKv (K : PySem.W.Frag) (H : Hp) : List (Key × V) → List (Key × PyData) → Prop := Paired fun p q => p.1 = q.1 ∧ Im K H p.2 q.2
theorem ImKv.gw {K : PySem.W.Frag} {H H' : Hp} (e : Gw H H') : ∀ {vs : List (Key × V)} {ds : List (Key × PyData)}, ImKv K H vs ds → ImKv K H' vs ds
  | _, _, .nil => .nil
  | _, _, .cons h t => .cons ⟨h.1, h.2.gw e _ _⟩ (ImKv.gw e t)
def SlotOk (K : PySem.W.Frag) (H0 : Hp) (M : List Addr) (g : Gs) (H : Hp) (own : List Addr) (o : Option V) : SD → Prop
  | .no => own = []
  | .im d => own = [] ∧ ∃ v, o = some v ∧ Im K H v d
  | .va v => own = [] ∧ o = some v
  | .ls ds => ∃ p vs, own = [p] ∧ o = some (.ref p) ∧ H p = some (.lst vs) ∧ ImAll K H vs ds ∧ H0 p = none
  | .rl p ds => own = [] ∧ o = some (.ref p) ∧ H0 p = none ∧ ∃ vs, (p, vs) ∈ g ∧ ImAll K H vs ds
  | .pl p ds => own = [] ∧ o = some (.ref p) ∧ p ∉ M ∧ ∃ vs, SqL K H0 p vs ∧ ImAll K H vs ds
  | .dk kvs => ∃ p ws, own = [p] ∧ o = some (.ref p) ∧ H p = some (.dK ws) ∧ ImKv K H ws kvs ∧ H0 p = none
  | .st a r b => own = [a, r] ∧ o = some (.ref a) ∧ StAt H a r b ∧ (H0 a = none ∨ a ∈ M)
/-- the slots are as told, over the heap H that began as H0 and may have changed at M -/
structure R (K : PySem.W.Frag) (H0 : Hp) (M : List Addr) (g : Gs) (Γ : SC) (σ : St) (H : Hp) : Prop where
  but : But M H0 H
  len : σ.length = Γ.length
  slots : ∃ own : Nat → List Addr, (∀ i, SlotOk K H0 M g H (own i) (σ.getD i none) (Γ.getD i .no)) ∧ (∀ i j, i ≠ j → ∀ p, p ∈ own i → p ∉ own j) ∧ ∀ q, q ∈ g → H q.1 = some (.lst q.2) ∧ ∀ i, q.1 ∉ own i
section
variable {K : PySem.W.Frag} {H0 H H' : Hp} {M : List Addr} {g : Gs} {Γ : SC} {σ : St} {own : List Addr} {o : Option V} {x : SD} {n : Nat}
theorem SlotOk.track (h : SlotOk K H0 M g H own o x) : ∀ p, p ∈ own → ∃ u, H p = some u := by
  intro p hp
  cases x with
  | no => rw [show own = [] from h] at hp; cases hp
  | im d => rw [h.1] at hp; cases hp
  | va v => rw [h.1] at hp; cases hp
  | ls ds =>
    obtain ⟨q, vs, e, _, h1, _⟩ := h
    rw [e] at hp
    have : p = q := by simpa using hp
    subst this
    exact ⟨_, h1⟩
  | rl p ds => rw [h.1] at hp; cases hp
  | pl p ds => rw [h.1] at hp; cases hp
  | dk kvs =>
    obtain ⟨q, vs, e, _, h1, _⟩ := h
    rw [e] at hp
    have : p = q := by simpa using hp
    subst this
    exact ⟨_, h1⟩
  | st a r b =>
    obtain ⟨e, _, ⟨_, row, n, sd, h1, h2, _⟩, _⟩ := h
    rw [e] at hp
    rcases List.mem_cons.mp hp with z | z
    · subst z; exact ⟨_, h1⟩
    · have : p = r := by simpa using z
      subst this; exact ⟨_, h2⟩
/-- a change of the heap that leaves tuples and this slot's own objects -/
theorem SlotOk.keep (h : SlotOk K H0 M g H own o x) (gw : Gw H H') (k : ∀ p, p ∈ own → H' p = H p) : SlotOk K H0 M g H' own o x := by
  cases x with
  | no => exact h
  | im d => obtain ⟨e, v, e1, h1⟩ := h; exact ⟨e, v, e1, h1.gw gw d v⟩
  | va v => exact h
  | ls ds =>
    obtain ⟨q, vs, e, e1, h1, h2, h3⟩ := h
    exact ⟨q, vs, e, e1, by rw [k q (by rw [e]; simp)]; exact h1, h2.gw gw ds vs, h3⟩
  | rl p ds =>
    obtain ⟨e, e1, h0, vs, h1, h2⟩ := h
    exact ⟨e, e1, h0, vs, h1, h2.gw gw ds vs⟩
  | pl p ds =>
    obtain ⟨e, e1, h0, vs, h1, h2⟩ := h
    exact ⟨e, e1, h0, vs, h1, h2.gw gw ds vs⟩
  | dk kvs =>
    obtain ⟨q, vs, e, e1, h1, h2, h3⟩ := h
    exact ⟨q, vs, e, e1, by rw [k q (by rw [e]; simp)]; exact h1, h2.gw gw, h3⟩
  | st a r b =>
    obtain ⟨e, e1, ⟨e0, row, n, sd, h1, h2, h3⟩, h4⟩ := h
    exact ⟨e, e1, ⟨e0, row, n, sd, by rw [k a (by rw [e]; simp)]; exact h1, by rw [k r (by rw [e]; simp)]; exact h2, h3⟩, h4⟩
theorem R.same (r : R K H0 M g Γ σ H) (e : Same H H') : R K H0 M g Γ σ H' := by
  obtain ⟨own, h1, h2, h3⟩ := r.slots
  refine ⟨r.but.same e, r.len, own, fun i => (h1 i).keep (Same.gw e) fun p hp => ?_, h2, fun q hq => ⟨e _ _ (h3 q hq).1, (h3 q hq).2⟩⟩
  obtain ⟨u, hu⟩ := (h1 i).track p hp
  rw [hu, e p u hu]
theorem R.im {i : Nat} {d : PyData} (r : R K H0 M g Γ σ H) (h : Γ.getD i .no = .im d) : ∃ v, σ[i]? = some (some v) ∧ Im K H v d := by
  obtain ⟨own, h1, _⟩ := r.slots
  have q := h1 i
  rw [h] at q
  obtain ⟨_, v, e, m⟩ := q
  refine ⟨v, ?_, m⟩
  rw [List.getD_eq_getElem?_getD] at e
  cases z : σ[i]? with
  | none => rw [z] at e; cases e
  | some y => rw [z] at e; exact congrArg some e
theorem getD_some {i : Nat} {v : V} (e : σ.getD i none = some v) : σ[i]? = some (some v) := by
  rw [List.getD_eq_getElem?_getD] at e
  cases z : σ[i]? with
  | none => rw [z] at e; cases e
  | some y => rw [z] at e; exact congrArg some e
theorem R.va {i : Nat} {v : V} (r : R K H0 M g Γ σ H) (h : Γ.getD i .no = .va v) : σ[i]? = some (some v) := by
  obtain ⟨own, h1, _⟩ := r.slots
  have q := h1 i
  rw [h] at q
  exact getD_some q.2
theorem R.ls {i : Nat} {ds : List PyData} (r : R K H0 M g Γ σ H) (h : Γ.getD i .no = .ls ds) : ∃ p vs, σ[i]? = some (some (.ref p)) ∧ H p = some (.lst vs) ∧ ImAll K H vs ds ∧ H0 p = none := by
  obtain ⟨own, h1, _⟩ := r.slots
  have q := h1 i
  rw [h] at q
  obtain ⟨p, vs, _, e, q1, q2, q3⟩ := q
  exact ⟨p, vs, getD_some e, q1, q2, q3⟩
theorem R.st {i : Nat} {a b : Addr} {c : Nat} (r : R K H0 M g Γ σ H) (h : Γ.getD i .no = .st a b c) : σ[i]? = some (some (.ref a)) ∧ StAt H a b c := by
  obtain ⟨own, h1, _⟩ := r.slots
  have q := h1 i
  rw [h] at q
  exact ⟨getD_some q.2.1, q.2.2.1⟩
theorem getD_set {α : Type} {l : List α} {i j : Nat} {x d : α} : (l.set i x).getD j d = if i = j then (if i < l.length then x else d) else l.getD j d := by
  rw [List.getD_eq_getElem?_getD, List.getD_eq_getElem?_getD, List.getElem?_set]
  split
  · split
    · rfl
    · rename_i h1 h2
      rfl
  · rfl
/-- a slot is set; the heap is another -/
theorem R.put {i : Nat} {v : V} {x : SD} {p : List Addr} (r : R K H0 M g Γ σ H) (e : Same H H') (hi : i < Γ.length) (hx : SlotOk K H0 M g H' p (some v) x) (hp : ∀ q, q ∈ p → H q = none) : R K H0 M g (Γ.set i x) (σ.set i (some v)) H' := by
  obtain ⟨own0, h10, h20, h30⟩ := r.slots
  refine ⟨r.but.same e, by simp [r.len], fun j => if j = i then p else own0 j, fun j => ?_, fun j k hjk q hq => ?_, fun q hq => ⟨e _ _ (h30 q hq).1, fun j z => ?_⟩⟩
  · show SlotOk K H0 M g H' (if j = i then p else own0 j) _ _
    rw [getD_set, getD_set]
    by_cases hj : i = j
    · subst hj
      simp only [if_true]
      rw [if_pos (by rw [r.len]; exact hi), if_pos hi]
      exact hx
    · rw [if_neg hj, if_neg hj, if_neg (Ne.symm hj)]
      refine (h10 j).keep (Same.gw e) fun q hq => ?_
      obtain ⟨u, hu⟩ := (h10 j).track q hq
      rw [hu, e q u hu]
  · have none_own : ∀ j q, H q = none → q ∉ own0 j := fun j q hn hq => by
      obtain ⟨u, hu⟩ := (h10 j).track q hq
      rw [hn] at hu; cases hu
    have hq' : q ∈ (if j = i then p else own0 j) := hq
    show q ∉ (if k = i then p else own0 k)
    by_cases hj : j = i
    · rw [if_pos hj] at hq'
      rw [if_neg (fun z => hjk (hj.trans z.symm))]
      exact none_own k q (hp q hq')
    · rw [if_neg hj] at hq'
      by_cases hk : k = i
      · rw [if_pos hk]
        intro z
        exact none_own j q (hp q z) hq'
      · rw [if_neg hk]
        exact h20 j k hjk q hq'
  · have z' : q.1 ∈ (if j = i then p else own0 j) := z
    by_cases hj : j = i
    · rw [if_pos hj] at z'
      have q1 := hp _ z'
      rw [(h30 q hq).1] at q1; cases q1
    · rw [if_neg hj] at z'
      exact (h30 q hq).2 j z'
theorem R.fresh (r : R K H0 M g Γ σ H) (hM : ∀ a ∈ M, H0 a ≠ none → H a ≠ none) {p : Addr} (h : H p = none) : H0 p = none := by
  cases q : H0 p with
  | none => rfl
  | some o =>
    by_cases hp : p ∈ M
    · exact absurd h (hM p hp (by rw [q]; exact fun z => nomatch z))
    · rw [r.but p o hp q] at h; cases h
theorem R.dk {i : Nat} {ds : List (Key × PyData)} (r : R K H0 M g Γ σ H) (h : Γ.getD i .no = .dk ds) : ∃ p vs, σ[i]? = some (some (.ref p)) ∧ H p = some (.dK vs) ∧ ImKv K H vs ds ∧ H0 p = none := by
  obtain ⟨own, h1, _⟩ := r.slots
  have q := h1 i
  rw [h] at q
  obtain ⟨p, vs, _, e, q1, q2, q3⟩ := q
  exact ⟨p, vs, getD_some e, q1, q2, q3⟩
theorem R.weak {Γ' : SC} (r : R K H0 M g Γ σ H) (hl : Γ'.length = Γ.length) (w : ∀ i, Γ'.getD i .no = Γ.getD i .no ∨ Γ'.getD i .no = .no) : R K H0 M g Γ' σ H := by
  obtain ⟨own, h1, h2, h3⟩ := r.slots
  classical
  refine ⟨r.but, r.len.trans hl.symm, fun i => if Γ'.getD i .no = Γ.getD i .no then own i else [], fun i => ?_, fun i j hij p hp => ?_, fun q hq => ⟨(h3 q hq).1, fun i z => ?_⟩⟩
  rotate_right
  · have z' : q.1 ∈ (if Γ'.getD i .no = Γ.getD i .no then own i else []) := z
    by_cases h : Γ'.getD i .no = Γ.getD i .no
    · rw [if_pos h] at z'
      exact (h3 q hq).2 i z'
    · rw [if_neg h] at z'; cases z'
  · by_cases h : Γ'.getD i .no = Γ.getD i .no
    · show SlotOk K H0 M g H (if Γ'.getD i .no = Γ.getD i .no then own i else []) _ _
      rw [if_pos h, h]
      exact h1 i
    · show SlotOk K H0 M g H (if Γ'.getD i .no = Γ.getD i .no then own i else []) _ _
      rw [if_neg h]
      rcases w i with z | z
      · exact absurd z h
      · rw [z]; rfl
  · have hp' : p ∈ (if Γ'.getD i .no = Γ.getD i .no then own i else []) := hp
    show p ∉ (if Γ'.getD j .no = Γ.getD j .no then own j else [])
    by_cases h : Γ'.getD i .no = Γ.getD i .no
    · rw [if_pos h] at hp'
      by_cases h' : Γ'.getD j .no = Γ.getD j .no
      · rw [if_pos h']; exact h2 i j hij p hp'
      · rw [if_neg h']; exact fun z => nomatch z
    · rw [if_neg h] at hp'; cases hp'
theorem R.kept (r : R K H0 M g Γ σ H) : Kept g H := fun q hq => by
  obtain ⟨own, h1, h2, h3⟩ := r.slots
  exact (h3 q hq).1
theorem R.rl {i : Nat} {p : Addr} {ds : List PyData} (r : R K H0 M g Γ σ H) (h : Γ.getD i .no = .rl p ds) : σ[i]? = some (some (.ref p)) ∧ ∃ vs, H p = some (.lst vs) ∧ ImAll K H vs ds := by
  obtain ⟨own, h1, _, h3⟩ := r.slots
  have q := h1 i
  rw [h] at q
  obtain ⟨e, e1, h0, vs, e2, e3⟩ := q
  exact ⟨getD_some e1, vs, (h3 _ e2).1, e3⟩
theorem But.seq {a : Addr} {xs : List V} (b : But M H H') (h : SqL K H a xs) (n : a ∉ M) : SqL K H' a xs := by
  rcases h with (h | ⟨o, h⟩) | h
  · exact .inl (.inl (b _ _ n h))
  · exact .inl (.inr ⟨o, b _ _ n h⟩)
  · exact .inr h
theorem R.pl {i : Nat} {p : Addr} {ds : List PyData} (r : R K H0 M g Γ σ H) (h : Γ.getD i .no = .pl p ds) : σ[i]? = some (some (.ref p)) ∧ ∃ vs, SqL K H p vs ∧ ImAll K H vs ds := by
  obtain ⟨own, h1, _, h3⟩ := r.slots
  have q := h1 i
  rw [h] at q
  obtain ⟨e, e1, h0, vs, e2, e3⟩ := q
  exact ⟨getD_some e1, vs, r.but.seq e2 h0, e3⟩
/-- at the entry of a def: data -/
def SlotV (K : PySem.W.Frag) (H : Hp) : SD → V → Prop
  | .no, _ => True
  | .im d, v => Im K H v d
  | .va u, v => v = u
  | .pl p ds, v => v = .ref p ∧ ∃ vs, SqL K H p vs ∧ ImAll K H vs ds
  | _, _ => False
abbrev SlotVs (K : PySem.W.Frag) (H : Hp) : SC → List V → Prop := Paired (SlotV K H)
theorem SlotV.ok {v : V} (h : SlotV K H x v) (hM : ∀ p ds, x = .pl p ds → p ∉ M) : SlotOk K H M g H [] (some v) x := by
  cases x with
  | no => rfl
  | im d => exact ⟨rfl, v, rfl, h⟩
  | va u => exact ⟨rfl, congrArg some h⟩
  | ls d => exact h.elim
  | rl p d => exact h.elim
  | dk d => exact h.elim
  | pl p d => exact ⟨rfl, congrArg some h.1, hM p d rfl, h.2⟩
  | st a r b => exact h.elim
theorem SlotVs.ok {n : Nat} : ∀ {Γ : SC} {vs : List V} (i : Nat), SlotVs K H Γ vs → (∀ p ds, SD.pl p ds ∈ Γ → p ∉ M) → SlotOk K H M g H [] ((vs.map some ++ List.replicate n none).getD i none) ((Γ ++ List.replicate n SD.no).getD i .no)
  | _, _, i, .nil, _ => by
    rw [List.map_nil, List.nil_append, List.nil_append]
    have e : (List.replicate n SD.no).getD i .no = .no := by
      rw [List.getD_eq_getElem?_getD, List.getElem?_replicate]
      split <;> rfl
    rw [e]; rfl
  | x :: _, _, 0, .cons h _, m => SlotV.ok (x := x) h fun p ds e => m p ds (by rw [e]; exact List.mem_cons_self)
  | _, _, i + 1, .cons _ h, m => SlotVs.ok (n := n) i h fun p ds z => m p ds (List.mem_cons_of_mem _ z)
theorem SlotVs.len : ∀ {Γ : SC} {vs : List V}, SlotVs K H Γ vs → Γ.length = vs.length
  | _, _, .nil => rfl
  | _, _, .cons _ h => congrArg (· + 1) (SlotVs.len h)
theorem R.start {vs : List V} {N : List Str} (h : SlotVs K H Γ vs) (hN : N.length - vs.length = n) (hM : ∀ p ds, SD.pl p ds ∈ Γ → p ∉ M) : R K H M [] (Γ ++ List.replicate n .no) (L2.start N vs) H := by
  refine ⟨But.refl M H, ?_, fun _ => [], fun i => ?_, fun _ _ _ p hp => (nomatch hp), fun _ z => (nomatch z)⟩
  · unfold L2.start
    rw [List.length_append, List.length_append, List.length_map, List.length_replicate, List.length_replicate, h.len, hN]
  · unfold L2.start
    rw [hN]
    exact h.ok i hM
end
end G
namespace G
open PySem PySem.Spec PyProof.Rows L2
/-! ### expressions over slots -/
abbrev EK := Hp → V → Hp → Prop
/-- e gives a value that P tells (the heap before, the value, the heap after); nothing tracked changes -/
def EE (X : Cx) (H0 : Hp) (M : List Addr) (Γ : SC) (e : Expr) (P : EK) : Prop :=
  ∀ g σ H Q, R X.K H0 M g Γ σ H → (∀ v H', Same H H' → P H v H' → Q v H') → wE X e σ H Q
abbrev kI (K : PySem.W.Frag) (d : PyData) : EK := fun _ v H' => Im K H' v d
/-- a new list -/
abbrev kL (K : PySem.W.Frag) (ds : List PyData) : EK := fun H v H' => ∃ p vs, v = .ref p ∧ H p = none ∧ H' p = some (.lst vs) ∧ ImAll K H' vs ds
abbrev EI (X : Cx) (H0 : Hp) (M : List Addr) (Γ : SC) (e : Expr) (d : PyData) : Prop := EE X H0 M Γ e (kI X.K d)
abbrev EL (X : Cx) (H0 : Hp) (M : List Addr) (Γ : SC) (e : Expr) (ds : List PyData) : Prop := EE X H0 M Γ e (kL X.K ds)
def ET (X : Cx) (H0 : Hp) (M : List Addr) (Γ : SC) (e : Expr) (b : Bool) : Prop :=
  ∀ g σ H Q, R X.K H0 M g Γ σ H → (∀ H', Same H H' → Q b H') → wT X e σ H Q
theorem Im.int_inv {K : PySem.W.Frag} {H : Hp} {v : V} {i : Int} (h : Im K H v (.int i)) : v = .int i := by cases h; rfl
section
variable {X : Cx} {H0 : Hp} {M : List Addr} {Γ : SC} {e a b c : Expr} {es : List Expr} {pos p0 : Pos} {P Pa Pb : EK}
theorem EE.mono {P' : EK} (h : EE X H0 M Γ e P) (q : ∀ H v H', Same H H' → P H v H' → P' H v H') : EE X H0 M Γ e P' := fun g σ H Q r k => h g σ H Q r fun v H' s z => k v H' s (q H v H' s z)
theorem EI.to {d d' : PyData} (h : EI X H0 M Γ e d) (q : d = d') : EI X H0 M Γ e d' := q ▸ h
theorem EL.to {d d' : List PyData} (h : EL X H0 M Γ e d) (q : d = d') : EL X H0 M Γ e d' := q ▸ h
theorem ET.to {d d' : Bool} (h : ET X H0 M Γ e d) (q : d = d') : ET X H0 M Γ e d' := q ▸ h
/-- a list of one's own, as it stands -/
abbrev kO (K : PySem.W.Frag) (ds : List PyData) : EK := fun _ v H' => ∃ p vs, v = .ref p ∧ H' p = some (.lst vs) ∧ ImAll K H' vs ds
/-! ### == of data -/
variable {k : Nat} {d d' : PyData}
/-! ### arguments -/
/-! ### displays -/
/-! ### tuples: items, slices, + -/
def PartE (X : Cx) (H0 : Hp) (M : List Addr) (Γ : SC) (e : Option Expr) (o : Option Int) : Prop :=
  (e = none ∧ o = none) ∨ ∃ e' i, e = some e' ∧ o = some i ∧ EI X H0 M Γ e' (.int i)
def wO (X : Cx) (e : Option Expr) : TO := match e with | none => tNoPart | some e => tPart (wE X e)
theorem po_w {e : Option Expr} : PO X e (wO X e) := by
  cases e with
  | none => exact po_none
  | some e => exact po_some pe_w
theorem PartE.go {lo : Option Expr} {o : Option Int} (h : PartE X H0 M Γ lo o) {σ : St} {H : Hp} {Q : Option Int → Hp → Prop} {g : Gs} (R : R X.K H0 M g Γ σ H) (k : ∀ H', Same H H' → Q o H') : wO X lo σ H Q := by
  rcases h with ⟨rfl, rfl⟩ | ⟨e, i, rfl, rfl, h⟩
  · exact k H (Same.refl H)
  · exact h g σ H _ R fun x H1 s1 p1 => ⟨i, p1.int_inv, k H1 s1⟩
/-! ### calls of one's own defs -/
structure Has (P : Program) (w : World) (K : PySem.W.Frag) (mg : Str → Option Value) (base : Heap) (CX : CXT) (k : Nat) (x : Str) (ps : List Str) (sp : Sp) : Prop where
  ex : ∃ f fd, FnOk P w K mg base CX k f fd ps sp ∧ mg x = some (.ref f) ∧ PySem.W.keepIn K (.ref f) = true ∧ Binds K fd ps []
abbrev HasX (X : Cx) (CX : CXT) (k : Nat) (x : Str) (ps : List Str) (sp : Sp) : Prop := Has X.prog X.w X.K X.mg X.base CX k x ps sp
/-! ### calls of built-ins -/
/-! ### tests -/
variable {rest : List Expr}
end
end G
namespace G
open PySem PySem.Spec PyProof.Rows L2
/-! ### expressions that move the drawing state on -/
/-- e gives a value that P tells and leaves the slots as Γ' says -/
def EX (X : Cx) (H0 : Hp) (M : List Addr) (Γ : SC) (e : Expr) (Γ' : SC) (P : V → Hp → Prop) : Prop :=
  ∀ g σ H Q, R X.K H0 M g Γ σ H → (∀ v H', R X.K H0 M g Γ' σ H' → Gw H H' → P v H' → Q v H') → wE X e σ H Q
/-- some data that A tells -/
abbrev xI (K : PySem.W.Frag) (A : PyData → Prop) : V → Hp → Prop := fun v H' => ∃ d, A d ∧ Im K H' v d
def TX (X : Cx) (H0 : Hp) (M : List Addr) (Γ : SC) (e : Expr) (Γ' : SC) (A : Bool → Prop) : Prop :=
  ∀ g σ H Q, R X.K H0 M g Γ σ H → (∀ b H', R X.K H0 M g Γ' σ H' → Gw H H' → A b → Q b H') → wT X e σ H Q
section
variable {X : Cx} {H0 : Hp} {M : List Addr} {Γ Γ1 Γ2 : SC} {e a b c : Expr} {es : List Expr} {pos p0 : Pos}
theorem EX.mono {A B : PyData → Prop} (h : EX X H0 M Γ e Γ1 (xI X.K A)) (q : ∀ d, A d → B d) : EX X H0 M Γ e Γ1 (xI X.K B) := fun g σ H Q r k =>
  h g σ H Q r fun v H' r' s ⟨d, p, m⟩ => k v H' r' s ⟨d, q d p, m⟩
end
/-! ### statements -/
/-- from where the ends D' are reached if D's are -/
structure Imp (g : Hp → Prop) (D D' : Ends) : Prop where
  nx : ∀ σ H, g H → D.nx σ H → D'.nx σ H
  rt : ∀ v H, g H → D.rt v H → D'.rt v H
  bk : ∀ σ H, g H → D.bk σ H → D'.bk σ H
  ct : ∀ σ H, g H → D.ct σ H → D'.ct σ H
abbrev Far (g : Gs) (H : Hp) : Hp → Prop := fun H' => Gw H H' ∧ Kept g H'
theorem Imp.go {g : Gs} {H H' : Hp} {D D' : Ends} (h : Imp (Far g H) D D') (s : Gw H H') : Imp (Far g H') D D' :=
  ⟨fun σ H1 f => h.nx σ H1 ⟨s.trans f.1, f.2⟩, fun σ H1 f => h.rt σ H1 ⟨s.trans f.1, f.2⟩, fun σ H1 f => h.bk σ H1 ⟨s.trans f.1, f.2⟩, fun σ H1 f => h.ct σ H1 ⟨s.trans f.1, f.2⟩⟩
structure DD where
  rt : VK
  nx : Gs → St → Hp → Prop := fun _ _ _ => False
  bk : Gs → St → Hp → Prop := fun _ _ _ => False
  ct : Gs → St → Hp → Prop := fun _ _ _ => False
abbrev DD.at (D : DD) (g : Gs) : Ends := { nx := D.nx g, rt := D.rt, bk := D.bk g, ct := D.ct g }
section
variable {X : Cx} {H0 : Hp} {M : List Addr} {Γ Γ1 Γ2 : SC} {e c : Expr} {es : List Expr} {pos p0 : Pos} {rest body orelse : List Stmt} {D : DD}
theorem cons_w {s1 : Stmt} {D' : Ends} {σ : St} {H : Hp} (h : wS X s1 { D' with nx := fun σ' H' => wSs X rest D' σ' H' } σ H) : wSs X (s1 :: rest) D' σ H := wSs.of (pss_cons ps_w pss_w) h
theorem wS.of' {s1 : Stmt} {t : TS} {D' : Ends} {σ : St} {H : Hp} (h : PS X s1 t) (q : t { D' with nx := fun σ' H' => wSs X rest D' σ' H' } σ H) : wSs X (s1 :: rest) D' σ H := cons_w (wS.of h q)
/-- M is still there -/
def MOk (X : Cx) (H0 : Hp) (M : List Addr) (Γ : SC) : Prop := ∀ g σ H, R X.K H0 M g Γ σ H → ∀ a ∈ M, H0 a ≠ none → H a ≠ none
theorem MOk.nil : MOk X H0 [] Γ := fun _ _ _ _ a h => nomatch h
end
end G
/-! G: for i, x in enumerate(a tuple), out of the library's GoesN. -/
namespace G
open PySem PySem.Spec PyProof.Rows L2
theorem made_enum {v : Value} {ob : Obj} {Z : Heap → Prop} (B : Begins v ob Z) : Meets (Builtin.«enumerate.__new__» ⟨[.type "enumerate", v], []⟩) (fun _ R s =>
    Z s.heap ∧ R (.ok (.ret (.ref (s.heap.push ob).objs.size)))
      { s with heap := (s.heap.push ob).push { cls := .type "enumerate", data := .fields #[.none, .bool false, .ref s.heap.objs.size, rawInt 0, .none, .none] } }) :=
  .of_wp fun prog w A R ⟨hp, ge, dr, tk, os⟩ ⟨hz, hR⟩ => by
    have subE := sub_enumerate
    have it : ∀ {A' : Around} {E Q : Value → Shared → Prop}, Q (.ref hp.objs.size) ⟨hp.push ob, ge, dr, tk, os⟩ → wpAny (model prog w) A' (pyIter v) Q E ⟨hp, ge, dr, tk, os⟩ := fun q => B.iter prog w _ _ ⟨hp, ge, dr, tk, os⟩ _ hz q
    wp_walk using it
    refine wpAny_stack_any fun _ => wpAny_pure ?_
    split
    · rename_i k _ _ _ _ _
      cases (k == Value.type "enumerate") <;> (wp_walk using it; exact ⟨_, rfl, hR⟩)
    · wp_walk using it; exact ⟨_, rfl, hR⟩
/-- the tuple at a, each item in a new pair with its place -/
def Iteu (K : PySem.W.Frag) (a : Addr) : It where
  go i H := ∃ xs x, SqT K H a xs ∧ xs[i]? = some x
  yld i H v H' := ∃ T x, v = .ref T ∧ H T = none ∧ H' = upd H T (.tup [.int (i : Nat), x]) ∧ ∀ xs, SqT K H a xs → xs[i]? = some x
  stop i H := ∃ xs, SqT K H a xs ∧ xs.length = i
abbrev EnumAt (e it a : Addr) (i : Nat) (h : Heap) : Prop := (∃ old, IsEnum h e it (0 + (i : Int)) old) ∧ h.IsTupleIter it a i
theorem EnumAt.there {e it a b : Addr} {i : Nat} {h : Heap} (st : EnumAt e it a i h) (hb : b = e ∨ b = it) : ∃ o, h.get? b = some o ∧ (∀ v, o.data ≠ .cell v) ∧ o.cls ≠ .type "tuple" := by
  obtain ⟨⟨old, he⟩, o, ho, hc, hd⟩ := st
  rcases hb with rfl | rfl
  · exact ⟨_, he, (by intro v q; cases q), fun q => absurd (show Value.type "enumerate" = Value.type "tuple" from q) (by decide)⟩
  · exact ⟨o, ho, (by intro v q; rw [hd] at q; cases q), fun q => absurd (show Value.type "tuple_iterator" = Value.type "tuple" from hc.symm.trans q) (by decide)⟩
theorem EnumAt.goes {X : Cx} {elts : List Expr} {kk : Nat} {tpos : Pos} {e it a : Addr} {i : Nat} {pins : List (Addr × Obj)} {σ : St} {H : Hp} {s : Shared} {xs : List V} (I : Inv X pins σ H s) (hc : X.calm = true) (ne : e ≠ it) (st : EnumAt e it a i s.heap) (hq : SqT X.K H a xs) :
    ∃ its : List Value, Vals xs its ∧ s.heap.IsTuple a its.toArray ∧ GoesN X.prog X.w X.A (.Tuple elts kk tpos) e (e :: [it, a]) [e, it] its.toArray.size
      (fun i h₀ v h => ∃ T t x, v = .ref T ∧ its.toArray[i]? = some x ∧ h.IsTuple T #[.int (0 + (i : Int)) t, x] ∧ h₀.objs.size ≤ T) (fun i h => (∃ old, IsEnum h e it (0 + (i : Int)) old) ∧ h.IsTupleIter it a i ∧ h.IsTuple a its.toArray) := by
  obtain ⟨its, rv, p, _⟩ := I.tuple hq
  obtain ⟨oa, ha, ca, _⟩ := id p
  have away : ∀ b, b = e ∨ b = it → b ≠ a := fun b hb z => by
    obtain ⟨o, ho, _, hn⟩ := st.there hb
    rw [z, ha] at ho
    exact hn (Option.some.inj ho ▸ ca)
  have D := Draws.tuple (prog := X.prog) (w := X.w) (A := X.A.in1) (I.ok.hd hc) it a (Ne.symm (away it (.inr rfl))) its.toArray
  exact ⟨its, rv, p, (GoesN.enumFrom 0 D e ne (by simp [ne, away e (.inl rfl)]) (by simp)).mono fun i h₀ v h _ ⟨T, t, x, y1, y2, y3, y4⟩ => ⟨T, t, x, y1, y3, y4, y2⟩⟩
theorem turn_enumT {P : Program} {w : World} {K : PySem.W.Frag} {elts : List Expr} {kk : Nat} {tpos : Pos} (a e it : Addr) (ne : e ≠ it) : Turn P w K (.Tuple elts kk tpos) (Iteu K a) [e, it] e (EnumAt e it a) where
  mem := List.mem_cons_self
  obj i h st b hb := by
    obtain ⟨o, h1, h2, _⟩ := st.there (b := b) (by simpa using hb)
    exact ⟨o, h1, h2⟩
  keep i h h' st k := by
    obtain ⟨⟨old, he⟩, hi⟩ := st
    exact ⟨⟨old, k e (by simp) _ he⟩, hi.at fun o q => k it (by simp) o q⟩
  item := by
    rintro X rfl rfl rfl hc i pins s σ H E I hf st ⟨xs, x, hq, hx⟩
    obtain ⟨its, rv, p, W⟩ := st.goes (elts := elts) (kk := kk) (tpos := tpos) I hc ne hq
    obtain ⟨u, hu, ru⟩ := rv.get hx
    have lt : ∀ b, b ∈ [e, it] → b < s.heap.objs.size := fun b hb => by
      obtain ⟨o, h1, _⟩ := st.there (b := b) (by simpa using hb)
      exact Heap.lt_size h1
    refine W.goes i s _ E (by have := (List.getElem?_eq_some_iff.mp hu).1; simpa using this) ⟨st.1, st.2, p⟩ fun v h' tk y st' kept _ => ?_
    obtain ⟨T, t, z, rfl, hz, ⟨oT, hT, cT, nT, dT⟩, new⟩ := y
    have ez : z = u := Option.some.inj ((show its.toArray[i]? = some z from hz).symm.trans (by simpa using hu))
    subst ez
    have ei : (0 : Int) + (i : Int) = ((i : Nat) : Int) := by omega
    rw [ei] at dT
    have obj : ObjOk X.prog X.w (upd H T (.tup [.int (i : Nat), x])) h' T (.tup [.int (i : Nat), x]) := ⟨by show 2 ≤ sizeLine; decide, [.int i t, z], .cons ⟨t, rfl⟩ (.cons ru .nil), oT, hT, cT, nT, dT⟩
    refine ⟨.ref T, _, I.turnedNew (ch := [e, it]) kept hf new obj, rfl, ⟨T, x, rfl, I.hok.fresh new, rfl, fun ys hy => (I.tuple_inj hy hq) ▸ hx⟩, ⟨st'.1, st'.2.1⟩, fun b hb => ?_⟩
    rw [upd_ne (Nat.ne_of_lt (Nat.lt_of_lt_of_le (lt b hb) new))]
    exact (hf b hb).1
  done := by
    rintro X rfl rfl rfl hc i pins s σ H E I hf st ⟨xs, hq, hx⟩
    obtain ⟨its, rv, p, W⟩ := st.goes (elts := elts) (kk := kk) (tpos := tpos) I hc ne hq
    have li : its.toArray.size = i := by rw [← hx, rv.length]; simp
    subst li
    obtain ⟨f0, f1, f2, f3, f4, f5⟩ := hf it (by simp)
    refine W.stops s _ E ⟨st.1, st.2, p⟩ fun h' tk kept _ => I.turnedL kept hf
  self A i s Q E st h := by
    obtain ⟨⟨old, he⟩, _⟩ := st
    exact wpAny_pyIter_enum he h
theorem pi_enumT {X : Cx} {e : Expr} {ta : TA} {p pos tpos : Pos} {elts : List Expr} {kk : Nat} (hg : Gl X "enumerate") (hm : X.mg "enumerate" = none) (ha : PA X [e] ta) (hs : starEach [e] X.env = [(false, eval e X.env)] := by rfl) :
    PI X (.Tuple elts kk tpos) (.Call (.Name "enumerate" p) [e] [] pos) (fun σ H R => ta σ H fun vs H1 => ∃ a xs, vs = [.ref a] ∧ SqT X.K H1 a xs ∧ R (Iteu X.K a) H1) where
  run pins s σ H R I h := by
    refine Call_ (ld_blt I hg hm boot_enumerate (PyProof.Rows.callWith_type1 (thn (ha.run pos pins s σ H _ I h) ?_) hs rfl))
    rintro us ⟨hp, ge, dr, tk, os⟩ ⟨vs, H1, J, r1, a, xs, rfl, hq, q⟩
    obtain ⟨u, rfl, ru⟩ := vals1 r1
    obtain rfl : u = Value.ref a := ru
    obtain ⟨its, _, tup, _⟩ := J.tuple hq
    have szI : ∀ o : Obj, (hp.push o).objs.size = hp.objs.size + 1 := fun o => Heap.size_push ..
    refine callType_new F.called_enumerate (by decide) (F.typeCall_enumerate_1 _) (F.newCall_enumerate_1 _) (fun o => F.args_object_init_2 o _) F.entry_enumerate_new (made_enum (begins_tuple a its.toArray)) ⟨tup, ?_⟩
    generalize hI : (hp.push { cls := .type "tuple_iterator", data := .fields #[.ref a, .int 0 0] }) = hi
    have sI : hi.objs.size = hp.objs.size + 1 := by rw [← hI]; exact szI _
    have eI : hi.get? hp.objs.size = some { cls := .type "tuple_iterator", data := .fields #[.ref a, .int 0 0] } := by rw [← hI]; exact Heap.get?_push_size _ rfl
    have kI' : ∀ b o, hp.get? b = some o → hi.get? b = some o := fun b o z => by rw [← hI]; exact Heap.get?_push_of_some _ z
    have eE := Heap.get?_push_size hi (o := { cls := .type "enumerate", data := .fields #[.none, .bool false, .ref hp.objs.size, rawInt 0, .none, .none] }) rfl
    refine ⟨⟨_, eE, rfl⟩, wpAny_pyIter_enum eE ?_⟩
    have ne : hi.objs.size ≠ hp.objs.size := by rw [sI]; exact Nat.succ_ne_self _
    refine ⟨hi.objs.size, [hi.objs.size, hp.objs.size], _, Iteu X.K a, H1, rfl, J.kept (t' := tk) (fun b o z => Heap.get?_push_of_some _ (kI' b o z)), turn_enumT a hi.objs.size hp.objs.size ne, ⟨⟨.none, eE⟩, _, Heap.get?_push_of_some _ eI, rfl, rfl⟩, fun b hb => ?_, q⟩
    have ge' : hp.objs.size ≤ b := by
      have z : b = hi.objs.size ∨ b = hp.objs.size := by simpa using hb
      rcases z with z | z
      · rw [z, sI]; exact Nat.le_succ _
      · rw [z]; exact Nat.le_refl _
    exact J.fpOk ge' (J.hok.fresh ge')
end G
namespace G
open PySem PySem.Spec PyProof.Rows L2
/-! ### fewer slots known -/
inductive Sub : SC → SC → Prop
  | nil : Sub [] []
  | k {x : SD} {Γ Γ' : SC} : Sub Γ Γ' → Sub (x :: Γ) (x :: Γ')
  | n {x : SD} {Γ Γ' : SC} : Sub Γ Γ' → Sub (x :: Γ) (.no :: Γ')
theorem Sub.e {x y : SD} {Γ Γ' : SC} (h : x = y) (s : Sub Γ Γ') : Sub (x :: Γ) (y :: Γ') := h ▸ .k s
theorem Sub.refl : ∀ Γ : SC, Sub Γ Γ
  | [] => .nil
  | _ :: r => .k (Sub.refl r)
theorem Sub.len : ∀ {Γ Γ' : SC}, Sub Γ Γ' → Γ'.length = Γ.length
  | _, _, .nil => rfl
  | _, _, .k h => congrArg (· + 1) h.len
  | _, _, .n h => congrArg (· + 1) h.len
theorem Sub.at : ∀ {Γ Γ' : SC}, Sub Γ Γ' → ∀ i, Γ'.getD i .no = Γ.getD i .no ∨ Γ'.getD i .no = .no
  | _, _, .nil, i => .inl rfl
  | _, _, .k h, 0 => .inl rfl
  | _, _, .k h, i + 1 => h.at i
  | _, _, .n h, 0 => .inr rfl
  | _, _, .n h, i + 1 => h.at i
theorem R.sub {K : PySem.W.Frag} {H0 H : Hp} {M : List Addr} {g : Gs} {Γ Γ' : SC} {σ : St} (r : R K H0 M g Γ σ H) (s : Sub Γ Γ') : R K H0 M g Γ' σ H := r.weak s.len s.at
/-! ### for -/
section
variable {X : Cx} {H0 : Hp} {M : List Addr} {Γ Γ1 Γ2 : SC} {e c iter : Expr} {es : List Expr} {pos p0 : Pos} {rest body : List Stmt} {D : DD} {B : SC → Prop}
theorem Imp.refl (g : Hp → Prop) (D : Ends) : Imp g D D := ⟨fun _ _ _ h => h, fun _ _ _ h => h, fun _ _ _ h => h, fun _ _ _ h => h⟩
end
end G
namespace G
open PySem PySem.Spec PyProof.Rows L2
/-! ### comprehensions -/
/-- the slots in a comprehension's block -/
def wipeC (Γ : SC) : List Nat → SC
  | [] => Γ
  | v :: vs => (wipeC Γ vs).set v .no
theorem R.wipe {K : PySem.W.Frag} {H0 H : Hp} {M : List Addr} {g : Gs} {Γ : SC} {σ : St} (r : R K H0 M g Γ σ H) : ∀ vs : List Nat, R K H0 M g (wipeC Γ vs) (wipe σ vs) H
  | [] => r
  | v :: vs => by
    have ih := R.wipe r vs
    obtain ⟨own, h1, h2, h3⟩ := ih.slots
    refine ⟨ih.but, by show ((L2.wipe σ vs).set v none).length = ((wipeC Γ vs).set v .no).length; rw [List.length_set, List.length_set, ih.len], fun j => if j = v then [] else own j, fun j => ?_, fun i j hij p hp => ?_, fun q hq => ⟨(h3 q hq).1, fun i z => ?_⟩⟩
    · show SlotOk K H0 M g H (if j = v then [] else own j) (((L2.wipe σ vs).set v none).getD j none) (((wipeC Γ vs).set v .no).getD j .no)
      rw [getD_set, getD_set]
      by_cases hj : v = j
      · subst hj
        simp only [if_true]
        have e : (if v < (wipeC Γ vs).length then SD.no else SD.no) = SD.no := by split <;> rfl
        rw [e]; rfl
      · rw [if_neg hj, if_neg hj, if_neg (Ne.symm hj)]
        exact h1 j
    · have hp' : p ∈ (if i = v then [] else own i) := hp
      show p ∉ (if j = v then [] else own j)
      by_cases hi : i = v
      · rw [if_pos hi] at hp'; cases hp'
      · rw [if_neg hi] at hp'
        by_cases hj : j = v
        · rw [if_pos hj]; exact fun z => nomatch z
        · rw [if_neg hj]; exact h2 i j hij p hp'
    · have z' : q.1 ∈ (if i = v then [] else own i) := z
      by_cases hi : i = v
      · rw [if_pos hi] at z'; cases z'
      · rw [if_neg hi] at z'; exact (h3 q hq).2 i z'
section
variable {X : Cx} {H0 : Hp} {M : List Addr} {Γ Γ1 Γ2 : SC} {e c iter elt : Expr} {es : List Expr} {pos p0 : Pos}
/-- the contexts of a comprehension's block -/
abbrev Blk (X : Cx) (scope : Scope) (φ : Cx → Prop) : Prop := ∀ (s : Shared) (H : Hp) (C : Addr) (cl : List (Str × Addr)) (fp : List Addr), φ (X.blk s H scope (compEnvC scope cl C X.env) fp)
def wEB (X : Cx) (scope : Scope) (e : Expr) : TE := fun σ H Q => Blk X scope fun Y => wE Y e σ H Q
def wTB (X : Cx) (scope : Scope) (e : Expr) : TT := fun σ H Q => Blk X scope fun Y => wT Y e σ H Q
end
end G
namespace G
open PySem PySem.Spec PyProof.Rows L2
section
variable {X : Cx} {H0 : Hp} {M : List Addr} {Γ Γ1 Γ2 : SC} {e a b c iter elt : Expr} {es : List Expr} {pos p0 : Pos} {rest body : List Stmt} {D : DD}
/-! ### isinstance -/
def tyD : PyData → String
  | .none => "NoneType"
  | .bool _ => "bool"
  | .int _ => "int"
  | .str _ => "str"
  | .list _ => "list"
  | .tuple _ => "tuple"
  | .dict _ => "dict"
theorem Im.ty {K : PySem.W.Frag} {H : Hp} : ∀ {d : PyData} {v : V}, Im K H v d → TyX K H v (.type (tyD d))
  | .none, _, h => by cases h; exact .base .non
  | .bool b, _, h => by cases h; exact .base (.bl b)
  | .int i, _, h => by cases h; exact .base (.int i)
  | .str x, _, h => by cases h; exact .base (.str x)
  | .tuple ds, _, h => by
    cases h with
    | tup a b =>
      rcases a with (a | ⟨o, a⟩) | ⟨o, its, n, hk, hc, _⟩
      · exact .base (.tup a)
      · exact .fTuple a
      · exact .kTuple hk hc
  | .list _, _, h => by cases h
  | .dict _, _, h => by cases h
/-! ### len -/
/-- a new list is a list -/
theorem EL.o {ds : List PyData} (h : EL X H0 M Γ e ds) : EE X H0 M Γ e (kO X.K ds) := h.mono fun H v H' s ⟨p, vs, e, _, q, m⟩ => ⟨p, vs, e, q, m⟩
/-! ### abs, int -/
/-! ### list(..), tuple(..) -/
/-- the keys of a dict of one's own, in a new list -/
def keyD : Key → PyData
  | .inl i => .int i
  | .inr x => .str x
theorem ImKv.keys {K : PySem.W.Frag} {H : Hp} : ∀ {vs : List (Key × V)} {ds : List (Key × PyData)}, ImKv K H vs ds → ImAll K H (vs.map fun kv => L2.kV kv.1) (ds.map fun kv => keyD kv.1)
  | _, _, .nil => .nil
  | (k, v) :: vs, (k', d) :: ds, .cons h t => by
    obtain ⟨h1, _⟩ := h
    have h1' : k = k' := h1
    subst h1'
    refine .cons ?_ (ImKv.keys t)
    cases k with
    | inl i => exact .int i
    | inr x => exact .str x
/-! ### list + list -/
/-! ### == of lists -/
/-! ### in a list -/
/-! ### 0 <= i < n -/
/-! ### stores -/
def putD (kvs : List (Key × PyData)) (k : Key) (v : PyData) : List (Key × PyData) :=
  if (kvs.any fun kv => decide (kv.1 = k)) = true then kvs.map (fun kv => if kv.1 = k then (kv.1, v) else kv) else kvs ++ [(k, v)]
theorem ImKv.any {K : PySem.W.Frag} {H : Hp} (k : Key) : ∀ {vs : List (Key × V)} {ds : List (Key × PyData)}, ImKv K H vs ds → (vs.any fun kv => decide (kv.1 = k)) = (ds.any fun kv => decide (kv.1 = k))
  | _, _, .nil => rfl
  | _, _, .cons h t => by
    rw [List.any_cons, List.any_cons, ImKv.any k t, h.1]
theorem ImKv.map {K : PySem.W.Frag} {H : Hp} {k : Key} {v : V} {d : PyData} (m : Im K H v d) : ∀ {vs : List (Key × V)} {ds : List (Key × PyData)}, ImKv K H vs ds → ImKv K H (vs.map fun kv => if kv.1 = k then (kv.1, v) else kv) (ds.map fun kv => if kv.1 = k then (kv.1, d) else kv)
  | _, _, .nil => .nil
  | p :: _, q :: _, .cons h t => by
    refine .cons ?_ (ImKv.map m t)
    by_cases e : p.1 = k
    · dsimp only; rw [if_pos e, if_pos (h.1 ▸ e)]; exact ⟨h.1, m⟩
    · dsimp only; rw [if_neg e, if_neg (h.1 ▸ e)]; exact h
theorem ImKv.app {K : PySem.W.Frag} {H : Hp} {k : Key} {v : V} {d : PyData} (m : Im K H v d) : ∀ {vs : List (Key × V)} {ds : List (Key × PyData)}, ImKv K H vs ds → ImKv K H (vs ++ [(k, v)]) (ds ++ [(k, d)])
  | _, _, .nil => .cons ⟨rfl, m⟩ .nil
  | _, _, .cons h t => .cons h (ImKv.app m t)
theorem ImKv.put {K : PySem.W.Frag} {H : Hp} {k : Key} {v : V} {d : PyData} {vs : List (Key × V)} {ds : List (Key × PyData)} (m : Im K H v d) (h : ImKv K H vs ds) : ImKv K H (putK vs k v) (putD ds k d) := by
  unfold putK putD
  rw [h.any k]
  split
  · exact h.map m
  · exact h.app m
theorem ImKv.len {K : PySem.W.Frag} {H : Hp} : ∀ {vs : List (Key × V)} {ds : List (Key × PyData)}, ImKv K H vs ds → vs.length = ds.length
  | _, _, .nil => rfl
  | _, _, .cons _ t => congrArg (· + 1) (ImKv.len t)
end
/-! ### defs -/
end G
/-! G: errors. -/
namespace G
open PySem PySem.Spec PyProof.Rows L2
/-- the ends of a suite behind «except x as n»: slot i is empty -/
def Ends.gone (D : Ends) (i : Nat) : Ends where
  nx σ H := D.nx (σ.set i none) H
  rt := D.rt
  bk σ H := D.bk (σ.set i none) H
  ct σ H := D.ct (σ.set i none) H
section
variable {X : Cx} {x n : Str} {c : Value} {i : Nat} {body suite orelse : List Stmt} {b₀ : Stmt} {np pos pos' : Pos} {tb : WX → TS} {ts : Addr → Value → Option Addr → TS} {Wout : WX} {u : TS}
/-- what an error that the clause takes comes to -/
theorem caught_as (hs : X.stack = X.env :: X.outer) (hf : X.env.frame = some X.env.locals) (hN : X.N.Nodup) (hi : X.N[i]? = some n) (hln : X.env.kindOf n = some .local) (hc : Names X x c)
    (hsu : ∀ (a : Addr) (oe : Obj) (cls : Value) (d : Option Addr) (pn : List (Addr × Obj)), Zc cls d oe → (∃ vs, oe.data = .fields vs) → PSs (X.suite a ((a, oe) :: pn)) (b₀ :: suite) (ts a cls d))
    {pins : List (Addr × Obj)} {D : Ends} {xe : Value → Shared → Prop} {cls : Value} {d : Option Addr} {a : Addr} {B : Heap} {sI s' : Shared} {pins' : List (Addr × Obj)} {σ' : St} {H' : Hp} (J' : Inv (X.tr (X.pn ++ pins) xe) pins' σ' H' sI) (ok : X.Ok)
    (nb : ∀ b o, sI.heap.get? b = some o → b ∉ frs X.stack → B.get? b = some o) (up : sI.heap.UpToSlots s'.heap) (sky : Sky B X.stack a (Zc cls d) X.env.locals s'.heap) (na : H' a = none) (os : s'.os = sI.os) (ag : AllBare s'.gens)
    (hex : PySem.W.exmOne X.K cls c = some true) (hyes : ts a cls d (Ends.gone D i) (σ'.set i (some (.ref a))) H') :
    wpAny (model X.prog X.w) X.A (noteFrame (.ref a) X.env) (fun _ s₂ => wpAny (model X.prog X.w) X.A (setFlight (.ref a) none) (fun _ s₃ =>
      wpAny (model X.prog X.w) X.A (handleBy (.ref a) X.env [.ExceptHandler (some (.Name x np)) (some n) (b₀ :: suite) pos']) (SP X pins D) X.xe s₃) X.xe s₂) X.xe s' := by
  have fr : X.A.frames = some (X.env :: X.outer) := hs ▸ ok.frames
  have home := Inv.ofTry J' ok
  refine Sky.land Zc.steady fr hf (hs ▸ sky) fun hA flA upA => ?_
  obtain ⟨oA, vA, eA, zA, dA⟩ := flA.there
  have off : a ∉ frs (X.env :: X.outer) := fun m => by
    obtain ⟨_, o, e, no⟩ := flA.2.2.1.mem m
    exact no _ (Option.some.inj (eA.symm.trans e) ▸ dA)
  have offL : a ≠ X.env.locals := fun z => off (List.mem_filterMap.mpr ⟨X.env, List.mem_cons_self, z ▸ hf⟩)
  have offF : a ∉ X.fs := fun m => by
    obtain ⟨e, he, q⟩ := List.mem_filterMap.mp m
    exact off (List.mem_filterMap.mpr ⟨e, List.mem_cons_of_mem _ he, q⟩)
  have JA := home.landed (s' := { s' with heap := hA }) nb flA.1 (up.trans upA) os ag
  have SA := JA.suite eA dA na offL offF
  refine wpAny_handleBy_cons (codeAny_handlers_test ?_) (fun q => nomatch q)
  have typ : PySem.W.Looks (model X.prog X.w) hA (typeOf (.ref a)) cls := fun _ _ _ s k q => wpAny_typeOf_ref (k _ _ eA) (by rw [zA.1]; exact q)
  have look := PySem.W.exm_one (M := model X.prog X.w) JA.kIn typ hex
  have named : ∀ {Q E : Value → Shared → Prop}, Q c { s' with heap := hA } → wpAny (model X.prog X.w) (X.A.mark (some (.ref a))) (eval (.Name x np) X.env) Q E { s' with heap := hA } := fun q => by
    rcases hc with ⟨g1, g2, m | ⟨m, v, ne⟩⟩
    · exact ld_glob (X := X.suite a _) SA g1 m q g2
    · exact ld_blt (X := X.suite a _) SA g1 m v q ne g2
  refine named (look.here ?_)
  refine codeAny_handlers_suite_as (HandSPX.lands_againZ flA fun hB flB upB => ?_)
  obtain ⟨oB, vB, eB, zB, dB⟩ := flB.there
  have SB := (home.landed (s' := { s' with heap := hB }) nb flB.1 ((up.trans upA).trans upB) os ag).suite eB dB na offL offF
  refine store_ok (X := X.suite a ((a, oB) :: (X.pn ++ pins))) (v := .ref a) SB hN hi (.inl hln) rfl (fun sC SC => ?_) (.inr hln)
  refine wpAny_mono ((hsu a oB cls d (X.pn ++ pins) zB ⟨vB, dB⟩).run [] sC _ H' _ SC hyes) (fun f sD q => ?_) (fun _ _ z => z.elim)
  have out : ∀ {σD : St} {HD : Hp} {Q : Shared → Prop}, Inv (X.suite a ((a, oB) :: (X.pn ++ pins))) [] σD HD sD → (∀ sE, Inv X pins (σD.set i none) HD sE → Q sE) →
      wpAny (model X.prog X.w) X.A (do bindName X.env n .none; unbindBehindTheSuite X.env n pos') (fun _ sE => Q sE) X.xe sD := fun S q => gone_ok (S.unsuite ok) hN hi hln q
  cases f with
  | ret w =>
    obtain ⟨v, σD, HD, S, r, q⟩ := q
    exact out S fun _ J => ⟨_, _, _, J, r, q⟩
  | next => obtain ⟨σD, HD, S, q⟩ := q; exact out S fun _ J => ⟨_, _, J, q⟩
  | brk => obtain ⟨σD, HD, S, q⟩ := q; exact out S fun _ J => ⟨_, _, J, q⟩
  | cont => obtain ⟨σD, HD, S, q⟩ := q; exact out S fun _ J => ⟨_, _, J, q⟩
/-- try: body / except x as n: suite / else: orelse; every error that the body lets out is the clause's -/
theorem ps_try_asE (ho : PSs X orelse u) (hs : X.stack = X.env :: X.outer) (hf : X.env.frame = some X.env.locals) (hN : X.N.Nodup) (hi : X.N[i]? = some n) (hln : X.env.kindOf n = some .local) (hc : Names X x c)
    (hb : ∀ (W : WX) (pn : List (Addr × Obj)) (xe : Value → Shared → Prop), Takes (X.tr pn xe) W → PassesOwn (model X.prog X.w) X.A X.env xe → PSs (X.tr pn xe) body (tb W))
    (hsu : ∀ (a : Addr) (oe : Obj) (cls : Value) (d : Option Addr) (pn : List (Addr × Obj)), Zc cls d oe → (∃ vs, oe.data = .fields vs) → PSs (X.suite a ((a, oe) :: pn)) (b₀ :: suite) (ts a cls d)) :
    PS X (.Try body [.ExceptHandler (some (.Name x np)) (some n) (b₀ :: suite) pos'] orelse [] pos) (fun D σ H =>
      tb (fun cls d σ H => PySem.W.exmOne X.K cls c = some true ∧ ∀ a, H a = none → ts a cls d (Ends.gone D i) (σ.set i (some (.ref a))) H) { D with nx := u D } σ H) := by
  refine ⟨fun pins s σ H D I h => wpAny_Try_except ?_⟩
  refine wpAny_mono ((hb _ (X.pn ++ pins) _ (fun e s' q => ?_) PassesOwn.looking).run [] s σ H _ (I.toTry _) h) (fun f s' q => ?_) (fun _ _ q => q)
  · obtain ⟨a, B, sI, pins', σ', H', cls, d, rfl, J', nb, up, sky, na, os, ag, w1, w2⟩ := q
    exact caught_as hs hf hN hi hln hc hsu J' I.ok nb up sky na os ag w1 (w2 a na)
  · cases f with
    | next =>
      obtain ⟨σ', H', J, q⟩ := q
      exact ho.run pins s' σ' H' D (J.ofTry I.ok) q
    | ret w =>
      obtain ⟨v, σ', H', J, r, q⟩ := q
      exact ⟨v, σ', H', J.ofTry I.ok, r, q⟩
    | brk => obtain ⟨σ', H', J, q⟩ := q; exact ⟨σ', H', J.ofTry I.ok, q⟩
    | cont => obtain ⟨σ', H', J, q⟩ := q; exact ⟨σ', H', J.ofTry I.ok, q⟩
end
end G
/-! G: errors over slots. -/
namespace G
open PySem PySem.Spec PyProof.Rows L2
abbrev veMro : List Value := [.type "ValueError", .type "Exception", .type "BaseException", .type "object"]
/-- an error class of one's own under ValueError, without an __init__ -/
structure ExcF (K : PySem.W.Frag) (mg : Str → Option Value) (x : Str) (C : Addr) : Prop where
  q : PySem.W.excIn K C veMro "ValueError.__new__" = true
  g : mg x = some (.ref C)
  k : PySem.W.keepIn K (.ref C) = true
  b : PySem.W.subIn K (.ref C) (.type "BaseException") = some true
  t : PySem.W.typeIn K (.ref C) = some (.type "type")
  i : PySem.W.hasDictIn K C = true
theorem ExcF.caught' {K : PySem.W.Frag} {mg : Str → Option Value} {x : Str} {C : Addr} {cls : Value} {r : Bool} (F : ExcF K mg x C) (s : PySem.W.subIn K cls (.ref C) = some r) : PySem.W.exmOne K cls (.ref C) = some r := PySem.W.exm_ref F.b F.i F.t s
end G
/-! P: a program as plain functions; what does not change is a value, what a def alone holds stands in its slot, the rest are numbered objects. -/
namespace P
open PySem PySem.Spec PyProof.Rows L2 G
abbrev St := L2.St
structure Bs where
  K : PySem.W.Frag
  mg : Str → Option Value
abbrev bs (X : Cx) : Bs := ⟨X.K, X.mg⟩
/-! ### values -/
inductive FV where
  | non | bl (b : Bool) | int (i : Int) | str (x : Str) | tup (xs : List FV) | fl (xs : List FV) | sl (xs : List FV) | fd (ks : List Key) (vs : List FV) | ft (ks : List (List Key)) (vs : List FV) | fo (c : Str) (ks : List Str) (vs : List FV) | ref (n : Nat)
/-- objects that can change, by number -/
inductive FO where
  | lst (xs : List FV) | dK (kvs : List (Key × FV)) | dT (kvs : List (List Key × FV)) | ins (c : Str) (fs : List (Str × FV)) | lk (kvs : List (Key × FV))
abbrev FH := List FO
/-- a list that never changes -/
def FzL (K : PySem.W.Frag) (H : Hp) (a : Addr) (xs : List V) : Prop :=
  (∃ o, H a = some (.frz o (.lst xs))) ∨
    ∃ (o : Obj) (its : Array Value) (n : Nat), K.lookup a = some o ∧ o.cls = .type "list" ∧ o.dict = none ∧ o.data = .seq its n ∧ its.size ≤ sizeLine ∧ Vals xs its.toList
theorem FzL.sqL {K : PySem.W.Frag} {H : Hp} {a : Addr} {xs : List V} (h : FzL K H a xs) : SqL K H a xs := by
  rcases h with ⟨o, h⟩ | h
  · exact .inl (.inr ⟨o, h⟩)
  · exact .inr h
theorem FzL.gw {K : PySem.W.Frag} {H H' : Hp} {a : Addr} {xs : List V} (e : Gw H H') (h : FzL K H a xs) : FzL K H' a xs := by
  rcases h with ⟨o, h⟩ | h
  · exact .inl ⟨o, e.2 _ _ _ h⟩
  · exact .inr h
/-- a dict, an instance that never changes -/
def Fz (H : Hp) (a : Addr) (u : HO) : Prop := ∃ o, H a = some (.frz o u)
theorem Fz.gw {H H' : Hp} {a : Addr} {u : HO} (e : Gw H H') (h : Fz H a u) : Fz H' a u := h.imp fun _ h => e.2 _ _ _ h
theorem Fz.rd {H : Hp} {a : Addr} {u : HO} (h : Fz H a u) : Rd H a u := .inr h
/-! a value of the run is as the value told; objects stand where μ says, below n -/
mutual
inductive VR (B : Bs) (H : Hp) (μ : Nat → Addr) (n : Nat) : FV → V → Prop
  | non : VR B H μ n .non .non
  | bl (b : Bool) : VR B H μ n (.bl b) (.bl b)
  | int (i : Int) : VR B H μ n (.int i) (.int i)
  | str (x : Str) : VR B H μ n (.str x) (.str x)
  | tup {a : Addr} {xs : List V} {ds : List FV} : SqT B.K H a xs → VRs B H μ n ds xs → VR B H μ n (.tup ds) (.ref a)
  | fl {a : Addr} {xs : List V} {ds : List FV} : Fz H a (.lst xs) → VRs B H μ n ds xs → VR B H μ n (.fl ds) (.ref a)
  | sl {a : Addr} {xs : List V} {ds : List FV} : FzL B.K H a xs → VRs B H μ n ds xs → VR B H μ n (.sl ds) (.ref a)
  | fd {a : Addr} {ks : List Key} {xs : List V} {ds : List FV} : Fz H a (.dK (ks.zip xs)) → VRs B H μ n ds xs → VR B H μ n (.fd ks ds) (.ref a)
  | ft {a : Addr} {ks : List (List Key)} {xs : List V} {ds : List FV} : Fz H a (.dT (ks.zip xs)) → VRs B H μ n ds xs → VR B H μ n (.ft ks ds) (.ref a)
  | fo {a C dx : Addr} {c : Str} {ks : List Str} {xs : List V} {ds : List FV} : B.mg c = some (.ref C) → Fz H a (.ins C dx (ks.zip xs)) → VRs B H μ n ds xs → VR B H μ n (.fo c ks ds) (.ref a)
  | ref {i : Nat} : i < n → VR B H μ n (.ref i) (.ref (μ i))
inductive VRs (B : Bs) (H : Hp) (μ : Nat → Addr) (n : Nat) : List FV → List V → Prop
  | nil : VRs B H μ n [] []
  | cons {d : FV} {ds : List FV} {v : V} {vs : List V} : VR B H μ n d v → VRs B H μ n ds vs → VRs B H μ n (d :: ds) (v :: vs)
end
section
variable {B : Bs} {H H' : Hp} {μ μ' : Nat → Addr} {n n' m : Nat}
mutual
theorem VR.mono (g : Gw H H') (e : ∀ i, i < n → μ' i = μ i) (l : n ≤ n') : ∀ (d : FV) (v : V), VR B H μ n d v → VR B H' μ' n' d v
  | .non, _, h => by cases h; exact .non
  | .bl b, _, h => by cases h; exact .bl b
  | .int i, _, h => by cases h; exact .int i
  | .str x, _, h => by cases h; exact .str x
  | .tup ds, _, h => by
    cases h with
    | tup a b => exact .tup (g.sqt a) (VRs.mono g e l ds _ b)
  | .fl ds, _, h => by
    cases h with
    | fl a b => exact .fl (a.gw g) (VRs.mono g e l ds _ b)
  | .sl ds, _, h => by
    cases h with
    | sl a b => exact .sl (a.gw g) (VRs.mono g e l ds _ b)
  | .fd ks ds, _, h => by
    cases h with
    | fd a b => exact .fd (a.gw g) (VRs.mono g e l ds _ b)
  | .ft ks ds, _, h => by
    cases h with
    | ft a b => exact .ft (a.gw g) (VRs.mono g e l ds _ b)
  | .fo c ks ds, _, h => by
    cases h with
    | fo z a b => exact .fo z (a.gw g) (VRs.mono g e l ds _ b)
  | .ref i, _, h => by
    cases h with
    | ref a => rw [← e i a]; exact .ref (Nat.lt_of_lt_of_le a l)
theorem VRs.mono (g : Gw H H') (e : ∀ i, i < n → μ' i = μ i) (l : n ≤ n') : ∀ (ds : List FV) (vs : List V), VRs B H μ n ds vs → VRs B H' μ' n' ds vs
  | [], _, h => by cases h; exact .nil
  | d :: ds, _, h => by
    cases h with
    | cons a b => exact .cons (VR.mono g e l d _ a) (VRs.mono g e l ds _ b)
end
theorem VRs.len : ∀ {ds : List FV} {vs : List V}, VRs B H μ n ds vs → vs.length = ds.length
  | [], _, h => by cases h; rfl
  | d :: ds, _, h => by
    cases h with
    | cons a b => show _ + 1 = _ + 1; rw [VRs.len b]
theorem VRs.get : ∀ {ds : List FV} {vs : List V} {i : Nat} {d : FV}, VRs B H μ n ds vs → ds[i]? = some d → ∃ v, vs[i]? = some v ∧ VR B H μ n d v
  | [], _, i, d, h, e => by simp at e
  | d :: ds, _, 0, d', h, e => by
    cases h with
    | cons a b =>
      have e' : d = d' := Option.some.inj e
      subst e'
      exact ⟨_, rfl, a⟩
  | d :: ds, _, i + 1, d', h, e => by
    cases h with
    | cons a b => exact VRs.get (i := i) b (by simpa using e)
theorem VRs.get' : ∀ {ds : List FV} {vs : List V} {i : Nat} {v : V}, VRs B H μ n ds vs → vs[i]? = some v → ∃ d, ds[i]? = some d ∧ VR B H μ n d v
  | [], _, i, d, h, e => by cases h; simp at e
  | d :: ds, _, 0, d', h, e => by
    cases h with
    | cons a b =>
      have e' := Option.some.inj e
      subst e'
      exact ⟨_, rfl, a⟩
  | d :: ds, _, i + 1, d', h, e => by
    cases h with
    | cons a b => exact VRs.get' (i := i) b (by simpa using e)
theorem VRs.append : ∀ {ds es : List FV} {vs us : List V}, VRs B H μ n ds vs → VRs B H μ n es us → VRs B H μ n (ds ++ es) (vs ++ us)
  | [], _, _, _, h, g => by cases h; exact g
  | d :: ds, _, _, _, h, g => by
    cases h with
    | cons a b => exact .cons a (VRs.append b g)
theorem VRs.drop : ∀ {ds : List FV} {vs : List V} (k : Nat), VRs B H μ n ds vs → VRs B H μ n (ds.drop k) (vs.drop k)
  | _, _, 0, h => h
  | [], _, k + 1, h => by cases h; exact .nil
  | d :: ds, _, k + 1, h => by
    cases h with
    | cons a b => exact VRs.drop k b
theorem VRs.take : ∀ {ds : List FV} {vs : List V} (k : Nat), VRs B H μ n ds vs → VRs B H μ n (ds.take k) (vs.take k)
  | _, _, 0, h => .nil
  | [], _, k + 1, h => by cases h; exact .nil
  | d :: ds, _, k + 1, h => by
    cases h with
    | cons a b => exact .cons a (VRs.take k b)
theorem VRs.set : ∀ {ds : List FV} {vs : List V} {v : V} {d : FV} (k : Nat), VR B H μ n d v → VRs B H μ n ds vs → VRs B H μ n (ds.set k d) (vs.set k v)
  | [], _, _, _, k, a, h => by cases h; exact .nil
  | e :: ds, _, _, _, 0, a, h => by
    cases h with
    | cons _ b => exact .cons a b
  | e :: ds, _, _, _, k + 1, a, h => by
    cases h with
    | cons c b => exact .cons c (VRs.set k a b)
theorem VRs.rev : ∀ {ds : List FV} {vs : List V}, VRs B H μ n ds vs → VRs B H μ n ds.reverse vs.reverse
  | [], _, h => by cases h; exact .nil
  | d :: ds, _, h => by
    cases h with
    | cons a b => rw [List.reverse_cons, List.reverse_cons]; exact (VRs.rev b).append (.cons a .nil)
end
/-! no object at n or above is named -/
mutual
def FV.low (n : Nat) : FV → Prop
  | .ref i => i < n
  | .tup xs => FV.lows n xs
  | .fl xs => FV.lows n xs
  | .sl xs => FV.lows n xs
  | .fd _ xs => FV.lows n xs
  | .ft _ xs => FV.lows n xs
  | .fo _ _ xs => FV.lows n xs
  | _ => True
def FV.lows (n : Nat) : List FV → Prop
  | [] => True
  | x :: xs => x.low n ∧ FV.lows n xs
end
section
variable {B : Bs} {H : Hp} {μ μ' : Nat → Addr} {n m : Nat}
mutual
theorem VR.low : ∀ {d : FV} {v : V}, d.low m → VR B H μ n d v → VR B H μ m d v
  | .non, _, l, h => by cases h; exact .non
  | .bl b, _, l, h => by cases h; exact .bl b
  | .int i, _, l, h => by cases h; exact .int i
  | .str x, _, l, h => by cases h; exact .str x
  | .tup ds, _, l, h => by
    cases h with
    | tup a b => exact .tup a (VRs.low (by simpa [FV.low] using l) b)
  | .fl ds, _, l, h => by
    cases h with
    | fl a b => exact .fl a (VRs.low (by simpa [FV.low] using l) b)
  | .sl ds, _, l, h => by
    cases h with
    | sl a b => exact .sl a (VRs.low (by simpa [FV.low] using l) b)
  | .fd ks ds, _, l, h => by
    cases h with
    | fd a b => exact .fd a (VRs.low (by simpa [FV.low] using l) b)
  | .ft ks ds, _, l, h => by
    cases h with
    | ft a b => exact .ft a (VRs.low (by simpa [FV.low] using l) b)
  | .fo c ks ds, _, l, h => by
    cases h with
    | fo z a b => exact .fo z a (VRs.low (by simpa [FV.low] using l) b)
  | .ref i, _, l, h => by
    cases h with
    | ref a => exact .ref (by simpa [FV.low] using l)
theorem VRs.low : ∀ {ds : List FV} {vs : List V}, FV.lows m ds → VRs B H μ n ds vs → VRs B H μ m ds vs
  | [], _, l, h => by cases h; exact .nil
  | d :: ds, _, l, h => by
    cases h with
    | cons a b =>
      have l' : d.low m ∧ FV.lows m ds := by simpa [FV.lows] using l
      exact .cons (VR.low l'.1 a) (VRs.low l'.2 b)
end
end
/-! ### what a run may do to the heap -/
structure Step (μ : Nat → Addr) (n : Nat) (H : Hp) (μ' : Nat → Addr) (n' : Nat) (H' : Hp) : Prop where
  le : n ≤ n'
  ext : ∀ i, i < n → μ' i = μ i
  new : ∀ i, n ≤ i → i < n' → H (μ' i) = none
  fr : ∀ a o, H a = some o → (∀ i, i < n → μ i ≠ a) → H' a = some o
  th : ∀ a, H a ≠ none → H' a ≠ none
  gw : Gw H H'
section
variable {μ μ1 μ2 : Nat → Addr} {n n1 n2 : Nat} {H H1 H2 : Hp}
theorem Step.refl (μ : Nat → Addr) (n : Nat) (H : Hp) : Step μ n H μ n H := ⟨Nat.le_refl _, fun _ _ => rfl, fun i a b => absurd (Nat.lt_of_lt_of_le b a) (Nat.lt_irrefl _), fun _ _ h _ => h, fun _ h => h, Gw.refl H⟩
theorem Step.trans (a : Step μ n H μ1 n1 H1) (b : Step μ1 n1 H1 μ2 n2 H2) : Step μ n H μ2 n2 H2 where
  le := Nat.le_trans a.le b.le
  ext i h := (b.ext i (Nat.lt_of_lt_of_le h a.le)).trans (a.ext i h)
  new i h1 h2 := by
    by_cases h : i < n1
    · rw [b.ext i h]; exact a.new i h1 h
    · cases q : H (μ2 i) with
      | none => rfl
      | some o => exact absurd (b.new i (Nat.le_of_not_lt h) h2) (a.th _ (by rw [q]; exact fun z => nomatch z))
  fr c o h k := by
    refine b.fr c o (a.fr c o h k) fun i hi z => ?_
    by_cases hn : i < n
    · exact k i hn ((a.ext i hn).symm.trans z)
    · have := a.new i (Nat.le_of_not_lt hn) hi
      rw [z, h] at this; cases this
  th c h := b.th c (a.th c h)
  gw := a.gw.trans b.gw
theorem Step.same (e : Same H H1) : Step μ n H μ n H1 where
  le := Nat.le_refl _
  ext _ _ := rfl
  new i a b := absurd (Nat.lt_of_lt_of_le b a) (Nat.lt_irrefl _)
  fr _ _ h _ := e _ _ h
  th a h := by
    cases q : H a with
    | none => exact absurd q h
    | some o => rw [e a o q]; exact fun z => nomatch z
  gw := Same.gw e
/-- one more object is told -/
def ext1 (μ : Nat → Addr) (n : Nat) (p : Addr) : Nat → Addr := fun i => if i = n then p else μ i
theorem ext1_at {p : Addr} : ext1 μ n p n = p := if_pos rfl
theorem ext1_lt {p : Addr} {i : Nat} (h : i < n) : ext1 μ n p i = μ i := if_neg (Nat.ne_of_lt h)
theorem Step.tell {p : Addr} (s : Step μ n H μ1 n1 H1) (hp : H p = none) : Step μ n H (ext1 μ1 n1 p) (n1 + 1) H1 where
  le := Nat.le_trans s.le (Nat.le_succ _)
  ext i h := by rw [ext1_lt (Nat.lt_of_lt_of_le h s.le)]; exact s.ext i h
  new i h1 h2 := by
    by_cases h : i < n1
    · rw [ext1_lt h]; exact s.new i h1 h
    · have e : i = n1 := by omega
      subst e
      rw [ext1_at]; exact hp
  fr := s.fr
  th := s.th
  gw := s.gw
theorem Step.cut (s : Step μ n H μ1 n1 H1) (h : n ≤ n2) (h2 : n2 ≤ n1) : Step μ n H μ1 n2 H1 :=
  ⟨h, s.ext, fun i a b => s.new i a (Nat.lt_of_lt_of_le b h2), s.fr, s.th, s.gw⟩
theorem Step.mut {i : Nat} {o : HO} (h : i < n) (m : Mut (H (μ i))) : Step μ n H μ n (upd H (μ i) o) where
  le := Nat.le_refl _
  ext _ _ := rfl
  new i a b := absurd (Nat.lt_of_lt_of_le b a) (Nat.lt_irrefl _)
  fr c o' hc k := by rw [upd_ne (Ne.symm (k i h))]; exact hc
  th c hc := by
    by_cases e : c = μ i
    · rw [e, upd_same]; exact fun z => nomatch z
    · rw [upd_ne e]; exact hc
  gw := gw_mut m
/-- what is new since the beginning may change -/
theorem Step.own {p : Addr} {o : HO} (s : Step μ n H μ1 n1 H2) (hp : H p = none) (mu : Mut (H2 p)) : Step μ n H μ1 n1 (upd H2 p o) where
  le := s.le
  ext := s.ext
  new := s.new
  fr a u ha hk := by rw [upd_ne (fun z => by rw [z, hp] at ha; cases ha)]; exact s.fr a u ha hk
  th a ha := by
    by_cases z : a = p
    · rw [z, upd_same]; exact fun z => nomatch z
    · rw [upd_ne z]; exact s.th a ha
  gw := s.gw.trans (gw_mut mu)
theorem Step.vr {B : Bs} {d : FV} {v : V} (s : Step μ n H μ1 n1 H1) (h : VR B H μ n d v) : VR B H1 μ1 n1 d v := VR.mono s.gw s.ext s.le d v h
theorem Step.vrs {B : Bs} {d : List FV} {v : List V} (s : Step μ n H μ1 n1 H1) (h : VRs B H μ n d v) : VRs B H1 μ1 n1 d v := VRs.mono s.gw s.ext s.le d v h
end
/-! ### the heap told -/
def KvR {κ : Type} (B : Bs) (H : Hp) (μ : Nat → Addr) (n : Nat) : List (κ × FV) → List (κ × V) → Prop := Paired fun p q => p.1 = q.1 ∧ VR B H μ n p.2 q.2
section
variable {κ : Type} {B : Bs} {H H' : Hp} {μ μ' : Nat → Addr} {n n' m : Nat}
theorem KvR.mono (g : Gw H H') (e : ∀ i, i < n → μ' i = μ i) (l : n ≤ n') : ∀ {ds : List (κ × FV)} {vs : List (κ × V)}, KvR B H μ n ds vs → KvR B H' μ' n' ds vs
  | _, _, .nil => .nil
  | _, _, .cons a b => .cons ⟨a.1, VR.mono g e l _ _ a.2⟩ (KvR.mono g e l b)
def lowKv (n : Nat) (kvs : List (κ × FV)) : Prop := FV.lows n (kvs.map (·.2))
theorem KvR.low : ∀ {ds : List (κ × FV)} {vs : List (κ × V)}, lowKv m ds → KvR B H μ n ds vs → KvR B H μ m ds vs
  | _, _, l, .nil => .nil
  | d :: ds, _, l, .cons a b => by
    have l' : d.2.low m ∧ FV.lows m (ds.map (·.2)) := by simpa [lowKv, FV.lows] using l
    exact .cons ⟨a.1, VR.low l'.1 a.2⟩ (KvR.low l'.2 b)
theorem KvR.len : ∀ {ds : List (κ × FV)} {vs : List (κ × V)}, KvR B H μ n ds vs → vs.length = ds.length
  | _, _, .nil => rfl
  | _, _, .cons a b => congrArg (· + 1) (KvR.len b)
theorem KvR.zip : ∀ {ks : List κ} {ds : List FV} {vs : List V}, VRs B H μ n ds vs → KvR B H μ n (ks.zip ds) (ks.zip vs)
  | [], _, _, _ => by rw [List.zip_nil_left, List.zip_nil_left]; exact .nil
  | k :: ks, _, _, .nil => .nil
  | k :: ks, _, _, .cons a b => .cons ⟨rfl, a⟩ (KvR.zip b)
theorem KvR.fst : ∀ {ds : List (κ × FV)} {vs : List (κ × V)}, KvR B H μ n ds vs → vs.map (·.1) = ds.map (·.1)
  | _, _, .nil => rfl
  | _, _, .cons a b => by rw [List.map_cons, List.map_cons, KvR.fst b, a.1]
theorem KvR.snd : ∀ {ds : List (κ × FV)} {vs : List (κ × V)}, KvR B H μ n ds vs → VRs B H μ n (ds.map (·.2)) (vs.map (·.2))
  | _, _, .nil => .nil
  | _, _, .cons a b => .cons a.2 (KvR.snd b)
theorem zip_parts {α β : Type} : ∀ l : List (α × β), (l.map (·.1)).zip (l.map (·.2)) = l
  | [] => rfl
  | (a, b) :: l => congrArg ((a, b) :: ·) (zip_parts l)
end
/-- the object o stands at a -/
def OR (B : Bs) (H : Hp) (μ : Nat → Addr) (n : Nat) (a : Addr) : FO → Prop
  | .lst ds => ∃ xs, H a = some (.lst xs) ∧ VRs B H μ n ds xs
  | .dK kvs => ∃ ws, H a = some (.dK ws) ∧ KvR B H μ n kvs ws
  | .dT kvs => ∃ ws, H a = some (.dT ws) ∧ KvR B H μ n kvs ws
  | .ins c fs => ∃ C dx ws, B.mg c = some (.ref C) ∧ H a = some (.ins C dx ws) ∧ KvR B H μ n fs ws
  | .lk kvs => ∃ ws od, H a = some (.frz od (.dK ws)) ∧ KvR B H μ n kvs ws
def FO.low (n : Nat) : FO → Prop
  | .lst ds => FV.lows n ds
  | .dK kvs => lowKv n kvs
  | .dT kvs => lowKv n kvs
  | .ins _ fs => lowKv n fs
  | .lk kvs => lowKv n kvs
section
variable {B : Bs} {H H' H1 : Hp} {μ μ' μ1 : Nat → Addr} {n n' n1 m : Nat} {a : Addr} {o : FO} {h h' : FH}
theorem OR.mono (g : Gw H H') (e : ∀ i, i < n → μ' i = μ i) (l : n ≤ n') (k : H' a = H a) (r : OR B H μ n a o) : OR B H' μ' n' a o := by
  cases o with
  | lst ds => obtain ⟨xs, h1, h2⟩ := r; exact ⟨xs, by rw [k]; exact h1, VRs.mono g e l _ _ h2⟩
  | dK ds => obtain ⟨xs, h1, h2⟩ := r; exact ⟨xs, by rw [k]; exact h1, h2.mono g e l⟩
  | dT ds => obtain ⟨xs, h1, h2⟩ := r; exact ⟨xs, by rw [k]; exact h1, h2.mono g e l⟩
  | ins c fs => obtain ⟨C, dx, xs, h0, h1, h2⟩ := r; exact ⟨C, dx, xs, h0, by rw [k]; exact h1, h2.mono g e l⟩
  | lk ds => obtain ⟨xs, od, h1, h2⟩ := r; exact ⟨xs, od, by rw [k]; exact h1, h2.mono g e l⟩
theorem OR.low (l : o.low m) (r : OR B H μ n a o) : OR B H μ m a o := by
  cases o with
  | lst ds => obtain ⟨xs, h1, h2⟩ := r; exact ⟨xs, h1, h2.low l⟩
  | dK ds => obtain ⟨xs, h1, h2⟩ := r; exact ⟨xs, h1, h2.low l⟩
  | dT ds => obtain ⟨xs, h1, h2⟩ := r; exact ⟨xs, h1, h2.low l⟩
  | ins c fs => obtain ⟨C, dx, xs, h0, h1, h2⟩ := r; exact ⟨C, dx, xs, h0, h1, h2.low l⟩
  | lk ds => obtain ⟨xs, od, h1, h2⟩ := r; exact ⟨xs, od, h1, h2.low l⟩
theorem OR.some' (r : OR B H μ n a o) : H a ≠ none := by
  cases o with
  | lst ds => obtain ⟨xs, h1, h2⟩ := r; rw [h1]; exact fun z => nomatch z
  | dK ds => obtain ⟨xs, h1, h2⟩ := r; rw [h1]; exact fun z => nomatch z
  | dT ds => obtain ⟨xs, h1, h2⟩ := r; rw [h1]; exact fun z => nomatch z
  | ins c fs => obtain ⟨C, dx, xs, h0, h1, h2⟩ := r; rw [h1]; exact fun z => nomatch z
  | lk ds => obtain ⟨xs, od, h1, h2⟩ := r; rw [h1]; exact fun z => nomatch z
structure HR (B : Bs) (μ : Nat → Addr) (h : FH) (H : Hp) : Prop where
  at' : ∀ i o, h[i]? = some o → OR B H μ h.length (μ i) o
  inj : ∀ i j, i < h.length → j < h.length → μ i = μ j → i = j
theorem HR.same (r : HR B μ h H) (e : Same H H') : HR B μ h H' := ⟨fun i o q => by
  have z := r.at' i o q
  refine z.mono (Same.gw e) (fun _ _ => rfl) (Nat.le_refl _) ?_
  cases q' : H (μ i) with
  | none => exact absurd q' z.some'
  | some u => exact e _ _ q', r.inj⟩
theorem HR.cls {i : Nat} (r : HR B μ h H) (l : i < h.length) : H (μ i) ≠ none := (r.at' i h[i] (List.getElem?_eq_getElem l)).some'
/-- an object that no number has gets one -/
theorem HR.tell {p : Addr} (r : HR B μ h H) (hn : ∀ i, i < h.length → μ i ≠ p) (ho : OR B H (ext1 μ h.length p) (h.length + 1) p o) : HR B (ext1 μ h.length p) (h ++ [o]) H := by
  refine ⟨fun i u q => ?_, fun i j hi hj e => ?_⟩
  · rw [List.length_append, List.length_singleton]
    by_cases l : i < h.length
    · rw [List.getElem?_append_left l] at q
      rw [ext1_lt l]
      exact (r.at' i u q).mono (Gw.refl H) (fun j hj => ext1_lt hj) (Nat.le_succ _) rfl
    · have l2 : i < (h ++ [o]).length := (List.getElem?_eq_some_iff.mp q).1
      have e : i = h.length := by rw [List.length_append, List.length_singleton] at l2; omega
      subst e
      rw [List.getElem?_append_right (Nat.le_refl _), Nat.sub_self] at q
      have : o = u := Option.some.inj q
      subst this
      rw [ext1_at]; exact ho
  · rw [List.length_append, List.length_singleton] at hi hj
    by_cases li : i < h.length
    · by_cases lj : j < h.length
      · rw [ext1_lt li, ext1_lt lj] at e; exact r.inj i j li lj e
      · have ej : j = h.length := by omega
        subst ej
        rw [ext1_lt li, ext1_at] at e
        exact absurd e (hn i li)
    · have ei : i = h.length := by omega
      subst ei
      by_cases lj : j < h.length
      · rw [ext1_lt lj, ext1_at] at e
        exact absurd e.symm (hn j lj)
      · omega
/-- an object is changed -/
theorem HR.set {i : Nat} {u : HO} (r : HR B μ h H) (l : i < h.length) (ho : OR B (upd H (μ i) u) μ h.length (μ i) o) (mu : Mut (H (μ i)) := by assumption) : HR B μ (h.set i o) (upd H (μ i) u) := by
  refine ⟨fun j v q => ?_, fun j k hj hk e => r.inj j k (by simpa using hj) (by simpa using hk) e⟩
  rw [List.length_set]
  by_cases e : i = j
  · subst e
    rw [List.getElem?_set_self l] at q
    have : o = v := Option.some.inj q
    subst this
    exact ho
  · rw [List.getElem?_set_ne e] at q
    have lj : j < h.length := (List.getElem?_eq_some_iff.mp q).1
    exact (r.at' j v q).mono (gw_mut mu) (fun _ _ => rfl) (Nat.le_refl _) (upd_ne fun z => e (r.inj j i lj l z).symm)
theorem HR.cut {n : Nat} (r : HR B μ h H) (l : ∀ o, o ∈ h.take n → o.low n) (hn : n ≤ h.length) : HR B μ (h.take n) H := by
  have e : (h.take n).length = n := by rw [List.length_take, Nat.min_eq_left hn]
  refine ⟨fun i o q => ?_, fun i j hi hj z => r.inj i j ?_ ?_ z⟩
  · rw [e]
    have q' : h[i]? = some o := by
      rw [List.getElem?_take] at q
      split at q
      · exact q
      · cases q
    exact (r.at' i o q').low (l o (List.mem_of_getElem? q))
  · omega
  · omega
/-- what no number has is changed -/
theorem HR.own {p : Addr} {u : HO} (r : HR B μ h H) (mu : Mut (H p)) (nd : ∀ i, i < h.length → μ i ≠ p) : HR B μ h (upd H p u) :=
  ⟨fun j o hj => (r.at' j o hj).mono (gw_mut mu) (fun _ _ => rfl) (Nat.le_refl _) (upd_ne (nd j (List.getElem?_eq_some_iff.mp hj).1)), r.inj⟩
end
/-! ### results -/
structure Exn where
  cls : Str
  fs : Option (List (Str × FV)) := none
inductive Rs (α : Type) where
  | ok (a : α) (h : FH) | ex (x : Exn) (h : FH) | no
@[inline] def Rs.bind {α β : Type} : Rs α → (α → FH → Rs β) → Rs β
  | .ok a h, k => k a h
  | .ex x h, _ => .ex x h
  | .no, _ => .no
/-- what an expression gives: a value; a new list, dict, instance that nothing else holds; what a slot of this def alone holds, lent -/
inductive RV where
  | v (x : FV) | l (ds : List FV) | d (kvs : List (Key × FV)) | t (kvs : List (List Key × FV)) | o (c : Str) (fs : List (Str × FV))
  | bl (ds : List FV) | bd (kvs : List (Key × FV)) | bt (kvs : List (List Key × FV)) | bo (c : Str) (fs : List (Str × FV))
def Fre (H0 : Hp) (μ : Nat → Addr) (n : Nat) (p : Addr) : Prop := H0 p = none ∧ ∀ i, i < n → μ i ≠ p
abbrev Nd (μ : Nat → Addr) (n : Nat) (p : Addr) : Prop := ∀ i, i < n → μ i ≠ p
inductive RR (B : Bs) (H0 : Hp) (μ : Nat → Addr) (n : Nat) (H : Hp) : RV → V → Prop
  | v {x : FV} {u : V} : VR B H μ n x u → RR B H0 μ n H (.v x) u
  | l {ds : List FV} {p : Addr} {xs : List V} : Fre H0 μ n p → H p = some (.lst xs) → VRs B H μ n ds xs → RR B H0 μ n H (.l ds) (.ref p)
  | d {kvs : List (Key × FV)} {p : Addr} {ws : List (Key × V)} : Fre H0 μ n p → H p = some (.dK ws) → KvR B H μ n kvs ws → RR B H0 μ n H (.d kvs) (.ref p)
  | t {kvs : List (List Key × FV)} {p : Addr} {ws : List (List Key × V)} : Fre H0 μ n p → H p = some (.dT ws) → KvR B H μ n kvs ws → RR B H0 μ n H (.t kvs) (.ref p)
  | o {c : Str} {fs : List (Str × FV)} {p C dx : Addr} {ws : List (Str × V)} : Fre H0 μ n p → B.mg c = some (.ref C) → H p = some (.ins C dx ws) → KvR B H μ n fs ws → RR B H0 μ n H (.o c fs) (.ref p)
  | bl {ds : List FV} {p : Addr} {xs : List V} : Nd μ n p → H p = some (.lst xs) → VRs B H μ n ds xs → RR B H0 μ n H (.bl ds) (.ref p)
  | bd {kvs : List (Key × FV)} {p : Addr} {ws : List (Key × V)} : Nd μ n p → H p = some (.dK ws) → KvR B H μ n kvs ws → RR B H0 μ n H (.bd kvs) (.ref p)
  | bt {kvs : List (List Key × FV)} {p : Addr} {ws : List (List Key × V)} : Nd μ n p → H p = some (.dT ws) → KvR B H μ n kvs ws → RR B H0 μ n H (.bt kvs) (.ref p)
  | bo {c : Str} {fs : List (Str × FV)} {p C dx : Addr} {ws : List (Str × V)} : Nd μ n p → B.mg c = some (.ref C) → H p = some (.ins C dx ws) → KvR B H μ n fs ws → RR B H0 μ n H (.bo c fs) (.ref p)
def XR (B : Bs) (μ : Nat → Addr) (n : Nat) (H : Hp) (x : Exn) (c : Value) (d : Option Addr) : Prop :=
  B.mg x.cls = some c ∧ match x.fs with
    | none => d = none
    | some fs => ∃ a ws, d = some a ∧ H a = some (.xd ws) ∧ KvR B H μ n fs ws
section
variable {B : Bs} {H H0 H1 H2 : Hp} {μ μ1 μ2 : Nat → Addr} {n n1 n2 : Nat} {r : RV} {u : V}
theorem Nd.step {p : Addr} (f : Nd μ1 n1 p) (hp : H1 p ≠ none) (s : Step μ1 n1 H1 μ2 n2 H2) : Nd μ2 n2 p := fun i hi z => by
  by_cases h : i < n1
  · exact f i h ((s.ext i h).symm.trans z)
  · exact hp (by rw [← z]; exact s.new i (Nat.le_of_not_lt h) hi)
theorem Fre.step {p : Addr} (f : Fre H0 μ1 n1 p) (hp : H1 p ≠ none) (s : Step μ1 n1 H1 μ2 n2 H2) : Fre H0 μ2 n2 p := ⟨f.1, Nd.step f.2 hp s⟩
theorem sn {H : Hp} {p : Addr} {o : HO} (h : H p = some o) : H p ≠ none := by rw [h]; exact fun z => nomatch z
theorem RR.step (h : RR B H0 μ1 n1 H1 r u) (s : Step μ1 n1 H1 μ2 n2 H2) : RR B H0 μ2 n2 H2 r u := by
  cases h with
  | v a => exact .v (s.vr a)
  | l f a b => exact .l (f.step (sn a) s) (s.fr _ _ a f.2) (s.vrs b)
  | d f a b => exact .d (f.step (sn a) s) (s.fr _ _ a f.2) (b.mono s.gw s.ext s.le)
  | t f a b => exact .t (f.step (sn a) s) (s.fr _ _ a f.2) (b.mono s.gw s.ext s.le)
  | o f z a b => exact .o (f.step (sn a) s) z (s.fr _ _ a f.2) (b.mono s.gw s.ext s.le)
  | bl f a b => exact .bl (Nd.step f (sn a) s) (s.fr _ _ a f) (s.vrs b)
  | bd f a b => exact .bd (Nd.step f (sn a) s) (s.fr _ _ a f) (b.mono s.gw s.ext s.le)
  | bt f a b => exact .bt (Nd.step f (sn a) s) (s.fr _ _ a f) (b.mono s.gw s.ext s.le)
  | bo f z a b => exact .bo (Nd.step f (sn a) s) z (s.fr _ _ a f) (b.mono s.gw s.ext s.le)
theorem no_th (th : ∀ a, H a ≠ none → H1 a ≠ none) {p : Addr} (z : H1 p = none) : H p = none := by
  cases q : H p with
  | none => rfl
  | some o => exact absurd z (th p (sn q))
/-- a new thing is new for whoever began earlier -/
theorem RR.since (h : RR B H1 μ2 n2 H2 r u) (th : ∀ a, H a ≠ none → H1 a ≠ none) : RR B H μ2 n2 H2 r u := by
  cases h with
  | v a => exact .v a
  | l f a b => exact .l ⟨no_th th f.1, f.2⟩ a b
  | d f a b => exact .d ⟨no_th th f.1, f.2⟩ a b
  | t f a b => exact .t ⟨no_th th f.1, f.2⟩ a b
  | o f z a b => exact .o ⟨no_th th f.1, f.2⟩ z a b
  | bl f a b => exact .bl f a b
  | bd f a b => exact .bd f a b
  | bt f a b => exact .bt f a b
  | bo f z a b => exact .bo f z a b
/-- what a slot holds, read -/
def RV.lend : RV → RV
  | .l ds => .bl ds
  | .d kvs => .bd kvs
  | .t kvs => .bt kvs
  | .o c fs => .bo c fs
  | r => r
theorem RR.lend (h : RR B H0 μ n H r u) : RR B H1 μ n H r.lend u := by
  cases h with
  | v a => exact .v a
  | l f a b => exact .bl f.2 a b
  | d f a b => exact .bd f.2 a b
  | t f a b => exact .bt f.2 a b
  | o f z a b => exact .bo f.2 z a b
  | bl f a b => exact .bl f a b
  | bd f a b => exact .bd f a b
  | bt f a b => exact .bt f a b
  | bo f z a b => exact .bo f z a b
/-- does the slot alone hold it -/
def RV.own : RV → Bool
  | .l _ => true
  | .d _ => true
  | .t _ => true
  | .o _ _ => true
  | _ => false
/-- may it stand in a slot -/
def RV.keep : RV → Bool
  | .bl _ => false
  | .bd _ => false
  | .bt _ => false
  | .bo _ _ => false
  | _ => true
theorem RR.at_own (h : RR B H0 μ n H r u) (o : r.own = true) : ∃ p, u = .ref p ∧ Fre H0 μ n p ∧ Mut (H p) := by
  cases h with
  | l f a b => exact ⟨_, rfl, f, by rw [a]; trivial⟩
  | d f a b => exact ⟨_, rfl, f, by rw [a]; trivial⟩
  | t f a b => exact ⟨_, rfl, f, by rw [a]; trivial⟩
  | o f z a b => exact ⟨_, rfl, f, by rw [a]; trivial⟩
  | _ => cases o
/-- is it an object -/
def RV.obj : RV → Bool
  | .v _ => false
  | _ => true
/-- another object is changed -/
theorem RR.upd' {p : Addr} {o : HO} (h : RR B H0 μ n H r u) (mu : Mut (H p)) (ne : r.obj = true → u ≠ .ref p) : RR B H0 μ n (upd H p o) r u := by
  have g := gw_mut (o := o) mu
  have k : ∀ {q : Addr} {x : HO}, V.ref q ≠ V.ref p → H q = some x → upd H p o q = some x := fun {q x} z e => by rw [upd_ne (fun w => z (by rw [w]))]; exact e
  cases h with
  | v a => exact .v (VR.mono g (fun _ _ => rfl) (Nat.le_refl _) _ _ a)
  | l f a b => exact .l f (k (ne rfl) a) (VRs.mono g (fun _ _ => rfl) (Nat.le_refl _) _ _ b)
  | d f a b => exact .d f (k (ne rfl) a) (b.mono g (fun _ _ => rfl) (Nat.le_refl _))
  | t f a b => exact .t f (k (ne rfl) a) (b.mono g (fun _ _ => rfl) (Nat.le_refl _))
  | o f z a b => exact .o f z (k (ne rfl) a) (b.mono g (fun _ _ => rfl) (Nat.le_refl _))
  | bl f a b => exact .bl f (k (ne rfl) a) (VRs.mono g (fun _ _ => rfl) (Nat.le_refl _) _ _ b)
  | bd f a b => exact .bd f (k (ne rfl) a) (b.mono g (fun _ _ => rfl) (Nat.le_refl _))
  | bt f a b => exact .bt f (k (ne rfl) a) (b.mono g (fun _ _ => rfl) (Nat.le_refl _))
  | bo f z a b => exact .bo f z (k (ne rfl) a) (b.mono g (fun _ _ => rfl) (Nat.le_refl _))
/-- what is wanted of a result -/
def Po {α : Type} (B : Bs) (μ : Nat → Addr) (n : Nat) (H : Hp) (R : α → FH → (Nat → Addr) → Hp → Prop) (E : XK) : Rs α → Prop
  | .ok a h' => ∀ μ' H', Step μ n H μ' h'.length H' → HR B μ' h' H' → R a h' μ' H'
  | .ex x h' => ∀ μ' H' c d, Step μ n H μ' h'.length H' → HR B μ' h' H' → XR B μ' h'.length H' x c d → E c d H'
  | .no => False
variable {α β : Type} {R R' : α → FH → (Nat → Addr) → Hp → Prop} {S : β → FH → (Nat → Addr) → Hp → Prop} {E E' : XK} {a : α} {h : FH} {ra : Rs α} {k : α → FH → Rs β}
theorem Po.bind (h : Po B μ n H S E (ra.bind k)) : Po B μ n H (fun a h' μ' H' => Po B μ' h'.length H' S E (k a h')) E ra := by
  cases ra with
  | no => exact h
  | ex x h' => exact h
  | ok a h' =>
    intro μ' H' s hr
    have h2 : Po B μ n H S E (k a h') := h
    cases q : k a h' with
    | no => rw [q] at h2; exact h2
    | ex x h'' => rw [q] at h2; exact fun μ'' H'' c d s' hr' x' => h2 μ'' H'' c d (s.trans s') hr' x'
    | ok b h'' => rw [q] at h2; exact fun μ'' H'' s' hr' => h2 μ'' H'' (s.trans s') hr'
theorem Po.mono (h : Po B μ n H R E ra) (k : ∀ a h' μ' H', ra = .ok a h' → Step μ n H μ' h'.length H' → HR B μ' h' H' → R a h' μ' H' → R' a h' μ' H') : Po B μ n H R' E ra := by
  cases ra with
  | no => exact h
  | ex x h' => exact h
  | ok a h' => exact fun μ' H' s hr => k a h' μ' H' rfl s hr (h μ' H' s hr)
theorem Po.monoE (p : Po B μ n H R E ra) (h : ∀ c d H', E c d H' → E' c d H') : Po B μ n H R E' ra := by
  cases ra with
  | ok a h' => exact p
  | ex x h' => exact fun μ' H' c d s r q => h c d H' (p μ' H' c d s r q)
  | no => exact p
/-- the result stands where it was told -/
theorem Po.here (hh : n = h.length) (r : HR B μ h H) (p : Po B μ n H R E (.ok a h)) : R a h μ H := by
  subst hh
  exact p μ H (Step.refl _ _ _) r
theorem Po.last (p : Po B μ h.length H R E (.ok a h)) (hr : HR B μ h H) (s : Same H H1) : R a h μ H1 := p μ H1 (Step.same s) (hr.same s)
theorem Po.at' (p : Po B μ n H R E ra) (s : Step μ n H μ1 n1 H1) : Po B μ1 n1 H1 R E ra := by
  cases ra with
  | no => exact p
  | ex x h => exact fun μ' H' c d s' => p μ' H' c d (s.trans s')
  | ok a h => exact fun μ' H' s' => p μ' H' (s.trans s')
/-- .. where the wish is still said from the earlier state -/
theorem Po.bindAt (p : Po B μ n H S E (ra.bind k)) (s : Step μ n H μ1 n1 H1) : Po B μ1 n1 H1 (fun a h' _ _ => Po B μ n H S E (k a h')) E ra := by
  cases ra with
  | no => exact p
  | ex x h => exact fun μ' H' c d s' => p μ' H' c d (s.trans s')
  | ok a h => exact fun _ _ _ _ => p
end
/-! ### slots -/
abbrev Sl := List (Option RV)
/-- where a def was entered -/
structure Ent where
  μ : Nat → Addr
  n : Nat
  H : Hp
structure SR (B : Bs) (E : Ent) (μ : Nat → Addr) (Γ : Sl) (h : FH) (σ : St) (H : Hp) : Prop where
  st : Step E.μ E.n E.H μ h.length H
  hr : HR B μ h H
  len : Γ.length = σ.length
  sl : ∀ (i : Nat) (r : RV), Γ[i]? = some (some r) → ∃ u, σ[i]? = some (some u) ∧ RR B E.H μ h.length H r u
  inj : ∀ (i j : Nat) (r r' : RV) (p : Addr), Γ[i]? = some (some r) → Γ[j]? = some (some r') → r.obj = true → r'.obj = true → σ[i]? = some (some (.ref p)) → σ[j]? = some (some (.ref p)) → i = j
section
variable {B : Bs} {E : Ent} {H H' H1 : Hp} {μ μ' : Nat → Addr} {Γ Γ' : Sl} {h h' : FH} {σ : St} {r : RV} {u : V} {i : Nat}
theorem SR.step (r : SR B E μ Γ h σ H) (s : Step μ h.length H μ' h'.length H') (q : HR B μ' h' H') : SR B E μ' Γ h' σ H' :=
  ⟨r.st.trans s, q, r.len, fun i v e => let ⟨u, a, b⟩ := r.sl i v e; ⟨u, a, b.step s⟩, r.inj⟩
theorem set_get {α : Type} {l : List (Option α)} {i j : Nat} {x : Option α} {y : α} (e : (l.set i x)[j]? = some (some y)) : (i = j ∧ x = some y ∧ i < l.length) ∨ (i ≠ j ∧ l[j]? = some (some y)) := by
  by_cases hj : i = j
  · subst hj
    by_cases l' : i < l.length
    · rw [List.getElem?_set_self l'] at e
      exact .inl ⟨rfl, Option.some.inj e, l'⟩
    · rw [List.getElem?_eq_none (by rw [List.length_set]; exact Nat.le_of_not_lt l')] at e; cases e
  · rw [List.getElem?_set_ne hj] at e
    exact .inr ⟨hj, e⟩
/-- a slot gets a result; an object must be new to the other slots -/
theorem SR.put (s : SR B E μ Γ h σ H) (m : RR B E.H μ h.length H r u) (nw : r.obj = true → ∀ (j : Nat) (r' : RV) (p : Addr), Γ[j]? = some (some r') → r'.obj = true → σ[j]? = some (some (.ref p)) → u ≠ .ref p) :
    SR B E μ (Γ.set i (some r)) h (σ.set i (some u)) H := by
  refine ⟨s.st, s.hr, by rw [List.length_set, List.length_set]; exact s.len, fun j w e => ?_, fun j k w w' p e1 e2 o1 o2 e3 e4 => ?_⟩
  · rcases set_get e with ⟨rfl, e', l⟩ | ⟨ne, e'⟩
    · cases e'
      exact ⟨u, by rw [List.getElem?_set_self (by rw [← s.len]; exact l)], m⟩
    · rw [List.getElem?_set_ne ne]
      exact s.sl j w e'
  · rcases set_get e1 with ⟨rfl, e1', l1⟩ | ⟨ne1, e1'⟩
    · cases e1'
      rcases set_get e2 with ⟨rfl, e2', l2⟩ | ⟨ne2, e2'⟩
      · rfl
      · rw [List.getElem?_set_self (by rw [← s.len]; exact l1)] at e3
        rw [List.getElem?_set_ne ne2] at e4
        exact absurd (Option.some.inj (Option.some.inj e3)) (nw o1 k w' p e2' o2 e4)
    · rw [List.getElem?_set_ne ne1] at e3
      rcases set_get e2 with ⟨rfl, e2', l2⟩ | ⟨ne2, e2'⟩
      · cases e2'
        rw [List.getElem?_set_self (by rw [← s.len]; exact l2)] at e4
        exact absurd (Option.some.inj (Option.some.inj e4)) (nw o2 j w p e1' o1 e3)
      · rw [List.getElem?_set_ne ne2] at e4
        exact s.inj j k w w' p e1' e2' o1 o2 e3 e4
theorem SR.putV {x : FV} (s : SR B E μ Γ h σ H) (m : VR B H μ h.length x u) : SR B E μ (Γ.set i (some (.v x))) h (σ.set i (some u)) H := s.put (.v m) fun z => by cases z
/-- what was made since s stood is new to its slots -/
theorem SR.fresh {μ0 : Nat → Addr} {h0 : FH} {H0 : Hp} (s : SR B E μ0 Γ h0 σ H0) (m : RR B H0 μ h.length H r u) (o : r.own = true) (j : Nat) (r' : RV) (p : Addr) (e : Γ[j]? = some (some r')) (o' : r'.obj = true) (e' : σ[j]? = some (some (.ref p))) : u ≠ .ref p := fun z => by
  obtain ⟨q, rfl, f, _⟩ := m.at_own o
  cases z
  obtain ⟨u', h1, h2⟩ := s.sl j r' e
  rw [e'] at h1; cases h1
  have : H0 p ≠ none := by
    cases h2 with
    | v a => cases o'
    | l f a b => exact sn a
    | d f a b => exact sn a
    | t f a b => exact sn a
    | o f z a b => exact sn a
    | bl f a b => exact sn a
    | bd f a b => exact sn a
    | bt f a b => exact sn a
    | bo f z a b => exact sn a
  exact this f.1
theorem SR.drop (s : SR B E μ Γ h σ H) (o : Option V) : SR B E μ (Γ.set i none) h (σ.set i o) H := by
  refine ⟨s.st, s.hr, by rw [List.length_set, List.length_set]; exact s.len, fun j w e => ?_, fun j k w w' p e1 e2 o1 o2 e3 e4 => ?_⟩
  · rcases set_get e with ⟨rfl, e', l⟩ | ⟨ne, e'⟩
    · cases e'
    · rw [List.getElem?_set_ne ne]
      exact s.sl j w e'
  · rcases set_get e1 with ⟨rfl, e1', l1⟩ | ⟨ne1, e1'⟩
    · cases e1'
    · rw [List.getElem?_set_ne ne1] at e3
      rcases set_get e2 with ⟨rfl, e2', l2⟩ | ⟨ne2, e2'⟩
      · cases e2'
      · rw [List.getElem?_set_ne ne2] at e4
        exact s.inj j k w w' p e1' e2' o1 o2 e3 e4
/-- fewer slots are spoken of -/
inductive Sub : Sl → Sl → Prop
  | nil : Sub [] []
  | keep {x : Option RV} {a b : Sl} : Sub a b → Sub (x :: a) (x :: b)
  | drop {x : Option RV} {a b : Sl} : Sub a b → Sub (none :: a) (x :: b)
theorem Sub.refl : ∀ a : Sl, Sub a a
  | [] => .nil
  | x :: a => .keep (Sub.refl a)
theorem Sub.len : ∀ {a b : Sl}, Sub a b → a.length = b.length
  | _, _, .nil => rfl
  | _, _, .keep h => congrArg (· + 1) h.len
  | _, _, .drop h => congrArg (· + 1) h.len
theorem Sub.get : ∀ {a b : Sl}, Sub a b → ∀ {i : Nat} {r : RV}, a[i]? = some (some r) → b[i]? = some (some r)
  | _, _, .nil, _, _, e => e
  | _, _, .keep h, 0, _, e => e
  | _, _, .keep h, i + 1, _, e => h.get (i := i) e
  | _, _, .drop h, 0, _, e => by cases e
  | _, _, .drop h, i + 1, _, e => h.get (i := i) e
theorem SR.sub (s : SR B E μ Γ h σ H) (w : Sub Γ' Γ) : SR B E μ Γ' h σ H :=
  ⟨s.st, s.hr, w.len.trans s.len, fun i r e => s.sl i r (w.get e), fun i j r r' p e1 e2 => s.inj i j r r' p (w.get e1) (w.get e2)⟩
/-- an object that no slot and no number has, or that one slot has, is changed -/
theorem SR.upd' {p : Addr} {o : HO} (s : SR B E μ Γ h σ H) (hp : E.H p = none) (nd : Nd μ h.length p) (mu : Mut (H p)) (ne : ∀ (j : Nat) (r' : RV), Γ[j]? = some (some r') → r'.obj = true → σ[j]? ≠ some (some (.ref p))) : SR B E μ Γ h σ (upd H p o) :=
  ⟨s.st.own hp mu, s.hr.own mu nd, s.len, fun i r e => by
    obtain ⟨u, h1, h2⟩ := s.sl i r e
    exact ⟨u, h1, h2.upd' mu fun ho z => ne i r e ho (by rw [h1, z])⟩, s.inj⟩
/-- the object in slot i is changed: the slot holds what it is then -/
theorem SR.chg {p : Addr} {o : HO} (s : SR B E μ Γ h σ H) (ho : r.obj = true) (e : Γ[i]? = some (some r)) (e' : σ[i]? = some (some (.ref p))) (hp : E.H p = none) (nd : Nd μ h.length p) (mu : Mut (H p)) {r' : RV} (m : RR B E.H μ h.length (upd H p o) r' (.ref p)) : SR B E μ (Γ.set i (some r')) h σ (upd H p o) := by
  have li : i < Γ.length := (List.getElem?_eq_some_iff.mp e).1
  refine ⟨s.st.own hp mu, s.hr.own mu nd, by rw [List.length_set]; exact s.len, fun j w q => ?_, fun j k w w' a e1 e2 o1 o2 e3 e4 => ?_⟩
  · rcases set_get q with ⟨rfl, q', l⟩ | ⟨nj, q'⟩
    · cases q'
      exact ⟨_, e', m⟩
    · obtain ⟨u, h1, h2⟩ := s.sl j w q'
      exact ⟨u, h1, h2.upd' mu fun hw z => nj (s.inj i j r w p e q' ho hw e' (by rw [h1, z]))⟩
  · have back : ∀ {j : Nat} {w : RV}, (Γ.set i (some r'))[j]? = some (some w) → w.obj = true → ∃ w0, Γ[j]? = some (some w0) ∧ w0.obj = true := fun {j w} q o1 => by
      rcases set_get q with ⟨rfl, q', l⟩ | ⟨nj, q'⟩
      · exact ⟨r, e, ho⟩
      · exact ⟨w, q', o1⟩
    obtain ⟨w1, a1, b1⟩ := back e1 o1
    obtain ⟨w2, a2, b2⟩ := back e2 o2
    exact s.inj j k w1 w2 a a1 a2 b1 b2 e3 e4
end
/-! ### freezing: what is known of an object changes, the object does not -/
def Gh (G : Hp → Prop) (H : Hp) : Prop := G H ∨ ∃ p u, H p = some u ∧ Mut (some u) ∧ ∀ od, G (upd H p (.frz od u))
theorem wE.gh {X : Cx} {e : Expr} {σ : L2.St} {H : Hp} {Q : VK} (h : wE X e σ H fun v => Gh (Q v)) : wE X e σ H Q := ⟨fun pins s I =>
  thn (h.go pins s I) fun _ s' ⟨v, H', I', r, z⟩ => by
    rcases z with z | ⟨p, u, e1, m, z⟩
    · exact ⟨v, H', I', r, z⟩
    · obtain ⟨od, I2⟩ := I'.lock e1 m
      exact ⟨v, _, I2, r, z od⟩⟩
theorem wSs.gh {X : Cx} {sts : List Stmt} {D : Ends} {σ : L2.St} {H : Hp} (h : Gh (fun H => wSs X sts D σ H) H) : wSs X sts D σ H := by
  rcases h with h | ⟨p, u, e1, m, z⟩
  · exact h
  · exact ⟨fun pins s I => by
      obtain ⟨od, I2⟩ := I.lock e1 m
      exact (z od).go pins s I2⟩
/-- a result as a value: what is new is frozen -/
def RV.frz : RV → Option FV
  | .v x => some x
  | .l ds => some (.fl ds)
  | .d kvs => some (.fd (kvs.map (·.1)) (kvs.map (·.2)))
  | .t kvs => some (.ft (kvs.map (·.1)) (kvs.map (·.2)))
  | .o c fs => some (.fo c (fs.map (·.1)) (fs.map (·.2)))
  | _ => none
section
variable {B : Bs} {H H0 H1 : Hp} {μ ν : Nat → Addr} {n m : Nat} {h : FH} {r : RV} {u : V} {d : FV}
theorem frz_ok (hr : HR B μ h H) (m : RR B H0 μ h.length H r u) (e : r.frz = some d) (s : Step ν n H0 μ h.length H) :
    Gh (fun H' => Step ν n H0 μ h.length H' ∧ HR B μ h H' ∧ VR B H' μ h.length d u ∧ Gw H H' ∧ ∀ p, u ≠ .ref p → H' p = H p) H := by
  cases m with
  | v a => cases e; exact .inl ⟨s, hr, a, Gw.refl _, fun _ _ => rfl⟩
  | l f a b =>
    cases e
    rename_i ds p xs
    have mu : Mut (H p) := by rw [a]; trivial
    exact .inr ⟨p, _, a, trivial, fun od => ⟨s.own f.1 mu, hr.own mu f.2, .fl ⟨od, upd_same⟩ (VRs.mono (gw_mut mu) (fun _ _ => rfl) (Nat.le_refl _) _ _ b), gw_mut mu, fun q z => upd_ne fun w => z (by rw [w])⟩⟩
  | d f a b =>
    cases e
    rename_i kvs p ws
    have mu : Mut (H p) := by rw [a]; trivial
    refine .inr ⟨p, _, a, trivial, fun od => ⟨s.own f.1 mu, hr.own mu f.2, .fd (xs := ws.map (·.2)) ⟨od, ?_⟩ (VRs.mono (gw_mut mu) (fun _ _ => rfl) (Nat.le_refl _) _ _ b.snd), gw_mut mu, fun q z => upd_ne fun w => z (by rw [w])⟩⟩
    rw [upd_same, ← b.fst, zip_parts]
  | t f a b =>
    cases e
    rename_i kvs p ws
    have mu : Mut (H p) := by rw [a]; trivial
    refine .inr ⟨p, _, a, trivial, fun od => ⟨s.own f.1 mu, hr.own mu f.2, .ft (xs := ws.map (·.2)) ⟨od, ?_⟩ (VRs.mono (gw_mut mu) (fun _ _ => rfl) (Nat.le_refl _) _ _ b.snd), gw_mut mu, fun q z => upd_ne fun w => z (by rw [w])⟩⟩
    rw [upd_same, ← b.fst, zip_parts]
  | o f z a b =>
    cases e
    rename_i c fs p C dx ws
    have mu : Mut (H p) := by rw [a]; trivial
    refine .inr ⟨p, _, a, trivial, fun od => ⟨s.own f.1 mu, hr.own mu f.2, .fo (C := C) (dx := dx) (xs := ws.map (·.2)) z ⟨od, ?_⟩ (VRs.mono (gw_mut mu) (fun _ _ => rfl) (Nat.le_refl _) _ _ b.snd), gw_mut mu, fun q z => upd_ne fun w => z (by rw [w])⟩⟩
    rw [upd_same, ← b.fst, zip_parts]
  | _ => cases e
def vF : Rs RV → Rs FV
  | .ok r h => match r.frz with | some d => .ok d h | none => .no
  | .ex x h => .ex x h
  | .no => .no
theorem Po.vF {R : FV → FH → (Nat → Addr) → Hp → Prop} {E : XK} {r : Rs RV} (p : Po B μ m H R E (vF r)) :
    Po B μ m H (fun x h' μ' H' => ∀ u, RR B H μ' h'.length H' x u → ∃ d, x.frz = some d ∧ Gh (fun H'' => Step μ m H μ' h'.length H'' ∧ HR B μ' h' H'' ∧ VR B H'' μ' h'.length d u ∧ Gw H' H'' ∧ (∀ p, u ≠ .ref p → H'' p = H' p) ∧ R d h' μ' H'') H') E r := by
  cases r with
  | no => exact p
  | ex x h' => exact p
  | ok x h' =>
    intro μ' H' s hr u ru
    cases z : x.frz with
    | none => unfold P.vF at p; dsimp only at p; rw [z] at p; exact p.elim
    | some d =>
      have p' : Po B μ m H R E (.ok d h') := by unfold P.vF at p; dsimp only at p; rw [z] at p; exact p
      refine ⟨d, rfl, ?_⟩
      rcases frz_ok hr ru z s with a | ⟨q, w, a, b, c⟩
      · exact .inl ⟨a.1, a.2.1, a.2.2.1, a.2.2.2.1, a.2.2.2.2, p' μ' H' a.1 a.2.1⟩
      · exact .inr ⟨q, w, a, b, fun od => ⟨(c od).1, (c od).2.1, (c od).2.2.1, (c od).2.2.2.1, (c od).2.2.2.2, p' μ' _ (c od).1 (c od).2.1⟩⟩
theorem Gh.mono {G G' : Hp → Prop} (h : Gh G H) (k : ∀ H, G H → G' H) : Gh G' H := by
  rcases h with h | ⟨p, u, e, m, z⟩
  · exact .inl (k _ h)
  · exact .inr ⟨p, u, e, m, fun od => k _ (z od)⟩
/-- a result as a value: what is new gets a number -/
def RV.tell : RV → FH → Option (FV × FH)
  | .v x, h => some (x, h)
  | .l ds, h => some (.ref h.length, h ++ [.lst ds])
  | .d kvs, h => some (.ref h.length, h ++ [.dK kvs])
  | .t kvs, h => some (.ref h.length, h ++ [.dT kvs])
  | .o c fs, h => some (.ref h.length, h ++ [.ins c fs])
  | _, _ => none
theorem tell_ok {h' : FH} (hr : HR B μ h H) (m : RR B H0 μ h.length H r u) (e : r.tell h = some (d, h')) (s : Step ν n H0 μ h.length H) :
    ∃ μ', Step ν n H0 μ' h'.length H ∧ HR B μ' h' H ∧ VR B H μ' h'.length d u := by
  have key : ∀ {o : FO} {p : Addr}, Fre H0 μ h.length p → OR B H (ext1 μ h.length p) (h.length + 1) p o → ∃ μ', Step ν n H0 μ' (h ++ [o]).length H ∧ HR B μ' (h ++ [o]) H ∧ VR B H μ' (h ++ [o]).length (.ref h.length) (.ref p) := fun {o p} f ho => by
    refine ⟨ext1 μ h.length p, ?_, hr.tell f.2 ho, ?_⟩
    · rw [List.length_append, List.length_singleton]; exact s.tell f.1
    · have : V.ref p = V.ref (ext1 μ h.length p h.length) := by rw [ext1_at]
      rw [this]
      exact .ref (by rw [List.length_append, List.length_singleton]; exact Nat.lt_succ_self _)
  cases m with
  | v q => cases e; exact ⟨μ, s, hr, q⟩
  | l f a b => cases e; exact key f ⟨_, a, VRs.mono (Gw.refl H) (fun i hi => ext1_lt hi) (Nat.le_succ _) _ _ b⟩
  | d f a b => cases e; exact key f ⟨_, a, b.mono (Gw.refl H) (fun i hi => ext1_lt hi) (Nat.le_succ _)⟩
  | t f a b => cases e; exact key f ⟨_, a, b.mono (Gw.refl H) (fun i hi => ext1_lt hi) (Nat.le_succ _)⟩
  | o f z a b => cases e; exact key f ⟨_, _, _, z, a, b.mono (Gw.refl H) (fun i hi => ext1_lt hi) (Nat.le_succ _)⟩
  | _ => cases e
def vT : Rs RV → Rs FV
  | .ok r h => match r.tell h with | some (d, h') => .ok d h' | none => .no
  | .ex x h => .ex x h
  | .no => .no
theorem Po.vT {R : FV → FH → (Nat → Addr) → Hp → Prop} {E : XK} {r : Rs RV} (p : Po B μ m H R E (vT r)) :
    Po B μ m H (fun x h' μ' H' => ∀ u, RR B H μ' h'.length H' x u → ∃ d h'' μ'', Step μ m H μ'' h''.length H' ∧ HR B μ'' h'' H' ∧ VR B H' μ'' h''.length d u ∧ R d h'' μ'' H') E r := by
  cases r with
  | no => exact p
  | ex x h' => exact p
  | ok x h' =>
    intro μ' H' s hr u ru
    cases z : x.tell h' with
    | none => unfold P.vT at p; dsimp only at p; rw [z] at p; exact p.elim
    | some dh =>
      obtain ⟨d, h''⟩ := dh
      have p' : Po B μ m H R E (.ok d h'') := by unfold P.vT at p; dsimp only at p; rw [z] at p; exact p
      obtain ⟨μ'', s2, hr2, v2⟩ := tell_ok hr ru z s
      exact ⟨d, h'', μ'', s2, hr2, v2, p' μ'' H' s2 hr2⟩
end
end P
/-! P: expressions. -/
namespace P
open PySem PySem.Spec PyProof.Rows L2 G
abbrev LIM : Nat := 16000000
theorem lim_le {n : Nat} (h : n ≤ LIM) : n ≤ sizeLine := Nat.le_trans h (by decide)
theorem lim_lt {n : Nat} (h : n < LIM) : n < sizeLine := Nat.lt_of_lt_of_le h (by decide)
/-! ### what a piece of the program does -/
abbrev M (α : Type) := FH → Rs α
def pur {α : Type} (a : α) : M α := fun h => .ok a h
def fail {α : Type} : M α := fun _ => .no
def bnd {α β : Type} (m : M α) (k : α → M β) : M β := fun h => (m h).bind k
def lift {α : Type} (o : FH → Option α) : M α := fun h => match o h with | some a => .ok a h | none => .no
def mV (m : M RV) : M FV := fun h => vF (m h)
def mT (m : M RV) : M FV := fun h => vT (m h)
/-- f says what e does from the slots Γ; W: what is wanted of an error -/
def JE (X : Cx) (W : WX) (E : Ent) (Γ : Sl) (e : Expr) (f : M RV) : Prop :=
  ∀ μ h σ H Q, SR (bs X) E μ Γ h σ H → Po (bs X) μ h.length H (fun r h' μ' H' => ∀ u, RR (bs X) H μ' h'.length H' r u → Q u H') (fun c d H' => W c d σ H') (f h) → wE X e σ H Q
def JT (X : Cx) (W : WX) (E : Ent) (Γ : Sl) (e : Expr) (f : M Bool) : Prop :=
  ∀ μ h σ H Q, SR (bs X) E μ Γ h σ H → Po (bs X) μ h.length H (fun b h' μ' H' => Q b H') (fun c d H' => W c d σ H') (f h) → wT X e σ H Q
theorem JE.to {X : Cx} {W : WX} {E : Ent} {Γ : Sl} {e : Expr} {f g : M RV} (p : JE X W E Γ e f) (q : ∀ h, f h = g h) : JE X W E Γ e g := by
  have : f = g := funext q
  exact this ▸ p
theorem JT.to {X : Cx} {W : WX} {E : Ent} {Γ : Sl} {e : Expr} {f g : M Bool} (p : JT X W E Γ e f) (q : ∀ h, f h = g h) : JT X W E Γ e g := by
  have : f = g := funext q
  exact this ▸ p
/-! ### what stands behind a result -/
def RV.seq : RV → FH → Option (Bool × List FV)
  | .v (.tup ds), _ => some (true, ds)
  | .v (.fl ds), _ => some (false, ds)
  | .v (.sl ds), _ => some (false, ds)
  | .v (.ref m), h => match h[m]? with | some (.lst ds) => some (false, ds) | _ => none
  | .l ds, _ => some (false, ds)
  | .bl ds, _ => some (false, ds)
  | _, _ => none
/-- .. a list that is an object of its own -/
def RV.lst : RV → FH → Option (List FV)
  | .v (.ref m), h => match h[m]? with | some (.lst ds) => some ds | _ => none
  | .v (.fl ds), _ => some ds
  | .l ds, _ => some ds
  | .bl ds, _ => some ds
  | _, _ => none
def RV.dict : RV → FH → Option (List (Key × FV))
  | .v (.ref m), h => match h[m]? with | some (.dK ds) => some ds | some (.lk ds) => some ds | _ => none
  | .v (.fd ks vs), _ => some (ks.zip vs)
  | .d ds, _ => some ds
  | .bd ds, _ => some ds
  | _, _ => none
section
variable {B : Bs} {H H0 H' : Hp} {μ : Nat → Addr} {n : Nat} {h : FH} {x : RV} {u : V} {ds : List FV}
theorem HR.lst {m : Nat} (hr : HR B μ h H) (e : h[m]? = some (.lst ds)) : ∃ xs, H (μ m) = some (.lst xs) ∧ VRs B H μ h.length ds xs := hr.at' m _ e
theorem lst_ok (hr : HR B μ h H) (r : RR B H0 μ h.length H x u) (e : x.lst h = some ds) : ∃ a xs, u = .ref a ∧ Rd H a (.lst xs) ∧ VRs B H μ h.length ds xs := by
  cases r with
  | v q =>
    cases q with
    | ref l =>
      rename_i i
      have e' : (match h[i]? with | some (.lst ds) => some ds | _ => none) = some ds := e
      split at e'
      · rename_i z zh
        cases e'
        obtain ⟨xs, h1, h2⟩ := hr.lst zh
        exact ⟨_, xs, rfl, .inl h1, h2⟩
      · cases e'
    | fl a b => cases e; exact ⟨_, _, rfl, a.rd, b⟩
    | _ => cases e
  | l f a b => cases e; exact ⟨_, _, rfl, .inl a, b⟩
  | bl f a b => cases e; exact ⟨_, _, rfl, .inl a, b⟩
  | _ => cases e
theorem dict_ok {kvs : List (Key × FV)} (hr : HR B μ h H) (r : RR B H0 μ h.length H x u) (e : x.dict h = some kvs) : ∃ a ws, u = .ref a ∧ Rd H a (.dK ws) ∧ KvR B H μ h.length kvs ws := by
  cases r with
  | v q =>
    cases q with
    | ref l =>
      rename_i i
      have e' : (match h[i]? with | some (.dK ds) => some ds | some (.lk ds) => some ds | _ => none) = some kvs := e
      split at e'
      · rename_i z zh
        cases e'
        obtain ⟨xs, h1, h2⟩ := hr.at' i _ zh
        exact ⟨_, xs, rfl, .inl h1, h2⟩
      · rename_i z zh
        cases e'
        obtain ⟨xs, od, h1, h2⟩ := hr.at' i _ zh
        exact ⟨_, xs, rfl, .inr ⟨od, h1⟩, h2⟩
      · cases e'
    | fd a b => cases e; exact ⟨_, _, rfl, a.rd, KvR.zip b⟩
    | _ => cases e
  | d f a b => cases e; exact ⟨_, _, rfl, .inl a, b⟩
  | bd f a b => cases e; exact ⟨_, _, rfl, .inl a, b⟩
  | _ => cases e
theorem seq_ok {b : Bool} (hr : HR B μ h H) (r : RR B H0 μ h.length H x u) (e : x.seq h = some (b, ds)) : ∃ a xs, u = .ref a ∧ VRs B H μ h.length ds xs ∧ (if b = true then SqT B.K H a xs else SqL B.K H a xs) := by
  cases r with
  | v q =>
    cases q with
    | tup a c => cases e; exact ⟨_, _, rfl, c, by rw [if_pos rfl]; exact a⟩
    | fl a c => cases e; exact ⟨_, _, rfl, c, by rw [if_neg (by decide)]; exact .inl a.rd⟩
    | sl a c => cases e; exact ⟨_, _, rfl, c, by rw [if_neg (by decide)]; exact a.sqL⟩
    | ref l =>
      rename_i i
      have e' : (match h[i]? with | some (.lst ds) => some (false, ds) | _ => none) = some (b, ds) := e
      split at e'
      · rename_i z zh
        cases e'
        obtain ⟨xs, h1, h2⟩ := hr.lst zh
        exact ⟨_, xs, rfl, h2, by rw [if_neg (by decide)]; exact SqL.of h1⟩
      · cases e'
    | _ => cases e
  | l f a c => cases e; exact ⟨_, _, rfl, c, by rw [if_neg (by decide)]; exact SqL.of a⟩
  | bl f a c => cases e; exact ⟨_, _, rfl, c, by rw [if_neg (by decide)]; exact SqL.of a⟩
  | _ => cases e
theorem seqL_ok (hr : HR B μ h H) (r : RR B H0 μ h.length H x u) (e : x.seq h = some (false, ds)) : ∃ a xs, u = .ref a ∧ VRs B H μ h.length ds xs ∧ SqL B.K H a xs := by
  obtain ⟨a, xs, h1, h2, h3⟩ := seq_ok hr r e
  exact ⟨a, xs, h1, h2, by rw [if_neg (by decide)] at h3; exact h3⟩
theorem seqT_ok (hr : HR B μ h H) (r : RR B H0 μ h.length H x u) (e : x.seq h = some (true, ds)) : ∃ a xs, u = .ref a ∧ VRs B H μ h.length ds xs ∧ SqT B.K H a xs := by
  obtain ⟨a, xs, h1, h2, h3⟩ := seq_ok hr r e
  exact ⟨a, xs, h1, h2, by rw [if_pos rfl] at h3; exact h3⟩
theorem seqE_ok {b : Bool} (hr : HR B μ h H) (r : RR B H0 μ h.length H x u) (e : x.seq h = some (b, ds)) : ∃ a xs, u = .ref a ∧ VRs B H μ h.length ds xs ∧ (SqL B.K H a xs ∨ SqT B.K H a xs) := by
  cases b with
  | true => obtain ⟨a, xs, h1, h2, h3⟩ := seqT_ok hr r e; exact ⟨a, xs, h1, h2, .inr h3⟩
  | false => obtain ⟨a, xs, h1, h2, h3⟩ := seqL_ok hr r e; exact ⟨a, xs, h1, h2, .inl h3⟩
/-- a new tuple, a new list -/
theorem VRs.same (e : Same H H') {vs : List V} (q : VRs B H μ n ds vs) : VRs B H' μ n ds vs := VRs.mono (Same.gw e) (fun _ _ => rfl) (Nat.le_refl _) _ _ q
theorem VR.same {d : FV} {v : V} (e : Same H H') (q : VR B H μ n d v) : VR B H' μ n d v := VR.mono (Same.gw e) (fun _ _ => rfl) (Nat.le_refl _) _ _ q
theorem rr_tup {p : Addr} {xs : List V} (hp : H p = none) (q : VRs B H μ n ds xs) : RR B H0 μ n (upd H p (.tup xs)) (.v (.tup ds)) (.ref p) := .v (.tup (.inl (.inl upd_same)) (q.same (same_new hp)))
theorem fre_new {p : Addr} (hr : HR B μ h H) (th : ∀ a, H0 a ≠ none → H a ≠ none) (hp : H p = none) : Fre H0 μ h.length p := ⟨no_th th hp, fun i hi z => hr.cls hi (by rw [z]; exact hp)⟩
theorem rr_lst {p : Addr} {xs : List V} (hr : HR B μ h H) (th : ∀ a, H0 a ≠ none → H a ≠ none) (hp : H p = none) (q : VRs B H μ h.length ds xs) : RR B H0 μ h.length (upd H p (.lst xs)) (.l ds) (.ref p) :=
  .l (fre_new hr th hp) upd_same (q.same (same_new hp))
theorem rr_dct {p : Addr} {kvs : List (Key × FV)} {ws : List (Key × V)} (hr : HR B μ h H) (th : ∀ a, H0 a ≠ none → H a ≠ none) (hp : H p = none) (q : KvR B H μ h.length kvs ws) : RR B H0 μ h.length (upd H p (.dK ws)) (.d kvs) (.ref p) :=
  .d (fre_new hr th hp) upd_same (q.mono (Same.gw (same_new hp)) (fun _ _ => rfl) (Nat.le_refl _))
end
section
variable {X : Cx} {W : WX} {E : Ent} {Γ : Sl} {e a b c : Expr} {es : List Expr} {pos p0 : Pos} {fa fb fc : M RV}
theorem Po.lift {α : Type} {B : Bs} {μ : Nat → Addr} {n : Nat} {H : Hp} {R : α → FH → (Nat → Addr) → Hp → Prop} {E : XK} {o : FH → Option α} {h : FH}
    (p : Po B μ n H R E (P.lift o h)) : ∃ x, o h = some x ∧ Po B μ n H R E (.ok x h) := by
  unfold P.lift at p
  cases q : o h with
  | none => rw [q] at p; exact p.elim
  | some x => rw [q] at p; exact ⟨x, rfl, p⟩
/-! ### names, constants -/
/-- the result in a slot -/
def sg : Sl → Nat → Option RV
  | [], _ => none
  | x :: _, 0 => x
  | _ :: r, i + 1 => sg r i
theorem sg_get : ∀ {Γ : Sl} {i : Nat} {v : RV}, sg Γ i = some v → Γ[i]? = some (some v)
  | [], _, _, h => by cases h
  | x :: _, 0, v, h => by
    have e : x = some v := h
    subst e; rfl
  | _ :: r, i + 1, v, h => by
    rw [List.getElem?_cons_succ]
    exact sg_get (Γ := r) h
theorem je_var (i : Nat) {r : RV} (q : sg Γ i = some r := by rfl) {x : Str} (hN : X.N[i]? = some x := by rfl) (hv : Vis X.env.scope x := by first | exact Or.inl rfl | exact Or.inr (Or.inl rfl) | exact Or.inr (Or.inr rfl)) (hd : (x == ("__debug__" : Str)) = false := by decide)
    (hcd : (x == ("__classdict__" : Str)) = false := by decide) : JE X W E Γ (.Name x pos) (pur r.lend) := fun μ h σ H Q s p => by
  obtain ⟨u, h1, h2⟩ := s.sl i r (sg_get q)
  exact wE.of (pe_var hN hv hd hcd) ⟨u, h1, p.last s.hr (Same.refl H) u h2.lend⟩
theorem je_int {i : Int} {j} : JE X W E Γ (.Constant (.int i) j pos) (pur (.v (.int i))) := fun μ h σ H Q r p => wE.of pe_int (Po.last p r.hr (Same.refl H) _ (.v (.int i)))
theorem je_str {i : Str} {j} : JE X W E Γ (.Constant (.str i) j pos) (pur (.v (.str i))) := fun μ h σ H Q r p => wE.of pe_str (Po.last p r.hr (Same.refl H) _ (.v (.str i)))
theorem je_bl {i : Bool} {j} : JE X W E Γ (.Constant (.bool i) j pos) (pur (.v (.bl i))) := fun μ h σ H Q r p => wE.of pe_bl (Po.last p r.hr (Same.refl H) _ (.v (.bl i)))
/-! ### operators -/
/-- g says what the operator with the reading r gives -/
def OpOk (X : Cx) (r : R2) (g : RV → RV → FH → Option RV) : Prop :=
  ∀ μ h H0 H x y u v (Q : VK) z, HR (bs X) μ h H → (∀ a, H0 a ≠ none → H a ≠ none) → RR (bs X) H0 μ h.length H x u → RR (bs X) H0 μ h.length H y v → g x y h = some z →
    (∀ w H', Same H H' → RR (bs X) H0 μ h.length H' z w → Q w H') → r u v H Q
def oB (g : RV → RV → FH → Option RV) (x y : RV) : M RV := lift (g x y)
theorem je_bin {op : Operator} {r : R2} {g : RV → RV → FH → Option RV} (ho : OpR X (binaryOp op) r) (hg : OpOk X r g) (ha : JE X W E Γ a fa) (hb : JE X W E Γ b fb) : JE X W E Γ (.BinOp a op b pos) (bnd fa fun x => bnd fb fun y => oB g x y) := fun μ h σ H Q s p =>
  wE.of (pe_op ho pe_w pe_w) (ha μ h σ H _ s (Po.mono (Po.bind p) fun x h1 μ1 H1 _ s1 hr1 p1 u ru =>
    hb μ1 h1 σ H1 _ (s.step s1 hr1) (Po.mono (Po.bind p1) fun y h2 μ2 H2 _ s2 hr2 p2 v rv => by
      obtain ⟨z, hz, p3⟩ := p2.lift
      exact hg μ2 h2 H H2 x y u v Q z hr2 (fun a ha => s2.th a (s1.th a ha)) (ru.step s2) (rv.since s1.th) hz fun w H' e q => p3.last hr2 e w q)))
theorem OpR.or {f : Value → Value → Sem Value} {r1 r2 : R2} (h1 : OpR X f r1) (h2 : OpR X f r2) : OpR X f (fun x y H Q => r1 x y H Q ∨ r2 x y H Q) := by
  intro pins s σ H x y v u Q I rx ry h
  rcases h with h | h
  · exact h1 pins s σ H x y v u Q I rx ry h
  · exact h2 pins s σ H x y v u Q I rx ry h
section
variable {B : Bs} {H0 H : Hp} {μ : Nat → Addr} {n : Nat} {u : V}
theorem rr_int {i : Int} (r : RR B H0 μ n H (.v (.int i)) u) : u = .int i := by
  cases r with | v q => cases q; rfl
theorem rr_str {i : Str} (r : RR B H0 μ n H (.v (.str i)) u) : u = .str i := by
  cases r with | v q => cases q; rfl
theorem rr_bl {i : Bool} (r : RR B H0 μ n H (.v (.bl i)) u) : u = .bl i := by
  cases r with | v q => cases q; rfl
theorem ref_inv {m : Nat} (r : RR B H0 μ n H (.v (.ref m)) u) : u = .ref (μ m) ∧ m < n := by
  cases r with | v q => cases q with | ref l => exact ⟨rfl, l⟩
end
/-- ints -/
def gI (c : Int → Int → Option Int) : RV → RV → FH → Option RV
  | .v (.int i), .v (.int j), _ => (c i j).map fun k => .v (.int k)
  | _, _, _ => none
theorem gI_inv {c : Int → Int → Option Int} {x y : RV} {h : FH} {z : RV} (e : gI c x y h = some z) : ∃ i j k, x = .v (.int i) ∧ y = .v (.int j) ∧ c i j = some k ∧ z = .v (.int k) := by
  unfold gI at e
  split at e
  · rename_i i j
    cases q : c i j with
    | none => rw [q] at e; cases e
    | some k => rw [q] at e; cases e; exact ⟨i, j, k, rfl, rfl, q, rfl⟩
  · cases e
def gMns : RV → RV → FH → Option RV := gI fun i j => some (i - j)
theorem je_sub (ha : JE X W E Γ a fa) (hb : JE X W E Γ b fb) : JE X W E Γ (.BinOp a .Sub b pos) (bnd fa fun x => bnd fb fun y => oB gMns x y) :=
  je_bin op_sub (fun μ h H0 H x y u v Q z hr th rx ry e k => by
    obtain ⟨i, j, l, rfl, rfl, e1, rfl⟩ := gI_inv e
    cases e1
    exact ⟨i, j, rr_int rx, rr_int ry, k _ _ (Same.refl _) (.v (.int _))⟩) ha hb
instance {i j : Int} : Decidable (CMul i j) := by unfold CMul; infer_instance
instance {i j : Int} : Decidable (CDiv i j) := by unfold CDiv; infer_instance
instance {i j : Int} : Decidable (CPow i j) := by unfold CPow; infer_instance
def cMul (i j : Int) : Option Int := if CMul i j then some (i * j) else none
def cMod (i j : Int) : Option Int := if 0 < j then some (i % j) else none
def cDiv (i j : Int) : Option Int := if CDiv i j then some (i / j) else none
def cPow (i j : Int) : Option Int := if CPow i j then some (i ^ j.toNat) else none
def gMod : RV → RV → FH → Option RV := gI cMod
def gDiv : RV → RV → FH → Option RV := gI cDiv
def gPow : RV → RV → FH → Option RV := gI cPow
theorem je_mod (ha : JE X W E Γ a fa) (hb : JE X W E Γ b fb) : JE X W E Γ (.BinOp a .Mod b pos) (bnd fa fun x => bnd fb fun y => oB gMod x y) :=
  je_bin op_mod (fun μ h H0 H x y u v Q z hr th rx ry e k => by
    obtain ⟨i, j, l, rfl, rfl, e1, rfl⟩ := gI_inv e
    unfold cMod at e1
    split at e1
    · cases e1
      exact ⟨i, j, rr_int rx, rr_int ry, by assumption, k _ _ (Same.refl _) (.v (.int _))⟩
    · cases e1) ha hb
theorem je_div (ha : JE X W E Γ a fa) (hb : JE X W E Γ b fb) : JE X W E Γ (.BinOp a .FloorDiv b pos) (bnd fa fun x => bnd fb fun y => oB gDiv x y) :=
  je_bin op_fdiv (fun μ h H0 H x y u v Q z hr th rx ry e k => by
    obtain ⟨i, j, l, rfl, rfl, e1, rfl⟩ := gI_inv e
    unfold cDiv at e1
    split at e1
    · cases e1
      exact ⟨i, j, rr_int rx, rr_int ry, by assumption, k _ _ (Same.refl _) (.v (.int _))⟩
    · cases e1) ha hb
theorem je_pow (ha : JE X W E Γ a fa) (hb : JE X W E Γ b fb) : JE X W E Γ (.BinOp a .Pow b pos) (bnd fa fun x => bnd fb fun y => oB gPow x y) :=
  je_bin op_pow (fun μ h H0 H x y u v Q z hr th rx ry e k => by
    obtain ⟨i, j, l, rfl, rfl, e1, rfl⟩ := gI_inv e
    unfold cPow at e1
    split at e1
    · cases e1
      exact ⟨i, j, rr_int rx, rr_int ry, by assumption, k _ _ (Same.refl _) (.v (.int _))⟩
    · cases e1) ha hb
/-- + of lists -/
def rCatR : R2 := fun x y H Q => ∃ l b xs zs, x = .ref l ∧ y = .ref b ∧ Rd H l (.lst xs) ∧ Rd H b (.lst zs) ∧ xs.length + zs.length ≤ sizeLine ∧ ∀ p, H p = none → Q (.ref p) (upd H p (.lst (xs ++ zs)))
theorem op_catR : OpR X (binaryOp .Add) rCatR := by
  rintro pins s σ H _ _ v u Q I rx ry ⟨l, b, xs, zs, rfl, rfl, r1, r2, hz, q⟩
  obtain rfl : v = .ref l := rx
  obtain rfl : u = .ref b := ry
  obtain ⟨_, its, n, w1, e1⟩ := r1.ok I.hok
  obtain ⟨_, its2, n2, w2, e2⟩ := r2.ok I.hok
  have l1 := w1.length
  have l2 := w2.length
  have hs : its.toArray.size + its2.toArray.size ≤ sizeLine := by simp only [List.size_toArray]; omega
  refine PySem.P.add_list e1 e2 ?_ hs
  rw [show its.toArray ++ its2.toArray = (its ++ its2).toArray by simp]
  have I2 := I.lnew (t' := s.toks) (w1.append w2) (by rw [List.length_append]; exact hz)
  exact ⟨.ref _, _, I2, rfl, q _ I.fresh⟩
def gAdd : RV → RV → FH → Option RV
  | .v (.int i), .v (.int j), _ => some (.v (.int (i + j)))
  | .v (.int i), .v (.bl b), _ => some (.v (.int (i + b2i b)))
  | .v (.str i), .v (.str j), _ => if i.length + j.length ≤ LIM then some (.v (.str (i ++ j))) else none
  | .v (.tup i), .v (.tup j), _ => if i.length + j.length ≤ LIM then some (.v (.tup (i ++ j))) else none
  | x, y, h => match x.lst h, y.lst h with
    | some i, some j => if i.length + j.length ≤ LIM then some (.l (i ++ j)) else none
    | _, _ => none
theorem je_add (ha : JE X W E Γ a fa) (hb : JE X W E Γ b fb) : JE X W E Γ (.BinOp a .Add b pos) (bnd fa fun x => bnd fb fun y => oB gAdd x y) :=
  je_bin (OpR.or op_add (OpR.or op_add_ib (OpR.or op_add_str (OpR.or op_catA op_catR)))) (fun μ h H0 H x y u v Q z hr th rx ry e k => by
    unfold gAdd at e
    split at e
    · cases e
      exact .inl ⟨_, _, rr_int rx, rr_int ry, k _ _ (Same.refl _) (.v (.int _))⟩
    · cases e
      exact .inr (.inl ⟨_, _, rr_int rx, rr_bl ry, k _ _ (Same.refl _) (.v (.int _))⟩)
    · split at e
      · cases e
        exact .inr (.inr (.inl ⟨_, _, rr_str rx, rr_str ry, lim_le (by assumption), k _ _ (Same.refl _) (.v (.str _))⟩))
      · cases e
    · rename_i ds1 ds2
      split at e
      · rename_i hl
        cases e
        obtain ⟨p, xs, rfl, hx, hp⟩ := seqT_ok hr rx rfl
        obtain ⟨q, ys, rfl, hy, hq⟩ := seqT_ok hr ry rfl
        refine .inr (.inr (.inr (.inl ⟨p, q, xs, ys, rfl, rfl, hp, hq, by rw [hx.len, hy.len]; exact lim_le hl, fun e => ?_, fun _ e => ?_, fun _ _ p' hp' => ?_⟩)))
        · subst e
          have e0 : ds1 = [] := by cases hx; rfl
          subst e0
          exact k _ _ (Same.refl _) (.v (.tup hq hy))
        · subst e
          have e0 : ds2 = [] := by cases hy; rfl
          subst e0
          rw [List.append_nil] at k
          exact k _ _ (Same.refl _) (.v (.tup hp hx))
        · exact k _ _ (same_new hp') (rr_tup hp' (hx.append hy))
      · cases e
    · split at e
      · rename_i i j e1 e2
        split at e
        · rename_i hl
          cases e
          obtain ⟨p, xs, rfl, hp, hx⟩ := lst_ok hr rx e1
          obtain ⟨q, ys, rfl, hq, hy⟩ := lst_ok hr ry e2
          exact .inr (.inr (.inr (.inr ⟨p, q, xs, ys, rfl, rfl, hp, hq, by rw [hx.len, hy.len]; exact lim_le hl, fun r hrf => k _ _ (same_new hrf) (rr_lst hr th hrf (hx.append hy))⟩)))
        · cases e
      · cases e) ha hb
theorem VRs.rep {B : Bs} {H : Hp} {μ : Nat → Addr} {n : Nat} {ds : List FV} {xs : List V} (q : VRs B H μ n ds xs) : ∀ k : Nat, VRs B H μ n (List.replicate k ds).flatten (List.replicate k xs).flatten
  | 0 => .nil
  | k + 1 => by
    rw [List.replicate_succ, List.replicate_succ, List.flatten_cons, List.flatten_cons]
    exact q.append (VRs.rep q k)
/-- a text and an int -/
def CMulS (a : Str) (k : Int) : Prop := -(2 ^ 62) ≤ k ∧ k < 2 ^ 30 ∧ a.length * k.toNat ≤ LIM
instance (a : Str) (k : Int) : Decidable (CMulS a k) := by unfold CMulS; infer_instance
theorem CMulS.ok {a : Str} {k : Int} (h : CMulS a k) : MulOk a k := by
  obtain ⟨h1, h2, h3⟩ := h
  refine ⟨?_, fun hk _ => ?_, fun hk _ => ?_⟩
  · rw [decide_eq_false (by omega), decide_eq_false (by omega)]; rfl
  · have kp : 0 < k := by omega
    have e : ((k.toNat : Nat) : Int) = k := Int.toNat_of_nonneg (by omega)
    have h3' : a.length * k.toNat ≤ 16000000 := h3
    have l : (a.length : Int) * k ≤ 16000000 := by
      rw [← e, ← Int.natCast_mul]
      exact Int.ofNat_le.mpr h3'
    intro z
    have := (Int.ediv_lt_iff_lt_mul kp).mp z
    omega
  · show decide _ = false
    exact decide_eq_false (Nat.not_lt.mpr (lim_le h3))
theorem op_mulS {X : Cx} : OpR X (binaryOp .Mult) (fun x y H Q => ∃ a k, x = .str a ∧ y = .int k ∧ CMulS a k ∧ Q (.str (Txt.mul a k)) H) := by
  intro pins s σ H x y v u Q I rx ry h
  obtain ⟨a, k, rfl, rfl, hc, q⟩ := h
  obtain ⟨t, rfl⟩ := rx
  obtain ⟨t', rfl⟩ := ry
  exact PySem.SB.mul hc.ok fun t'' k' => ⟨.str (Txt.mul a k), H, I.tok k', ⟨_, rfl⟩, q⟩
/-- * of ints; of a new list and an int; of a text and an int -/
def gMul : RV → RV → FH → Option RV
  | .v (.int i), .v (.int j), _ => (cMul i j).map fun k => .v (.int k)
  | .l ds, .v (.int k), _ => if -(2 ^ 63) ≤ k ∧ k < 2 ^ 63 ∧ ds.length * k.toNat ≤ LIM then some (.l (List.replicate k.toNat ds).flatten) else none
  | .v (.str a), .v (.int k), _ => if CMulS a k then some (.v (.str (Txt.mul a k))) else none
  | _, _, _ => none
theorem je_mul (ha : JE X W E Γ a fa) (hb : JE X W E Γ b fb) : JE X W E Γ (.BinOp a .Mult b pos) (bnd fa fun x => bnd fb fun y => oB gMul x y) :=
  je_bin (OpR.or op_mul (OpR.or op_rep op_mulS)) (fun μ h H0 H x y u v Q z hr th rx ry e k => by
    unfold gMul at e
    split at e
    · rename_i i j
      unfold cMul at e
      by_cases hc : CMul i j
      · rw [if_pos hc] at e
        cases e
        exact .inl ⟨_, _, rr_int rx, rr_int ry, hc, k _ _ (Same.refl _) (.v (.int _))⟩
      · rw [if_neg hc] at e; cases e
    · split at e
      · rename_i hc
        cases e
        cases rx with
        | l f hp hx =>
          exact .inr (.inl ⟨_, _, _, rfl, rr_int ry, hp, hc.1, hc.2.1, by rw [hx.len]; exact lim_le hc.2.2, fun r hrf => k _ _ (same_new hrf) (rr_lst hr th hrf (hx.rep _))⟩)
      · cases e
    · split at e
      · rename_i hc
        cases e
        exact .inr (.inr ⟨_, _, rr_str rx, rr_int ry, hc, k _ _ (Same.refl _) (.v (.str _))⟩)
      · cases e
    · cases e) ha hb
def oU (g : RV → FH → Option RV) (x : RV) : M RV := lift (g x)
def gNeg : RV → FH → Option RV
  | .v (.int i), _ => some (.v (.int (-i)))
  | _, _ => none
theorem je_neg (ha : JE X W E Γ a fa) : JE X W E Γ (.UnaryOp .USub a pos) (bnd fa fun x => oU gNeg x) := fun μ h σ H Q s p =>
  wE.of (pe_un un_neg pe_w) (ha μ h σ H _ s (Po.mono (Po.bind p) fun x h1 μ1 H1 _ s1 hr1 p1 u ru => by
    obtain ⟨z, hz, p2⟩ := p1.lift
    unfold gNeg at hz
    split at hz
    · cases hz
      exact ⟨_, rr_int ru, p2.last hr1 (Same.refl _) _ (.v (.int _))⟩
    · cases hz))
/-! ### comparisons -/
def CmpOk (X : Cx) (r : R2) (g : RV → RV → FH → Option Bool) : Prop :=
  ∀ μ h H0 H x y u v (Q : VK) z, HR (bs X) μ h H → RR (bs X) H0 μ h.length H x u → RR (bs X) H0 μ h.length H y v → g x y h = some z → (∀ H', Same H H' → Q (.bl z) H') → r u v H Q
def oC (g : RV → RV → FH → Option Bool) (x y : RV) : M Bool := lift (g x y)
/-- a test as a value -/
def mB (t : M Bool) : M RV := bnd t fun b => pur (.v (.bl b))
theorem Po.bl {B : Bs} {μ : Nat → Addr} {n : Nat} {H : Hp} {R : RV → FH → (Nat → Addr) → Hp → Prop} {E : XK} {t : M Bool} {h : FH} (p : Po B μ n H R E (mB t h)) :
    Po B μ n H (fun b h' μ' H' => R (.v (.bl b)) h' μ' H') E (t h) := by
  unfold mB bnd at p
  cases q : t h with
  | no => rw [q] at p; exact p
  | ex x h' => rw [q] at p; exact p
  | ok b h' => rw [q] at p; exact p
theorem jt_cmp {op : CmpOp} {r : R2} {g : RV → RV → FH → Option Bool} (ho : OpR X (compareOp op) r) (hg : CmpOk X r g) (ha : JE X W E Γ a fa) (hb : JE X W E Γ b fb) (hm : behindInMarks op b = false) : JT X W E Γ (.Compare a [op] [b] pos) (bnd fa fun x => bnd fb fun y => oC g x y) := fun μ h σ H Q s p =>
  wT.of (pt_cmpR ho pe_w pe_w hm) (ha μ h σ H _ s (Po.mono (Po.bind p) fun x h1 μ1 H1 _ s1 hr1 p1 u ru =>
    hb μ1 h1 σ H1 _ (s.step s1 hr1) (Po.mono (Po.bind p1) fun y h2 μ2 H2 _ s2 hr2 p2 v rv => by
      obtain ⟨z, hz, p3⟩ := p2.lift
      exact hg μ2 h2 H H2 x y u v _ z hr2 (ru.step s2) (rv.since s1.th) hz fun H' e => ⟨z, rfl, p3.last hr2 e⟩)))
theorem je_cmp {op : CmpOp} {r : R2} {g : RV → RV → FH → Option Bool} (ho : OpR X (compareOp op) r) (hg : CmpOk X r g) (ha : JE X W E Γ a fa) (hb : JE X W E Γ b fb) (hm : behindInMarks op b = false) : JE X W E Γ (.Compare a [op] [b] pos) (mB (bnd fa fun x => bnd fb fun y => oC g x y)) := fun μ h σ H Q s p =>
  wE.of (pe_cmpR ho pe_w pe_w hm) (ha μ h σ H _ s (Po.mono (Po.bind p.bl) fun x h1 μ1 H1 _ s1 hr1 p1 u ru =>
    hb μ1 h1 σ H1 _ (s.step s1 hr1) (Po.mono (Po.bind p1) fun y h2 μ2 H2 _ s2 hr2 p2 v rv => by
      obtain ⟨z, hz, p3⟩ := p2.lift
      exact hg μ2 h2 H H2 x y u v _ z hr2 (ru.step s2) (rv.since s1.th) hz fun H' e => p3.last hr2 e _ (.v (.bl z)))))
/-! order: ints; texts (below only) -/
def gOrd (f : Int → Int → Bool) : RV → RV → FH → Option Bool
  | .v (.int i), .v (.int j), _ => some (f i j)
  | _, _, _ => none
theorem ord_ok {f : Int → Int → Bool} : CmpOk X (rI0 fun i j => .bl (f i j)) (gOrd f) := fun μ h H0 H x y u v Q z hr rx ry e k => by
  unfold gOrd at e
  split at e
  · cases e
    exact ⟨_, _, rr_int rx, rr_int ry, k _ (Same.refl _)⟩
  · cases e
def gLt : RV → RV → FH → Option Bool
  | .v (.int i), .v (.int j), _ => some (decide (i < j))
  | .v (.str i), .v (.str j), _ => some (decide (i.cps.toList < j.cps.toList))
  | _, _, _ => none
theorem lt_ok : CmpOk X (fun x y H Q => rI0 (fun i j => .bl (decide (i < j))) x y H Q ∨ ∃ i j, x = .str i ∧ y = .str j ∧ Q (.bl (decide (i.cps.toList < j.cps.toList))) H) gLt := fun μ h H0 H x y u v Q z hr rx ry e k => by
  unfold gLt at e
  split at e
  · cases e
    exact .inl ⟨_, _, rr_int rx, rr_int ry, k _ (Same.refl _)⟩
  · cases e
    exact .inr ⟨_, _, rr_str rx, rr_str ry, k _ (Same.refl _)⟩
  · cases e
def gLe : RV → RV → FH → Option Bool
  | .v (.int i), .v (.int j), _ => some (decide (i ≤ j))
  | .v (.str i), .v (.str j), _ => some (!decide (j.cps.toList < i.cps.toList))
  | _, _, _ => none
theorem le_ok : CmpOk X (fun x y H Q => rI0 (fun i j => .bl (decide (i ≤ j))) x y H Q ∨ ∃ i j, x = .str i ∧ y = .str j ∧ Q (.bl (!decide (j.cps.toList < i.cps.toList))) H) gLe := fun μ h H0 H x y u v Q z hr rx ry e k => by
  unfold gLe at e
  split at e
  · cases e
    exact .inl ⟨_, _, rr_int rx, rr_int ry, k _ (Same.refl _)⟩
  · cases e
    exact .inr ⟨_, _, rr_str rx, rr_str ry, k _ (Same.refl _)⟩
  · cases e
def gGt : RV → RV → FH → Option Bool := gOrd fun i j => decide (j < i)
def gGe : RV → RV → FH → Option Bool := gOrd fun i j => decide (j ≤ i)
section
variable (ha : JE X W E Γ a fa) (hb : JE X W E Γ b fb)
theorem jt_lt (ha : JE X W E Γ a fa) (hb : JE X W E Γ b fb) : JT X W E Γ (.Compare a [.Lt] [b] pos) (bnd fa fun x => bnd fb fun y => oC gLt x y) := jt_cmp (OpR.or op_lt op_lt_str) lt_ok ha hb (nomark _)
theorem jt_gt (ha : JE X W E Γ a fa) (hb : JE X W E Γ b fb) : JT X W E Γ (.Compare a [.Gt] [b] pos) (bnd fa fun x => bnd fb fun y => oC gGt x y) := jt_cmp op_gt ord_ok ha hb (nomark _)
theorem jt_ge (ha : JE X W E Γ a fa) (hb : JE X W E Γ b fb) : JT X W E Γ (.Compare a [.GtE] [b] pos) (bnd fa fun x => bnd fb fun y => oC gGe x y) := jt_cmp op_ge ord_ok ha hb (nomark _)
end
/-! is None -/
def gIsN (neg : Bool) : RV → RV → FH → Option Bool
  | .v .non, .v .non, _ => some (!neg)
  | _, .v .non, _ => some neg
  | _, _, _ => none
theorem nn {B : Bs} {H0 H : Hp} {μ : Nat → Addr} {n : Nat} {x : RV} {u : V} (r : RR B H0 μ n H x u) (k : x = .v .non → False) : u ≠ .non := fun z => by
  subst z
  cases r with
  | v q => cases q; exact k rfl
end
end P
/-! P: data, ==, in, tests, arguments, displays, subscripts, slices, built-ins of one argument. -/
namespace P
open PySem PySem.Spec PyProof.Rows L2 G
/-! ### data -/
mutual
def FV.py : FV → PyData
  | .non => .none
  | .bl b => .bool b
  | .int i => .int i
  | .str x => .str x
  | .tup xs => .tuple (FV.pys xs)
  | .fl xs => .list (FV.pys xs)
  | .sl xs => .list (FV.pys xs)
  | _ => .none
def FV.pys : List FV → List PyData
  | [] => []
  | x :: xs => x.py :: FV.pys xs
end
mutual
def FV.pure : FV → Bool
  | .non => true
  | .bl _ => true
  | .int _ => true
  | .str _ => true
  | .tup xs => FV.pures xs
  | .fl xs => FV.pures xs
  | .sl xs => FV.pures xs
  | _ => false
def FV.pures : List FV → Bool
  | [] => true
  | x :: xs => x.pure && FV.pures xs
end
section
variable {B : Bs} {H H0 : Hp} {μ : Nat → Addr} {n : Nat} {h : FH}
mutual
theorem VR.dp : ∀ {d : FV} {v : V}, d.pure = true → VR B H μ n d v → Dp B.K H v d.py
  | .non, _, _, r => by cases r; simp only [FV.py]; exact .non
  | .bl b, _, _, r => by cases r; simp only [FV.py]; exact .bl b
  | .int i, _, _, r => by cases r; simp only [FV.py]; exact .int i
  | .str x, _, _, r => by cases r; simp only [FV.py]; exact .str x
  | .tup ds, _, p, r => by
    cases r with
    | tup a b =>
      simp only [FV.py]
      exact .tup a (VRs.dp (by simpa [FV.pure] using p) b)
  | .fl ds, _, p, r => by
    cases r with
    | fl a b =>
      simp only [FV.py]
      exact .lst (.inl a.rd) (VRs.dp (by simpa [FV.pure] using p) b)
  | .sl ds, _, p, r => by
    cases r with
    | sl a b =>
      simp only [FV.py]
      exact .lst a.sqL (VRs.dp (by simpa [FV.pure] using p) b)
  | .fd _ _, _, p, r => by simp [FV.pure] at p
  | .ft _ _, _, p, r => by simp [FV.pure] at p
  | .fo _ _ _, _, p, r => by simp [FV.pure] at p
  | .ref i, _, p, r => by simp [FV.pure] at p
theorem VRs.dp : ∀ {ds : List FV} {vs : List V}, FV.pures ds = true → VRs B H μ n ds vs → DpAll B.K H vs (FV.pys ds)
  | [], _, _, r => by cases r; simp only [FV.pys]; exact .nil
  | d :: ds, _, p, r => by
    cases r with
    | cons a b =>
      have p' : d.pure = true ∧ FV.pures ds = true := by simpa [FV.pures] using p
      simp only [FV.pys]
      exact .cons (VR.dp p'.1 a) (VRs.dp p'.2 b)
end
mutual
theorem FV.py_plain : ∀ {d : FV}, d.py.plain = true
  | .non => by simp [FV.py, PyData.plain]
  | .bl b => by simp [FV.py, PyData.plain]
  | .int i => by simp [FV.py, PyData.plain]
  | .str x => by simp [FV.py, PyData.plain]
  | .tup ds => by simpa [FV.py, PyData.plain] using FV.pys_plain (ds := ds)
  | .fl ds => by simpa [FV.py, PyData.plain] using FV.pys_plain (ds := ds)
  | .sl ds => by simpa [FV.py, PyData.plain] using FV.pys_plain (ds := ds)
  | .fd _ _ => by simp [FV.py, PyData.plain]
  | .ft _ _ => by simp [FV.py, PyData.plain]
  | .fo _ _ _ => by simp [FV.py, PyData.plain]
  | .ref i => by simp [FV.py, PyData.plain]
theorem FV.pys_plain : ∀ {ds : List FV}, PyData.plainAll (FV.pys ds) = true
  | [] => by simp [FV.pys, PyData.plainAll]
  | d :: ds => by simp [FV.pys, PyData.plainAll, FV.py_plain (d := d), FV.pys_plain (ds := ds)]
end
/-- the data of a list -/
def lsD (ds : List FV) : Option PyData := if FV.pures ds = true then some (.list (FV.pys ds)) else none
/-- data that a result is -/
def RV.dat : RV → FH → Option PyData
  | .v (.ref m), h => match h[m]? with | some (.lst ds) => lsD ds | _ => none
  | .v x, _ => if x.pure = true then some x.py else none
  | .l ds, _ => lsD ds
  | .bl ds, _ => lsD ds
  | _, _ => none
theorem lsD_ok {ds : List FV} {a : Addr} {xs : List V} {d : PyData} (e : lsD ds = some d) (h1 : SqL B.K H a xs) (h2 : VRs B H μ n ds xs) : Dp B.K H (.ref a) d ∧ d.plain = true := by
  unfold lsD at e
  split at e
  · rename_i hp
    cases e
    exact ⟨.lst h1 (h2.dp hp), by simpa [PyData.plain] using FV.pys_plain⟩
  · cases e
theorem dat_ok {x : RV} {u : V} {d : PyData} (hr : HR B μ h H) (r : RR B H0 μ h.length H x u) (e : x.dat h = some d) : Dp B.K H u d ∧ d.plain = true := by
  unfold RV.dat at e
  split at e
  · rename_i m h'
    split at e
    · rename_i ds q
      obtain ⟨xs, h1, h2⟩ := hr.lst q
      obtain ⟨rfl, lm⟩ := ref_inv r
      exact lsD_ok e (SqL.of h1) h2
    · cases e
  · split at e
    · rename_i hp
      cases e
      cases r with
      | v r' => exact ⟨r'.dp hp, FV.py_plain⟩
    · cases e
  · cases r with
    | l f a b => exact lsD_ok e (SqL.of a) b
  · cases r with
    | bl f a b => exact lsD_ok e (SqL.of a) b
  · cases e
end
section
variable {X : Cx} {W : WX} {E : Ent} {Γ : Sl} {e a b c : Expr} {es : List Expr} {pos p0 p1 p2 : Pos} {fa fb fc : M RV} {k : Nat}
/-! ### ==, != -/
/-! ### in -/
def rInG (K : PySem.W.Frag) (neg : Bool) : R2 := fun x y H Q => (∃ d ds b, Dp K H x d ∧ Dp K H y (if b = true then .tuple ds else .list ds) ∧ d.plain = true ∧ PyData.plainAll ds = true ∧ min (PyData.depthAll ds) d.depth ≤ 64 ∧ Q (.bl (if neg then !(ds.any fun z => PyData.eqv z d) else ds.any fun z => PyData.eqv z d)) H) ∨
  ∃ a o, y = .ref a ∧ DGet H a x o ∧ Q (.bl (if neg then !o.isSome else o.isSome)) H
theorem op_notInG (hu : X.A.units + 66 < cLine) : OpR X (compareOp .NotIn) (rInG X.K true) := by
  intro pins s σ H x y v u Q I rx ry h
  rcases h with ⟨d, ds, b, hd, he, pd, pe, sd, q⟩ | ⟨a, o, rfl, g, q⟩
  · obtain ⟨as, r1⟩ := Dp.reads I d x v hd rx
    cases b with
    | true =>
      obtain ⟨bs, r2⟩ := Dp.reads I (.tuple ds) y u he ry
      exact SeqAt.notIn_tuple_data r2 r1 pe pd (by omega) ⟨.bl _, H, I, rfl, q⟩
    | false =>
      obtain ⟨bs, r2⟩ := Dp.reads I (.list ds) y u he ry
      exact SeqAt.notIn_list_data r2 r1 pe pd (by omega) ⟨.bl _, H, I, rfl, q⟩
  · obtain rfl : u = Value.ref a := ry
    exact d_notIn (by omega) I g rx fun s3 I3 => ⟨.bl (!o.isSome), H, I3, rfl, q⟩
def FV.key : FV → Option Key
  | .int i => some (.inl i)
  | .str x => some (.inr x)
  | _ => none
def lookK {κ : Type} [DecidableEq κ] (kvs : List (κ × FV)) (k : κ) : Option FV := (kvs.find? fun kv => decide (kv.1 = k)).map (·.2)
theorem KvR.look {κ : Type} [DecidableEq κ] {B : Bs} {H : Hp} {μ : Nat → Addr} {n : Nat} (k : κ) : ∀ {ds : List (κ × FV)} {ws : List (κ × V)}, KvR B H μ n ds ws →
    (match lookK ds k with | some d => ∃ v, valV ws k = some v ∧ VR B H μ n d v | none => valV ws k = none)
  | _, _, .nil => rfl
  | d :: ds, w :: ws, .cons a b => by
    unfold lookK valV
    rw [List.find?_cons, List.find?_cons]
    by_cases e : d.1 = k
    · rw [show decide (d.1 = k) = true from decide_eq_true e, show decide (w.1 = k) = true from decide_eq_true (a.1 ▸ e)]
      exact ⟨w.2, rfl, a.2⟩
    · rw [show decide (d.1 = k) = false from decide_eq_false e, show decide (w.1 = k) = false from decide_eq_false (a.1 ▸ e)]
      exact KvR.look k b
theorem look_some {κ : Type} [DecidableEq κ] {B : Bs} {H : Hp} {μ : Nat → Addr} {n : Nat} {k : κ} {ds : List (κ × FV)} {ws : List (κ × V)} {d : FV} (r : KvR B H μ n ds ws) (e : lookK ds k = some d) : ∃ v, valV ws k = some v ∧ VR B H μ n d v := by
  have := r.look k
  rw [e] at this; exact this
theorem look_none {κ : Type} [DecidableEq κ] {B : Bs} {H : Hp} {μ : Nat → Addr} {n : Nat} {k : κ} {ds : List (κ × FV)} {ws : List (κ × V)} (r : KvR B H μ n ds ws) (e : lookK ds k = none) : valV ws k = none := by
  have := r.look k
  rw [e] at this; exact this
theorem look_is {κ : Type} [DecidableEq κ] {B : Bs} {H : Hp} {μ : Nat → Addr} {n : Nat} {k : κ} {ds : List (κ × FV)} {ws : List (κ × V)} (r : KvR B H μ n ds ws) : (valV ws k).isSome = (lookK ds k).isSome := by
  cases q : lookK ds k with
  | none => rw [look_none r q]; rfl
  | some d => obtain ⟨v, e, _⟩ := look_some r q; rw [e]; rfl
theorem key_ok {B : Bs} {H H0 : Hp} {μ : Nat → Addr} {n : Nat} {d : FV} {u : V} {k : Key} (r : RR B H0 μ n H (.v d) u) (e : d.key = some k) : u = kV k := by
  cases r with
  | v q =>
    cases q with
    | int i => cases e; rfl
    | str x => cases e; rfl
    | _ => cases e
/-- the items of a tuple or a list, or a dict's keys -/
def gIn (neg : Bool) (x y : RV) (h : FH) : Option Bool := match y.seq h, y.dict h with
  | some (_, ds), _ => match x.dat h with
    | some d => if FV.pures ds = true ∧ min (PyData.depthAll (FV.pys ds)) d.depth ≤ 64 then some (if neg then !((FV.pys ds).any fun z => PyData.eqv z d) else (FV.pys ds).any fun z => PyData.eqv z d) else none
    | none => none
  | none, some kvs => match x with
    | .v d => match d.key with
      | some k => some (if neg then !(lookK kvs k).isSome else (lookK kvs k).isSome)
      | none => none
    | _ => none
  | none, none => match x, y with
    | .v (.str w), .v (.str z) => match w.cps.toList with
      | [c] => some (if neg then !decide (c ∈ z.cps.toList) else decide (c ∈ z.cps.toList))
      | _ => none
    | _, _ => none
def rInH (K : PySem.W.Frag) (neg : Bool) : R2 := fun x y H Q => rInG K neg x y H Q ∨ ∃ (c : Nat) (z : Str), x = .str ⟨#[c]⟩ ∧ y = .str z ∧ Q (.bl (if neg then !decide (c ∈ z.cps.toList) else decide (c ∈ z.cps.toList))) H
theorem op_notInH (hu : X.A.units + 66 < cLine) : OpR X (compareOp .NotIn) (rInH X.K true) := OpR.or (op_notInG hu) op_notIn_sign
theorem in_ok {neg : Bool} : CmpOk X (rInH X.K neg) (gIn neg) := fun μ h H0 H x y u v Q z hr rx ry e k => by
  unfold gIn at e
  split at e
  · rename_i b ds e1
    split at e
    · rename_i d e2
      split at e
      · rename_i hc
        cases e
        obtain ⟨a, xs, rfl, h2, h3⟩ := seq_ok hr ry e1
        obtain ⟨d1, d2⟩ := dat_ok hr rx e2
        refine .inl (.inl ⟨d, FV.pys ds, b, d1, ?_, d2, FV.pys_plain, hc.2, k H (Same.refl H)⟩)
        cases b with
        | true => exact .tup (by rw [if_pos rfl] at h3; exact h3) (h2.dp hc.1)
        | false => exact .lst (by rw [if_neg (by decide)] at h3; exact h3) (h2.dp hc.1)
      · cases e
    · cases e
  · rename_i kvs _ e1
    split at e
    · rename_i d
      split at e
      · rename_i kk e2
        cases e
        obtain ⟨a, ws, rfl, h2, h3⟩ := dict_ok hr ry e1
        have eu := key_ok rx e2
        subst eu
        refine .inl (.inr ⟨a, valV ws kk, rfl, .inl ⟨ws, kk, h2, rfl, rfl⟩, ?_⟩)
        rw [look_is h3]
        exact k H (Same.refl H)
      · cases e
    · cases e
  · split at e
    · rename_i w zz _ _
      split at e
      · rename_i c hc
        cases e
        have ew : w = ⟨#[c]⟩ := by
          obtain ⟨cs⟩ := w
          congr 1
          exact Array.toList_inj.mp hc
        rw [rr_str rx, rr_str ry]
        exact .inr ⟨c, zz, by rw [ew], rfl, k H (Same.refl H)⟩
      · cases e
    · cases e
theorem units66' {k : Nat} {A : Around} (r : Room k A) : A.units + 66 < cLine := by have := r.un; omega
/-! ### a < b < c -/
def oChain (g g' : RV → RV → FH → Option Bool) (x y : RV) (fc : M RV) : M Bool := bnd (oC g x y) fun t => if t = true then bnd fc fun z => oC g' y z else pur false
theorem jt_chain {op op' : CmpOp} {r r' : R2} {g g' : RV → RV → FH → Option Bool} (ho : OpR X (compareOp op) r) (hg : CmpOk X r g) (ho' : OpR X (compareOp op') r') (hg' : CmpOk X r' g') (ha : JE X W E Γ a fa) (hb : JE X W E Γ b fb) (hc : JE X W E Γ c fc)
    (hm : lastMarks [op, op'] [b, c] = false := by with_unfolding_all rfl) : JT X W E Γ (.Compare a [op, op'] [b, c] pos) (bnd fa fun x => bnd fb fun y => oChain g g' x y fc) := fun μ h σ H Q s p =>
  wT.of (pt_chain ho ho' pe_w pe_w pe_w hm) (ha μ h σ H _ s (Po.mono (Po.bind p) fun x h1 μ1 H1 _ s1 hr1 p1 u ru =>
    hb μ1 h1 σ H1 _ (s.step s1 hr1) (Po.mono (Po.bind p1) fun y h2 μ2 H2 _ s2 hr2 p2 v rv => by
      obtain ⟨t, ht, p3⟩ := (Po.bind p2).lift
      refine hg μ2 h2 H H2 x y u v _ t hr2 (ru.step s2) (rv.since s1.th) ht fun H' e => ⟨t, rfl, ?_⟩
      have p4 := p3.last hr2 e
      cases t with
      | false =>
        rw [if_neg (by decide)] at p4 ⊢
        exact ⟨_, rfl, Po.here rfl (hr2.same e) p4⟩
      | true =>
        rw [if_pos rfl] at p4 ⊢
        have se : Step μ2 h2.length H2 μ2 h2.length H' := Step.same e
        refine hc μ2 h2 σ H' _ (((s.step s1 hr1).step s2 hr2).step se (hr2.same e)) (Po.mono (Po.bind p4) fun z h4 μ4 H4 _ s4 hr4 p5 w rw' => ?_)
        obtain ⟨t', ht', p6⟩ := p5.lift
        exact hg' μ4 h4 H1 H4 y z v w _ t' hr4 (rv.step (se.trans s4)) (rw'.since fun a q => se.th a (s2.th a q)) ht' fun H'' e' => ⟨t', rfl, p6.last hr4 e'⟩)))
/-! ### tests -/
/-- a truth value -/
def oT (x : RV) : M Bool := match x with | .v (.bl b) => pur b | _ => fail
theorem jt_val (ha : JE X W E Γ a fa) (he : ∀ whole, isTrue a X.env whole = (do let v ← whole; standAt a.pos; holding [v] (truthy v)) := by intro _; rfl) : JT X W E Γ a (bnd fa oT) := fun μ h σ H Q s p =>
  wT.of (pt_val pe_w he) (ha μ h σ H _ s (Po.mono (Po.bind p) fun x h1 μ1 H1 _ s1 hr1 p1 u ru => by
    unfold oT at p1
    split at p1
    · exact ⟨_, rr_bl ru, Po.last p1 hr1 (Same.refl _)⟩
    · exact p1.elim))
def mNot (t : M Bool) : M Bool := bnd t fun b => pur (!b)
theorem Po.notb {B : Bs} {μ : Nat → Addr} {n : Nat} {H : Hp} {R : Bool → FH → (Nat → Addr) → Hp → Prop} {E : XK} {t : M Bool} {h : FH} (p : Po B μ n H R E (mNot t h)) :
    Po B μ n H (fun b h' μ' H' => R (!b) h' μ' H') E (t h) := by
  unfold mNot bnd at p
  cases q : t h with
  | no => rw [q] at p; exact p
  | ex x h' => rw [q] at p; exact p
  | ok b h' => rw [q] at p; exact p
theorem jt_not {t : M Bool} (ha : JT X W E Γ a t) : JT X W E Γ (.UnaryOp .Not a pos) (mNot t) := fun μ h σ H Q s p => wT.of (pt_not pt_w) (ha μ h σ H _ s p.notb)
def mAnd (t u : M Bool) : M Bool := bnd t fun b => if b = true then u else pur false
def mOr (t u : M Bool) : M Bool := bnd t fun b => if b = true then pur true else u
/-- and, or as tests: whatever the whole is -/
def JW (X : Cx) (W : WX) (E : Ent) (Γ : Sl) (e : Expr) (f : M Bool) : Prop := ∃ t, PW X e t ∧ ∀ μ h σ H Q, SR (bs X) E μ Γ h σ H → Po (bs X) μ h.length H (fun b h' μ' H' => Q b H') (fun c d H' => W c d σ H') (f h) → t σ H Q
theorem jt_bool {t : M Bool} (h : JW X W E Γ e t) : JT X W E Γ e t := by
  obtain ⟨t, p, q⟩ := h
  exact fun μ h σ H Q s p' => wT.of p.pt (q μ h σ H Q s p')
variable {rest : List Expr} {t u : M Bool}
theorem jw_and1 (h : JT X W E Γ a t) : JW X W E Γ (.BoolOp .And [a] pos) t := ⟨_, pw_and1 pt_w, h⟩
theorem jw_or1 (h : JT X W E Γ a t) : JW X W E Γ (.BoolOp .Or [a] pos) t := ⟨_, pw_or1 pt_w, h⟩
theorem jw_and (h : JT X W E Γ a t) (g : JW X W E Γ (.BoolOp .And (b :: rest) pos) u) : JW X W E Γ (.BoolOp .And (a :: b :: rest) pos) (mAnd t u) := by
  obtain ⟨tt, p, q⟩ := g
  refine ⟨_, pw_and pt_w p, fun μ h0 σ H Q s p' => h μ h0 σ H _ s (Po.mono (Po.bind p') fun b h1 μ1 H1 _ s1 hr1 p1 => ?_)⟩
  cases b with
  | true =>
    rw [if_pos rfl] at p1 ⊢
    exact q μ1 h1 σ H1 Q (s.step s1 hr1) p1
  | false =>
    rw [if_neg (by decide)] at p1 ⊢
    exact Po.last p1 hr1 (Same.refl _)
theorem jw_or (h : JT X W E Γ a t) (g : JW X W E Γ (.BoolOp .Or (b :: rest) pos) u) : JW X W E Γ (.BoolOp .Or (a :: b :: rest) pos) (mOr t u) := by
  obtain ⟨tt, p, q⟩ := g
  refine ⟨_, pw_or pt_w p, fun μ h0 σ H Q s p' => h μ h0 σ H _ s (Po.mono (Po.bind p') fun b h1 μ1 H1 _ s1 hr1 p1 => ?_)⟩
  cases b with
  | true =>
    rw [if_pos rfl] at p1 ⊢
    exact Po.last p1 hr1 (Same.refl _)
  | false =>
    rw [if_neg (by decide)] at p1 ⊢
    exact q μ1 h1 σ H1 Q (s.step s1 hr1) p1
/-! .. as values -/
def oAndV (x : RV) (fb : M RV) : M RV := match x with | .v (.bl b) => if b = true then fb else pur (.v (.bl false)) | _ => fail
def oOrV (x : RV) (fb : M RV) : M RV := match x with | .v (.bl b) => if b = true then pur (.v (.bl true)) else fb | _ => fail
theorem je_one {op : BoolOp} (h : JE X W E Γ a fa) : JE X W E Γ (.BoolOp op [a] pos) fa := fun μ h0 σ H Q s p => wE.of (pe_one pe_w) (h μ h0 σ H Q s p)
theorem Po.since {B : Bs} {μ : Nat → Addr} {n : Nat} {H0 H : Hp} {Q : VK} {E : XK} {r : Rs RV} (p : Po B μ n H (fun r h' μ' H' => ∀ u, RR B H0 μ' h'.length H' r u → Q u H') E r) (th : ∀ a, H0 a ≠ none → H a ≠ none) :
    Po B μ n H (fun r h' μ' H' => ∀ u, RR B H μ' h'.length H' r u → Q u H') E r := p.mono fun x h' μ' H' _ s _ q u ru => q u (ru.since th)
theorem je_and (ha : JE X W E Γ a fa) (hb : JE X W E Γ (.BoolOp .And (b :: es) pos) fb) : JE X W E Γ (.BoolOp .And (a :: b :: es) pos) (bnd fa fun x => oAndV x fb) := fun μ h σ H Q s p =>
  wE.of (pe_and pe_w pe_w) (ha μ h σ H _ s (Po.mono (Po.bind p) fun x h1 μ1 H1 eq1 s1 hr1 p1 u ru => by
    unfold oAndV at p1
    split at p1
    · rename_i d
      refine ⟨d, rr_bl ru, ?_⟩
      cases d with
      | true =>
        rw [if_pos rfl] at p1 ⊢
        exact hb μ1 h1 σ H1 Q (s.step s1 hr1) (p1.since s1.th)
      | false =>
        rw [if_neg (by decide)] at p1 ⊢
        exact Po.last p1 hr1 (Same.refl _) _ (.v (.bl false))
    · exact p1.elim))
def oNotV (x : RV) : M RV := match x with | .v (.bl b) => pur (.v (.bl (!b))) | _ => fail
/-! ### arguments -/
/-- what the arguments do: c k evaluates them and goes on with their values -/
def JA (X : Cx) (W : WX) (E : Ent) (Γ : Sl) (es : List Expr) (c : (List FV → M RV) → M RV) : Prop :=
  ∀ (k : List FV → M RV) μ h σ H (R : RV → FH → (Nat → Addr) → Hp → Prop) (EX : XK), SR (bs X) E μ Γ h σ H → (∀ c d H', EX c d H' → W c d σ H') → Po (bs X) μ h.length H R EX (c k h) →
    wA X es σ H fun us H' => ∃ vs μ' h', Step μ h.length H μ' h'.length H' ∧ HR (bs X) μ' h' H' ∧ VRs (bs X) H' μ' h'.length vs us ∧ Po (bs X) μ' h'.length H' R EX (k vs h')
theorem ja_nil : JA X W E Γ [] (fun k => k []) := fun k μ h σ H R EX s _ p => wA.of pa_nil ⟨[], μ, h, Step.refl _ _ _, s.hr, .nil, p⟩
/-- an expression as a value: the wish of what follows -/
theorem JE.val {σ : L2.St} {Q : VK} {μ : Nat → Addr} {h : FH} {H : Hp} (ha : JE X W E Γ e fa) (s : SR (bs X) E μ Γ h σ H)
    (p : Po (bs X) μ h.length H (fun d h' μ' H' => ∀ u, VR (bs X) H' μ' h'.length d u → Q u H') (fun c d H' => W c d σ H') (mV fa h)) : wE X e σ H Q :=
  wE.gh (ha μ h σ H _ s (Po.mono (Po.vF p) fun x h1 μ1 H1 _ s1 hr1 p1 u ru => by
    obtain ⟨d, _, g⟩ := p1 u ru
    exact g.mono fun H2 z => z.2.2.2.2.2 u z.2.2.1))
theorem ja_cons {c : (List FV → M RV) → M RV} (ha : JE X W E Γ e fa) (ht : JA X W E Γ es c) (hs : starEach (e :: es) X.env = (false, eval e X.env) :: starEach es X.env := by exact star1 rfl) : JA X W E Γ (e :: es) (fun k => bnd (mV fa) fun v => c fun vs => k (v :: vs)) := fun k μ h σ H R EX s hE p =>
  wA.of (pa_cons pe_w pa_w hs) (ha.val s (Po.mono (Po.monoE (Po.bind p) hE) fun v h1 μ1 H1 _ s1 hr1 p1 u vu =>
    wA.mono (ht (fun vs => k (v :: vs)) μ1 h1 σ H1 R EX (s.step s1 hr1) hE p1) fun us H2 ⟨vs, μ2, h2, s2, hr2, rv, p2⟩ =>
      ⟨v :: vs, μ2, h2, s1.trans s2, hr2, .cons (s2.vr vu) rv, p2⟩))
/-! ### displays -/
def oTup (vs : List FV) : M RV := if vs.length ≤ LIM then pur (.v (.tup vs)) else fail
def oLst (vs : List FV) : M RV := if vs.length ≤ LIM then pur (.l vs) else fail
theorem je_tup {f : (List FV → M RV) → M RV} {x1} (h : JA X W E Γ es f) : JE X W E Γ (.Tuple es x1 pos) (f oTup) := fun μ h0 σ H Q s p =>
  wE.of (pe_tup pa_w) (wA.mono (h oTup μ h0 σ H _ _ s (fun _ _ _ z => z) p) fun us H1 ⟨vs, μ1, h1, s1, hr1, rus, p1⟩ => by
    unfold oTup at p1
    split at p1
    · rename_i hl
      exact ⟨by rw [rus.len]; exact lim_le hl, fun q hq => Po.last p1 hr1 (same_new hq) _ (rr_tup hq rus)⟩
    · exact p1.elim)
theorem je_lst {f : (List FV → M RV) → M RV} (h : JA X W E Γ es f) : JE X W E Γ (.List es pos) (f oLst) := fun μ h0 σ H Q s p =>
  wE.of (pe_lst pa_w) (wA.mono (h oLst μ h0 σ H _ _ s (fun _ _ _ z => z) p) fun us H1 ⟨vs, μ1, h1, s1, hr1, rus, p1⟩ => by
    unfold oLst at p1
    split at p1
    · rename_i hl
      exact ⟨by rw [rus.len]; exact lim_le hl, fun q hq => Po.last p1 hr1 (same_new hq) _ (rr_lst hr1 s1.th hq rus)⟩
    · exact p1.elim)
theorem je_d0 : JE X W E Γ (.Dict [] [] pos) (pur (.d [])) := fun μ h0 σ H Q s p => wE.of pe_dnewK (fun q hq => Po.last p s.hr (same_new hq) _ (rr_dct s.hr (fun _ z => z) hq .nil))
/-! ### subscripts -/
theorem ix_dict (hu : X.A.units + 1 < cLine) : IxR X (fun x y H Q => ∃ a v, x = .ref a ∧ DGet H a y (some v) ∧ Q v H) := by
  intro value slice pins s σ H x y v u Q I rx ry h hs
  obtain ⟨a, w, rfl, g, q⟩ := h
  obtain rfl : v = Value.ref a := rx
  have hT := dict_typeIs I g
  unfold subscriptTail
  refine wpAny_bind ?_
  rw [getitemInPython_of_ne hT.not_modules]
  refine wpAny_bind (wpAny_specialOf hT PySem.F.slot_dict_getitem.lookup ?_)
  have fin : wpAny (model X.prog X.w) X.A (subscripted slice false (.ref a) u) (fun r s₃ => wpAny (model X.prog X.w) X.A (letTemporaryGo value (.ref a) r >>= fun _ => pure r) (EP X pins σ Q) X.xe s₃) X.xe s := by
    rw [hs]
    exact wpAny_operating (wpAny_mono (d_getItem hu I g ry fun w' s3 I3 rw' => ⟨w, H, I3, rw', q⟩) (fun r s₃ h₃ => wpAny_bind (wpAny_letTemporaryGo (wpAny_pure h₃))) fun _ _ x => x)
  first
    | exact wpAny_pure (wpAny_bind fin)
    | exact wpAny_bind (wpAny_pure (wpAny_bind fin))
    | exact wpAny_bind fin
def gIx (x y : RV) (h : FH) : Option RV := match x, y with
  | .v (.str z), .v (.int i) => if z.length ≤ LIM then (atI z.cps.toList i).map fun c => .v (.str ⟨#[c]⟩) else none
  | x, .v d => match x.seq h, x.dict h with
    | some (_, ds), _ => match d with
      | .int i => (atI ds i).map .v
      | _ => none
    | none, some kvs => match d.key with
      | some k => (lookK kvs k).map .v
      | none => none
    | none, none => none
  | _, _ => none
theorem atI_vr {B : Bs} {H : Hp} {μ : Nat → Addr} {n : Nat} {ds : List FV} {xs : List V} {i : Int} {d : FV} (r : VRs B H μ n ds xs) (e : atI ds i = some d) : ∃ v, atI xs i = some v ∧ VR B H μ n d v := by
  unfold atI at e ⊢
  rw [r.len]
  cases q : ixN ds.length i with
  | none => rw [q] at e; cases e
  | some j =>
    rw [q] at e
    exact r.get (i := j) e
theorem je_ix (hr : Room k X.A) (ha : JE X W E Γ a fa) (hb : JE X W E Γ b fb) (hs : PlainIx b := by exact fun _ _ => rfl) : JE X W E Γ (.Subscript a b pos) (bnd fa fun x => bnd fb fun y => oB gIx x y) := fun μ h σ H Q s p =>
  wE.of (pe_ix (ix_seq.or (ix_dict (hu_of hr))) pe_w pe_w hs) (ha μ h σ H _ s (Po.mono (Po.bind p) fun x h1 μ1 H1 _ s1 hr1 p1 u ru =>
    hb μ1 h1 σ H1 _ (s.step s1 hr1) (Po.mono (Po.bind p1) fun y h2 μ2 H2 _ s2 hr2 p2 v rv => by
      obtain ⟨z, hz, p3⟩ := p2.lift
      have ru2 := ru.step s2
      unfold gIx at hz
      split at hz
      · rename_i w i _ _
        split at hz
        · rename_i hl
          cases q : atI w.cps.toList i with
          | none => rw [q] at hz; cases hz
          | some c =>
            rw [q] at hz
            cases hz
            exact .inl (.inr (.inr ⟨w, i, c, rr_str ru2, rr_int rv, lim_le hl, q, p3.last hr2 (Same.refl _) _ (.v (.str _))⟩))
        · cases hz
      · rename_i d _
        split at hz
        · rename_i bb ds e1
          split at hz
          · rename_i i _
            cases q : atI ds i with
            | none => rw [q] at hz; cases hz
            | some c =>
              rw [q] at hz
              cases hz
              obtain ⟨a', xs, rfl, h4, h5⟩ := seqE_ok hr2 ru2 e1
              obtain ⟨w, h6, h7⟩ := atI_vr h4 q
              have fin := p3.last hr2 (Same.refl _) w (.v h7)
              rcases h5 with h5 | h5
              · exact .inl (.inl ⟨a', xs, i, w, rfl, rr_int rv, h5, h6, fin⟩)
              · exact .inl (.inr (.inl ⟨a', xs, i, w, rfl, rr_int rv, h5, h6, fin⟩))
          · cases hz
        · rename_i kvs _ e1
          split at hz
          · rename_i kk e2
            cases q : lookK kvs kk with
            | none => rw [q] at hz; cases hz
            | some c =>
              rw [q] at hz
              cases hz
              obtain ⟨a', ws, rfl, h4, h5⟩ := dict_ok hr2 ru2 e1
              obtain ⟨w, h6, h7⟩ := look_some h5 q
              have eu := key_ok rv e2
              subst eu
              refine .inr ⟨a', w, rfl, ?_, p3.last hr2 (Same.refl _) w (.v h7)⟩
              rw [← h6]
              exact .inl ⟨ws, kk, h4, rfl, rfl⟩
          · cases hz
        · cases hz
      · cases hz)))
/-! ### slices -/
def wO (X : Cx) (e : Option Expr) : TO := match e with | none => tNoPart | some e => tPart (wE X e)
theorem po_w {e : Option Expr} : PO X e (wO X e) := by
  cases e with
  | none => exact po_none
  | some e => exact po_some pe_w
def JP (X : Cx) (W : WX) (E : Ent) (Γ : Sl) (e : Option Expr) (f : M (Option Int)) : Prop :=
  ∀ μ h σ H Q, SR (bs X) E μ Γ h σ H → Po (bs X) μ h.length H (fun b h' μ' H' => Q b H') (fun c d H' => W c d σ H') (f h) → wO X e σ H Q
def oPt (x : RV) : M (Option Int) := match x with | .v (.int i) => pur (some i) | _ => fail
theorem jp_none : JP X W E Γ none (pur none) := fun μ h σ H Q s p => Po.last p s.hr (Same.refl _)
theorem jp_some (ha : JE X W E Γ a fa) : JP X W E Γ (some a) (bnd fa oPt) := fun μ h σ H Q s p =>
  (ha μ h σ H _ s (Po.mono (Po.bind p) fun x h1 μ1 H1 _ s1 hr1 p1 u ru => by
    unfold oPt at p1
    split at p1
    · exact ⟨_, rr_int ru, Po.last p1 hr1 (Same.refl _)⟩
    · exact p1.elim))
def cutF (xs : List FV) (lo hi : Option Int) : List FV := (xs.drop (HT.sIx xs.length 0 lo)).take (HT.sIx xs.length xs.length hi - HT.sIx xs.length 0 lo)
theorem cutF_vr {B : Bs} {H : Hp} {μ : Nat → Addr} {n : Nat} {ds : List FV} {xs : List V} {lo hi : Option Int} (r : VRs B H μ n ds xs) : VRs B H μ n (cutF ds lo hi) (cutV xs lo hi) := by
  unfold cutV cutF
  rw [r.len]
  exact (r.drop _).take _
def gSl (x : RV) (lo hi : Option Int) (h : FH) : Option RV := match x with
  | .v (.str z) => if z.length ≤ LIM then some (.v (.str (cutS z lo hi))) else none
  | x => match x.seq h with
    | some (true, ds) => some (.v (.tup (cutF ds lo hi)))
    | some (false, ds) => some (.l (cutF ds lo hi))
    | none => none
def oSl (x : RV) (l u : Option Int) : M RV := lift (gSl x l u)
theorem je_sl {lo hi : Option Expr} {fl fh : M (Option Int)} (ha : JE X W E Γ a fa) (hl : JP X W E Γ lo fl) (hh : JP X W E Γ hi fh) : JE X W E Γ (.Subscript a (.Slice lo hi none p2) pos) (bnd fa fun x => bnd fl fun l => bnd fh fun u => oSl x l u) := fun μ h σ H Q s p =>
  wE.of (pe_slice (sl_str.or (sl_tupA.or sl_list)) pe_w po_w po_w) (ha μ h σ H _ s (Po.mono (Po.bind p) fun x h1 μ1 H1 _ s1 hr1 p1 u ru =>
    hl μ1 h1 σ H1 _ (s.step s1 hr1) (Po.mono (Po.bind p1) fun l h2 μ2 H2 _ s2 hr2 p2 =>
      hh μ2 h2 σ H2 _ ((s.step s1 hr1).step s2 hr2) (Po.mono (Po.bind p2) fun r h3 μ3 H3 _ s3 hr3 p3 => by
        obtain ⟨z, hz, p4⟩ := p3.lift
        have ru3 := (ru.step s2).step s3
        have th : ∀ a, H a ≠ none → H3 a ≠ none := fun a q => s3.th a (s2.th a (s1.th a q))
        unfold gSl at hz
        split at hz
        · split at hz
          · rename_i hl
            cases hz
            exact .inl ⟨_, rr_str ru3, lim_le hl, p4.last hr3 (Same.refl _) _ (.v (.str _))⟩
          · cases hz
        · split at hz
          · rename_i ds e1
            cases hz
            obtain ⟨q, xs, rfl, h4, h5⟩ := seqT_ok hr3 ru3 e1
            refine .inr (.inl ⟨q, xs, rfl, h5, fun hw => ?_, fun _ p' hp' => p4.last hr3 (same_new hp') _ (rr_tup hp' (cutF_vr h4))⟩)
            have e : cutF ds l r = ds := by
              unfold cutF
              rw [h4.len] at hw
              rw [hw.1, hw.2]
              simp
            rw [e] at p4
            exact p4.last hr3 (Same.refl _) _ (.v (.tup h5 h4))
          · rename_i ds e1
            cases hz
            obtain ⟨q, xs, rfl, h4, h5⟩ := seqL_ok hr3 ru3 e1
            exact .inr (.inr ⟨q, xs, rfl, h5, fun p' hp' => p4.last hr3 (same_new hp') _ (rr_lst hr3 th hp' (cutF_vr h4))⟩)
          · cases hz))))
/-! ### built-ins of one argument -/
def CbOk (X : Cx) (r : List V → Hp → VK → Prop) (g : RV → FH → Option RV) : Prop :=
  ∀ μ h H0 H x u (Q : VK) z, HR (bs X) μ h H → (∀ a, H0 a ≠ none → H a ≠ none) → RR (bs X) H0 μ h.length H x u → g x h = some z → (∀ w H', Same H H' → RR (bs X) H0 μ h.length H' z w → Q w H') → r [u] H Q
theorem je_b1 {x id : Str} {idn : String} {r : List V → Hp → VK → Prop} {g : RV → FH → Option RV} (hc : CallR X (.builtin idn) r) (hg0 : CbOk X r g) (hm : X.mg x = none) (hv : bootBuiltins x = some (.builtin idn)) (ha : JE X W E Γ e fa)
    (hg : Gl X x := by rfl) (hn : x ≠ "__name__" := by decide) (hdb : (x == ("__debug__" : Str)) = false := by decide)
    (he : starEach (e :: []) X.env = (false, eval e X.env) :: starEach [] X.env := by exact star1 rfl) (hpl : (backTo pos (starEach [] X.env)).any (·.1) = false := by rfl) : JE X W E Γ (.Call (.Name x p0) [e] [] pos) (bnd fa fun x => oU g x) := fun μ h σ H Q s p =>
  wE.of (pe_callB hc hg hm hv (pa_cons pe_w pa_nil he) hn hdb he hpl) (ha μ h σ H _ s (Po.mono (Po.bind p) fun x h1 μ1 H1 _ s1 hr1 p1 u ru => by
    obtain ⟨z, hz, p2⟩ := p1.lift
    exact hg0 μ1 h1 H H1 x u _ z hr1 s1.th ru hz fun w H' e q => p2.last hr1 e w q))
theorem je_t1 {x : Str} {T : String} {r : List V → Hp → VK → Prop} {g : RV → FH → Option RV} (hc : CallR X (.type T) r) (hg0 : CbOk X r g) (hm : X.mg x = none) (hv : bootBuiltins x = some (.type T)) (ha : JE X W E Γ e fa)
    (hg : Gl X x := by rfl) (hn : x ≠ "__name__" := by decide) (hdb : (x == ("__debug__" : Str)) = false := by decide)
    (he : starEach (e :: []) X.env = (false, eval e X.env) :: starEach [] X.env := by exact star1 rfl) (hpl : (backTo pos (starEach [] X.env)).any (·.1) = false := by rfl) : JE X W E Γ (.Call (.Name x p0) [e] [] pos) (bnd fa fun x => oU g x) := fun μ h σ H Q s p =>
  wE.of (pe_callTy hc hg hm hv (pa_cons pe_w pa_nil he) hn hdb he hpl) (ha μ h σ H _ s (Po.mono (Po.bind p) fun x h1 μ1 H1 _ s1 hr1 p1 u ru => by
    obtain ⟨z, hz, p2⟩ := p1.lift
    exact hg0 μ1 h1 H H1 x u _ z hr1 s1.th ru hz fun w H' e q => p2.last hr1 e w q))
theorem CallR.or {f : Value} {r r' : List V → Hp → VK → Prop} (h : CallR X f r) (h' : CallR X f r') : CallR X f (fun xs H Q => r xs H Q ∨ r' xs H Q) := by
  intro pins s σ H xs us Q I rx q
  rcases q with q | q
  · exact h pins s σ H xs us Q I rx q
  · exact h' pins s σ H xs us Q I rx q
theorem call_lenR : CallR X (.builtin "len") (fun xs H Q => ∃ a kvs, xs = [V.ref a] ∧ Rd H a (.dK kvs) ∧ Q (.int kvs.length) H) := by
  rintro pins s σ H _ us Q I r ⟨a, kvs, rfl, ha, q⟩
  obtain ⟨u, rfl, ru⟩ := vals1 r
  obtain rfl : u = Value.ref a := ru
  exact d_len I ha fun t s' I' => ⟨.int kvs.length, H, I', ⟨t, rfl⟩, q⟩
def gLen (x : RV) (h : FH) : Option RV := match x with
  | .v (.str z) => if z.length ≤ LIM then some (.v (.int z.length)) else none
  | x => match x.seq h, x.dict h with
    | some (_, ds), _ => some (.v (.int ds.length))
    | none, some kvs => some (.v (.int kvs.length))
    | none, none => none
theorem je_len (hm : X.mg "len" = none) (ha : JE X W E Γ e fa) (hg : Gl X "len" := by rfl)
    (he : starEach (e :: []) X.env = (false, eval e X.env) :: starEach [] X.env := by exact star1 rfl) (hpl : (backTo pos (starEach [] X.env)).any (·.1) = false := by rfl) : JE X W E Γ (.Call (.Name "len" p0) [e] [] pos) (bnd fa fun x => oU gLen x) :=
  je_b1 (id := "len") (CallR.or call_len_str (CallR.or call_len_seq call_lenR)) (fun μ h H0 H x u Q z hr th ru hz k => by
    unfold gLen at hz
    split at hz
    · split at hz
      · rename_i hl
        cases hz
        exact .inl ⟨_, by rw [rr_str ru], lim_le hl, k _ _ (Same.refl _) (.v (.int _))⟩
      · cases hz
    · split at hz
      · rename_i b ds _ e1
        cases hz
        obtain ⟨q, xs, rfl, h4, h5⟩ := seqE_ok hr ru e1
        refine .inr (.inl ⟨q, xs, rfl, h5, k _ _ (Same.refl _) ?_⟩)
        rw [h4.len]; exact .v (.int _)
      · rename_i kvs _ e1
        cases hz
        obtain ⟨q, ws, rfl, h4, h5⟩ := dict_ok hr ru e1
        refine .inr (.inr ⟨q, ws, rfl, h4, k _ _ (Same.refl _) ?_⟩)
        rw [h5.len]; exact .v (.int _)
      · cases hz) hm PySem.boot_len ha hg (by decide) (by decide) he hpl
def keyF : Key → FV
  | .inl i => .int i
  | .inr x => .str x
theorem KvR.keys {B : Bs} {H : Hp} {μ : Nat → Addr} {n : Nat} : ∀ {ds : List (Key × FV)} {ws : List (Key × V)}, KvR B H μ n ds ws → VRs B H μ n (ds.map fun kv => keyF kv.1) (ws.map fun kv => L2.kV kv.1)
  | _, _, .nil => .nil
  | (k, d) :: ds, (k', v) :: ws, .cons a b => by
    have h1' : k = k' := a.1
    subst h1'
    refine .cons ?_ (KvR.keys b)
    cases k with
    | inl i => exact .int i
    | inr x => exact .str x
def gList (x : RV) (h : FH) : Option RV := match x.seq h, x.dict h with
  | some (_, ds), _ => some (.l ds)
  | none, some kvs => some (.l (kvs.map fun kv => keyF kv.1))
  | none, none => none
theorem je_list (hcm : X.calm = true) (hm : X.mg "list" = none) (ha : JE X W E Γ e fa) (hg : Gl X "list" := by rfl)
    (he : starEach (e :: []) X.env = (false, eval e X.env) :: starEach [] X.env := by exact star1 rfl) (hpl : (backTo pos (starEach [] X.env)).any (·.1) = false := by rfl) : JE X W E Γ (.Call (.Name "list" p0) [e] [] pos) (bnd fa fun x => oU gList x) :=
  je_t1 (CallR.or call_list_of (call_listD hcm)) (fun μ h H0 H x u Q z hr th ru hz k => by
    unfold gList at hz
    split at hz
    · rename_i b ds _ e1
      cases hz
      obtain ⟨q, xs, rfl, h4, h5⟩ := seqE_ok hr ru e1
      exact .inl ⟨q, xs, rfl, h5, fun l hl => k _ _ (same_new hl) (rr_lst hr th hl h4)⟩
    · rename_i kvs _ e1
      cases hz
      obtain ⟨q, ws, rfl, h4, h5⟩ := dict_ok hr ru e1
      exact .inr ⟨q, ws, rfl, h4, fun l hl => k _ _ (same_new hl) (rr_lst hr th hl h5.keys)⟩
    · cases hz) hm (by decide +kernel) ha hg (by decide) (by decide) he hpl
def gTup (x : RV) (h : FH) : Option RV := match x.seq h with
  | some (_, ds) => some (.v (.tup ds))
  | none => none
theorem je_tuple (hm : X.mg "tuple" = none) (ha : JE X W E Γ e fa) (hg : Gl X "tuple" := by rfl)
    (he : starEach (e :: []) X.env = (false, eval e X.env) :: starEach [] X.env := by exact star1 rfl) (hpl : (backTo pos (starEach [] X.env)).any (·.1) = false := by rfl) : JE X W E Γ (.Call (.Name "tuple" p0) [e] [] pos) (bnd fa fun x => oU gTup x) :=
  je_t1 call_tuple_of (fun μ h H0 H x u Q z hr th ru hz k => by
    unfold gTup at hz
    split at hz
    · rename_i b ds e1
      cases hz
      cases b with
      | true =>
        obtain ⟨q, xs, rfl, h4, h5⟩ := seqT_ok hr ru e1
        exact ⟨q, xs, rfl, .inr ⟨h5, k _ _ (Same.refl _) (.v (.tup h5 h4))⟩⟩
      | false =>
        obtain ⟨q, xs, rfl, h4, h5⟩ := seqL_ok hr ru e1
        exact ⟨q, xs, rfl, .inl ⟨h5, fun l hl => k _ _ (same_new hl) (rr_tup hl h4)⟩⟩
    · cases hz) hm (by decide +kernel) ha hg (by decide) (by decide) he hpl
def gAbs : RV → FH → Option RV
  | .v (.int i), _ => some (.v (.int (if i < 0 then -i else i)))
  | _, _ => none
theorem je_abs (hm : X.mg "abs" = none) (ha : JE X W E Γ e fa) (hg : Gl X "abs" := by rfl)
    (he : starEach (e :: []) X.env = (false, eval e X.env) :: starEach [] X.env := by exact star1 rfl) (hpl : (backTo pos (starEach [] X.env)).any (·.1) = false := by rfl) : JE X W E Γ (.Call (.Name "abs" p0) [e] [] pos) (bnd fa fun x => oU gAbs x) :=
  je_b1 (id := "abs") call_abs (fun μ h H0 H x u Q z hr th ru hz k => by
    unfold gAbs at hz
    split at hz
    · cases hz; exact ⟨_, by rw [rr_int ru], k _ _ (Same.refl _) (.v (.int _))⟩
    · cases hz) hm (by decide +kernel) ha hg (by decide) (by decide) he hpl
def gInt : RV → FH → Option RV
  | .v (.int i), _ => some (.v (.int i))
  | .v (.bl k), _ => some (.v (.int (if k then 1 else 0)))
  | _, _ => none
theorem je_int1 (hm : X.mg "int" = none) (ha : JE X W E Γ e fa) (hg : Gl X "int" := by rfl)
    (he : starEach (e :: []) X.env = (false, eval e X.env) :: starEach [] X.env := by exact star1 rfl) (hpl : (backTo pos (starEach [] X.env)).any (·.1) = false := by rfl) : JE X W E Γ (.Call (.Name "int" p0) [e] [] pos) (bnd fa fun x => oU gInt x) :=
  je_t1 call_int1 (fun μ h H0 H x u Q z hr th ru hz k => by
    unfold gInt at hz
    split at hz
    · cases hz; exact .inl ⟨_, by rw [rr_int ru], k _ _ (Same.refl _) (.v (.int _))⟩
    · cases hz; exact .inr ⟨_, by rw [rr_bl ru], k _ _ (Same.refl _) (.v (.int _))⟩
    · cases hz) hm (by decide +kernel) ha hg (by decide) (by decide) he hpl
/-! ### isinstance -/
def tyR : RV → FH → Option String
  | .v .non, _ => some "NoneType"
  | .v (.bl _), _ => some "bool"
  | .v (.int _), _ => some "int"
  | .v (.str _), _ => some "str"
  | .v (.tup _), _ => some "tuple"
  | .v (.fl _), _ => some "list"
  | .v (.sl _), _ => some "list"
  | .v (.fd _ _), _ => some "dict"
  | .v (.ref m), h => match h[m]? with | some (.lst _) => some "list" | some (.dK _) => some "dict" | some (.dT _) => some "dict" | _ => none
  | .l _, _ => some "list"
  | .d _, _ => some "dict"
  | .t _, _ => some "dict"
  | .bl _, _ => some "list"
  | .bd _, _ => some "dict"
  | .bt _, _ => some "dict"
  | _, _ => none
theorem tyR_ok {B : Bs} {H H0 : Hp} {μ : Nat → Addr} {h : FH} {x : RV} {u : V} {T : String} (hr : HR B μ h H) (r : RR B H0 μ h.length H x u) (e : tyR x h = some T) : TyX B.K H u (.type T) := by
  cases r with
  | l f a b => cases e; exact .base (.lst a)
  | d f a b => cases e; exact .base (.dK a)
  | t f a b => cases e; exact .base (.dT a)
  | bl f a b => cases e; exact .base (.lst a)
  | bd f a b => cases e; exact .base (.dK a)
  | bt f a b => cases e; exact .base (.dT a)
  | o f z a b => cases e
  | bo f z a b => cases e
  | v q =>
    cases q with
    | non => cases e; exact .base .non
    | bl b => cases e; exact .base (.bl b)
    | int i => cases e; exact .base (.int i)
    | str y => cases e; exact .base (.str y)
    | tup a b =>
      cases e
      rcases a with (a | ⟨o, a⟩) | ⟨o, its, n, hk, hc, _⟩
      · exact .base (.tup a)
      · exact .fTuple a
      · exact .kTuple hk hc
    | fl a b => cases e; obtain ⟨o, a⟩ := a; exact .base (.frz a)
    | sl a b =>
      cases e
      rcases a with ⟨o, a⟩ | ⟨o, its, n, hk, hc, _⟩
      · exact .base (.frz a)
      · exact .kList hk hc
    | fd a b => cases e; obtain ⟨o, a⟩ := a; exact .fDict a
    | ft a b => cases e
    | fo z a b => cases e
    | ref l =>
      rename_i i
      have e' : (match h[i]? with | some (.lst _) => some "list" | some (.dK _) => some "dict" | some (.dT _) => some "dict" | _ => none) = some T := e
      split at e'
      · rename_i z zh
        cases e'
        obtain ⟨xs, h1, h2⟩ := hr.at' _ _ zh
        exact .base (.lst h1)
      · rename_i z zh
        cases e'
        obtain ⟨xs, h1, h2⟩ := hr.at' _ _ zh
        exact .base (.dK h1)
      · rename_i z zh
        cases e'
        obtain ⟨xs, h1, h2⟩ := hr.at' _ _ zh
        exact .base (.dT h1)
      · cases e'
def gIs (T : String) (x : RV) (h : FH) : Option RV := match tyR x h with
  | some t => (kitB t T).map fun k => .v (.bl k)
  | none => none
/-- isinstance(e, T), T a built-in class -/
theorem je_isi {x : Str} {T : String} (hm : X.mg "isinstance" = none) (hmT : X.mg x = none) (ha : JE X W E Γ e fa) (hv : bootBuiltins x = some (.type T) := by decide +kernel) (hg : Gl X "isinstance" := by rfl) (hgT : Gl X x := by rfl) (hn : x ≠ "__name__" := by decide) (hd : (x == ("__debug__" : Str)) = false := by decide)
    (h1 : starEach (e :: [.Name x p1]) X.env = (false, eval e X.env) :: starEach [.Name x p1] X.env := by exact star1 rfl) (h2 : starEach (.Name x p1 :: []) X.env = (false, eval (.Name x p1) X.env) :: starEach [] X.env := by exact star1 rfl) (hpl : (backTo pos (starEach [.Name x p1] X.env)).any (·.1) = false := by rfl) :
    JE X W E Γ (.Call (.Name "isinstance" p0) [e, .Name x p1] [] pos) (bnd fa fun x => oU (gIs T) x) := fun μ h σ H Q s p =>
  wE.of (pe_callB (id := "isinstance") call_isi hg hm (by decide +kernel) (pa_cons pe_w (pa_cons (pe_bltn (v := .ty T) hgT hmT hv rfl hn hd) pa_nil h2) h1) (by decide) (by decide) h1 hpl) (ha μ h σ H _ s (Po.mono (Po.bind p) fun x h1 μ1 H1 _ s1 hr1 p1 u ru => by
    obtain ⟨z, hz, p2⟩ := p1.lift
    unfold gIs at hz
    split at hz
    · rename_i t ht
      cases q : kitB t T with
      | none => rw [q] at hz; cases hz
      | some k =>
        rw [q] at hz
        cases hz
        exact ⟨u, .ty T, _, .type T, k, rfl, .ty T, tyR_ok hr1 ru ht, kit_ty q, p2.last hr1 (Same.refl _) _ (.v (.bl k))⟩
    · cases hz))
end
end P
/-! P: calls of one's own defs, statements. -/
namespace P
open PySem PySem.Spec PyProof.Rows L2 G
/-! ### calls of one's own defs -/
abbrev FDef := List FV → M RV
def spP (B : Bs) (f : FDef) : Sp := fun vs H Q E => ∃ μ h ds, HR B μ h H ∧ VRs B H μ h.length ds vs ∧ Po B μ h.length H (fun r h' μ' H' => ∀ u, RR B H μ' h'.length H' r u → Q u H') E (f ds h)
structure HasF (P : Program) (w : World) (K : PySem.W.Frag) (mg : Str → Option Value) (base : Heap) (n : Nat) (x : Str) (ps : List Str) (f : FDef) : Prop where
  ex : ∃ a fd, FnOk P w K mg base (L2.CX P w) n a fd ps (spP ⟨K, mg⟩ f) ∧ mg x = some (.ref a) ∧ PySem.W.keepIn K (.ref a) = true ∧ Binds K fd ps []
abbrev wNo : WX := fun _ _ _ _ => False
/-- what is raised leaves the def -/
def TkE (X : Cx) (W : WX) : Prop := ∃ E : XK, (∀ c d σ H, W c d σ H → E c d H) ∧ Passes (L2.CX X.prog X.w) X E
def Tk (X : Cx) (W : WX) : Prop := Takes X W ∨ W = wNo
section
variable {X : Cx} {W : WX} {E : Ent} {Γ : Sl} {e a b c : Expr} {es : List Expr} {pos p0 : Pos} {fa fb fc : M RV} {k : Nat}
theorem je_call {x : Str} {ps : List Str} {f : FDef} {c : (List FV → M RV) → M RV} {n : Nat} (tk : Tk X W) (h : HasF X.prog X.w X.K X.mg X.base n x ps f) (hr : Room k X.A) (hk : n ≤ k) (ha : JA X W E Γ (e :: es) c)
    (hg : Gl X x := by rfl) (hdb : (x == ("__debug__" : Str)) = false := by decide) (he : starEach (e :: es) X.env = (false, eval e X.env) :: starEach es X.env := by exact star1 rfl) (hpl : (backTo pos (starEach es X.env)).any (·.1) = false := by rfl) :
    JE X W E Γ (.Call (.Name x p0) (e :: es) [] pos) (c f) := fun μ h0 σ H Q s p => by
  obtain ⟨fa, fd, F, hm, hk', hb⟩ := h.ex
  have args := ha f μ h0 σ H _ _ s (fun _ _ _ z => z) p
  rcases tk with tk | rfl
  · exact wE.of (pe_callS (E := WE W) F (hr.mono hk) hg hm hk' hb (fun σ => passAt tk σ) pa_w hdb he hpl) (wA.mono args fun us H1 ⟨vs, μ1, h1, s1, hr1, rus, p1⟩ => ⟨μ1, h1, vs, hr1, rus, p1.since s1.th⟩)
  · refine wE.of (pe_call (E := E0) F (hr.mono hk) hg hm hk' hb .nil passL pa_w hdb he hpl) (wA.mono args fun us H1 ⟨vs, μ1, h1, s1, hr1, rus, p1⟩ => ?_)
    rw [List.append_nil]
    exact ⟨μ1, h1, vs, hr1, rus, p1.since s1.th⟩
end
/-! ### statements -/
/-- how a block ends: it goes on, returns, leaves its loop, goes to the next turn -/
inductive Fl (α β : Type) where
  | nx (a : α) | rt (r : RV) | bk (b : β) | ct (b : β)
/-- what a statement leaves of what was known -/
structure StW (μ : Nat → Addr) (n : Nat) (H : Hp) (μ' : Nat → Addr) (n' : Nat) (H' : Hp) : Prop where
  le : n ≤ n'
  ext : ∀ i, i < n → μ' i = μ i
  gw : Gw H H'
theorem StW.refl (μ : Nat → Addr) (n : Nat) (H : Hp) : StW μ n H μ n H := ⟨Nat.le_refl _, fun _ _ => rfl, Gw.refl H⟩
section
variable {μ μ1 μ2 : Nat → Addr} {n n1 n2 : Nat} {H H1 H2 : Hp}
theorem StW.trans (a : StW μ n H μ1 n1 H1) (b : StW μ1 n1 H1 μ2 n2 H2) : StW μ n H μ2 n2 H2 :=
  ⟨Nat.le_trans a.le b.le, fun i h => (b.ext i (Nat.lt_of_lt_of_le h a.le)).trans (a.ext i h), a.gw.trans b.gw⟩
theorem Step.w (s : Step μ n H μ1 n1 H1) : StW μ n H μ1 n1 H1 := ⟨s.le, s.ext, s.gw⟩
theorem StW.of (g : Gw H H1) : StW μ n H μ n H1 := ⟨Nat.le_refl _, fun _ _ => rfl, g⟩
theorem StW.vr {B : Bs} {d : FV} {v : V} (s : StW μ n H μ1 n1 H1) (h : VR B H μ n d v) : VR B H1 μ1 n1 d v := VR.mono s.gw s.ext s.le d v h
theorem StW.vrs {B : Bs} {d : List FV} {v : List V} (s : StW μ n H μ1 n1 H1) (h : VRs B H μ n d v) : VRs B H1 μ1 n1 d v := VRs.mono s.gw s.ext s.le d v h
end
/-- what is known where an error is caught: nothing of the slots, or some -/
def SX (B : Bs) (E : Ent) (μ : Nat → Addr) (Γx : Option Sl) (h : FH) (σ : St) (H : Hp) : Prop := match Γx with
  | none => Step E.μ E.n E.H μ h.length H ∧ HR B μ h H
  | some Γ => SR B E μ Γ h σ H
def SubX (Γx : Option Sl) (Γ : Sl) : Prop := match Γx with
  | none => True
  | some Γ' => Sub Γ' Γ
theorem SubX.none {Γ : Sl} : SubX none Γ := trivial
theorem SR.x {B : Bs} {E : Ent} {μ : Nat → Addr} {Γ : Sl} {Γx : Option Sl} {h : FH} {σ : St} {H : Hp} (s : SR B E μ Γ h σ H) (w : SubX Γx Γ) : SX B E μ Γx h σ H := by
  cases Γx with
  | none => exact ⟨s.st, s.hr⟩
  | some Γ' => exact s.sub w
variable {α β γ : Type}
def PoN (B : Bs) (E : Ent) (μ : Nat → Addr) (n : Nat) (H : Hp) (D : Ends) (W : WX) (Γx : Option Sl) (eα : α → Sl) (eβ : β → Sl) : Rs (Fl α β) → Prop
  | .ok (.nx a) h' => ∀ μ' σ' H', StW μ n H μ' h'.length H' → SR B E μ' (eα a) h' σ' H' → D.nx σ' H'
  | .ok (.bk b) h' => ∀ μ' σ' H', StW μ n H μ' h'.length H' → SR B E μ' (eβ b) h' σ' H' → D.bk σ' H'
  | .ok (.ct b) h' => ∀ μ' σ' H', StW μ n H μ' h'.length H' → SR B E μ' (eβ b) h' σ' H' → D.ct σ' H'
  | .ok (.rt r) h' => ∀ μ' H' u, StW μ n H μ' h'.length H' → Step E.μ E.n E.H μ' h'.length H' → HR B μ' h' H' → RR B E.H μ' h'.length H' r u → D.rt u H'
  | .ex x h' => ∀ μ' σ' H' c d, StW μ n H μ' h'.length H' → SX B E μ' Γx h' σ' H' → XR B μ' h'.length H' x c d → W c d σ' H'
  | .no => False
/-- f says what the block does from the slots Γ -/
def JB (X : Cx) (W : WX) (E : Ent) (Γx : Option Sl) (eα : α → Sl) (eβ : β → Sl) (Γ : Sl) (sts : List Stmt) (f : M (Fl α β)) : Prop :=
  ∀ μ h σ H D, SR (bs X) E μ Γ h σ H → PoN (bs X) E μ h.length H D W Γx eα eβ (f h) → wSs X sts D σ H
section
variable {B : Bs} {E : Ent} {μ μ1 : Nat → Addr} {n n1 : Nat} {H H1 : Hp} {D : Ends} {W : WX} {Γx : Option Sl} {eα : α → Sl} {eβ : β → Sl} {eγ : γ → Sl} {r : Rs (Fl α β)} {h : FH} {σ : St} {Γ : Sl}
theorem PoN.at' (p : PoN B E μ n H D W Γx eα eβ r) (s : StW μ n H μ1 n1 H1) : PoN B E μ1 n1 H1 D W Γx eα eβ r := by
  cases r with
  | no => exact p
  | ex x h => exact fun μ' σ' H' c d s' => p μ' σ' H' c d (s.trans s')
  | ok f h =>
    cases f with
    | nx a => exact fun μ' σ' H' s' => p μ' σ' H' (s.trans s')
    | bk a => exact fun μ' σ' H' s' => p μ' σ' H' (s.trans s')
    | ct a => exact fun μ' σ' H' s' => p μ' σ' H' (s.trans s')
    | rt a => exact fun μ' H' u s' => p μ' H' u (s.trans s')
/-- an expression in a statement -/
theorem PoN.bnd {δ : Type} {m : M δ} {k : δ → M (Fl α β)} (s : SR B E μ Γ h σ H) (w : SubX Γx Γ) (p : PoN B E μ h.length H D W Γx eα eβ (bnd m k h)) :
    Po B μ h.length H (fun a h' μ' H' => SR B E μ' Γ h' σ H' ∧ PoN B E μ' h'.length H' D W Γx eα eβ (k a h')) (fun c d H' => W c d σ H') (m h) := by
  unfold P.bnd at p
  cases q : m h with
  | no => rw [q] at p; exact p
  | ex x h' =>
    rw [q] at p
    exact fun μ' H' c d s' hr x' => (show ∀ μ' σ' H' c d, _ → _ → _ → W c d σ' H' from p) μ' σ H' c d s'.w ((s.step s' hr).x w) x'
  | ok a h' =>
    rw [q] at p
    exact fun μ' H' s' hr => ⟨s.step s' hr, PoN.at' (show PoN B E μ h.length H D W Γx eα eβ (k a h') from p) s'.w⟩
/-- .. its value: what is new is frozen -/
theorem PoN.val {X : Cx} {e : Expr} {fe : M RV} {k : FV → M (Fl α β)} {Q : VK} (he : JE X W E Γ e fe) (s : SR (bs X) E μ Γ h σ H) (w : SubX Γx Γ) (p : PoN (bs X) E μ h.length H D W Γx eα eβ (P.bnd (mV fe) k h))
    (q : ∀ d h' μ' H' u, StW μ h.length H μ' h'.length H' → SR (bs X) E μ' Γ h' σ H' → VR (bs X) H' μ' h'.length d u → PoN (bs X) E μ' h'.length H' D W Γx eα eβ (k d h') → Q u H') : wE X e σ H Q :=
  he.val s (Po.mono (PoN.bnd s w p) fun d h1 μ1 H1 _ s1 hr1 p1 u vu => q d h1 μ1 H1 u s1.w p1.1 vu p1.2)
end
def seqN (m : M (Fl α β)) (k : α → M (Fl γ β)) : M (Fl γ β) := bnd m fun f => match f with
  | .nx a => k a
  | .rt r => pur (.rt r)
  | .bk b => pur (.bk b)
  | .ct b => pur (.ct b)
/-- a block that does not go on -/
def up (m : M (Fl Empty β)) : M (Fl α β) := bnd m fun f => match f with
  | .nx a => nomatch a
  | .rt r => pur (.rt r)
  | .bk b => pur (.bk b)
  | .ct b => pur (.ct b)
section
variable {B : Bs} {E : Ent} {μ μ1 : Nat → Addr} {n n1 : Nat} {H H1 : Hp} {D : Ends} {W : WX} {Γx : Option Sl} {eα : α → Sl} {eβ : β → Sl} {eγ : γ → Sl} {h : FH} {σ : St} {Γ : Sl}
theorem PoN.seq {m : M (Fl α β)} {k : α → M (Fl γ β)} {N : St → Hp → Prop} (p : PoN B E μ n H D W Γx eγ eβ (seqN m k h))
    (q : ∀ a h' μ' σ' H', StW μ n H μ' h'.length H' → SR B E μ' (eα a) h' σ' H' → PoN B E μ' h'.length H' D W Γx eγ eβ (k a h') → N σ' H') : PoN B E μ n H { D with nx := N } W Γx eα eβ (m h) := by
  unfold seqN P.bnd at p
  cases z : m h with
  | no => rw [z] at p; exact p
  | ex x h' => rw [z] at p; exact p
  | ok f h' =>
    rw [z] at p
    cases f with
    | nx a => exact fun μ' σ' H' s sr => q a h' μ' σ' H' s sr (PoN.at' (show PoN B E μ n H D W Γx eγ eβ (k a h') from p) s)
    | bk b => exact p
    | ct b => exact p
    | rt r => exact p
theorem PoN.up {m : M (Fl Empty β)} {eE : Empty → Sl} {N : St → Hp → Prop} (p : PoN B E μ n H D W Γx eα eβ (up m h)) : PoN B E μ n H { D with nx := N } W Γx eE eβ (m h) := by
  unfold P.up P.bnd at p
  cases z : m h with
  | no => rw [z] at p; exact p
  | ex x h' => rw [z] at p; exact p
  | ok f h' =>
    rw [z] at p
    cases f with
    | nx a => cases a
    | bk b => exact p
    | ct b => exact p
    | rt r => exact p
end
section
variable {X : Cx} {W : WX} {E : Ent} {Γx : Option Sl} {eα : α → Sl} {eβ : β → Sl} {eγ : γ → Sl} {eE : Empty → Sl} {Γ Γ' : Sl} {e a b c o : Expr} {es : List Expr} {pos p0 p1 p2 : Pos} {fe fa fb fc : M RV} {st : Stmt} {rest body orelse sts : List Stmt} {f : M (Fl α β)} {n : Nat}
theorem wcons {D : Ends} {σ : L2.St} {H : Hp} (h : wS X st { D with nx := fun σ' H' => wSs X rest D σ' H' } σ H) : wSs X (st :: rest) D σ H := wSs.of (pss_cons ps_w pss_w) h
theorem wone {D : Ends} {σ : L2.St} {H : Hp} (h : wS X st D σ H) : wSs X [st] D σ H := wSs.of (pss_one ps_w) h
theorem jb_nil {a : α} (w : Sub (eα a) Γ) : JB X W E Γx eα eβ Γ [] (pur (.nx a)) := fun μ h σ H D s p =>
  wSs.of pss_nil ((show ∀ μ' σ' H', _ → _ → D.nx σ' H' from p) μ σ H (StW.refl _ _ _) (s.sub w))
/-- x = e -/
theorem jb_set (i : Nat) {x : Str} {px : Pos} {Γ' : FV → Sl} {k : FV → M (Fl α β)} (w : SubX Γx Γ) (hN : X.N.Nodup) (he : JE X W E Γ e fe) (hk : ∀ d, JB X W E Γx eα eβ (Γ' d) rest (k d)) (hΓ : ∀ d, Γ.set i (some (.v d)) = Γ' d := by intro _; rfl) (hi : X.N[i]? = some x := by rfl) (hx : Loc X.env.scope x := by first | exact Or.inl rfl | exact Or.inr rfl)
    (hs : swapsWith e (some (.Name x px)) pos.line X.env = pure false := by rfl) (hf : X.fn x = true ∨ X.env.scope.names.lookup x = some .local := by first | exact .inl rfl | exact .inr rfl | assumption) :
    JB X W E Γx eα eβ Γ (.Assign [.Name x px] e pos :: rest) (bnd (mV fe) k) := fun μ h σ H D s p =>
  wcons (wS.of (ps_set hN hi hx pe_w hs hf) (PoN.val he s w p fun d h1 μ1 H1 u _ s1 vu p1 => by
    have s2 := s1.putV (i := i) vu
    rw [hΓ d] at s2
    exact hk d μ1 h1 _ H1 D s2 p1))
/-- a new list as the slot's own -/
def mL (m : M RV) : M (List FV) := bnd m fun r => match r with | .l ds => pur ds | _ => fail
def mD (m : M RV) : M (List (Key × FV)) := bnd m fun r => match r with | .d ds => pur ds | _ => fail
theorem jb_setO {δ : Type} (i : Nat) (mk : δ → RV) (ob : ∀ d, (mk d).own = true) {m : M δ} {x : Str} {px : Pos} {Γ' : δ → Sl} {k : δ → M (Fl α β)} (w : SubX Γx Γ) (hN : X.N.Nodup) (he : JE X W E Γ e fe)
    (hm : ∀ h, ∀ (R : RV → FH → (Nat → Addr) → Hp → Prop) (μ : Nat → Addr) (n : Nat) (H : Hp) (E' : XK), Po (bs X) μ n H (fun d h' μ' H' => R (mk d) h' μ' H') E' (m h) → Po (bs X) μ n H R E' (fe h))
    (hk : ∀ d, JB X W E Γx eα eβ (Γ' d) rest (k d)) (hΓ : ∀ d, Γ.set i (some (mk d)) = Γ' d) (hi : X.N[i]? = some x) (hx : Loc X.env.scope x)
    (hs : swapsWith e (some (.Name x px)) pos.line X.env = pure false) (hf : X.fn x = true ∨ X.env.scope.names.lookup x = some .local) :
    JB X W E Γx eα eβ Γ (.Assign [.Name x px] e pos :: rest) (bnd m k) := fun μ h σ H D s p =>
  wcons (wS.of (ps_set hN hi hx pe_w hs hf) (he μ h σ H _ s (hm h _ _ _ _ _ (Po.mono (PoN.bnd s w p) fun d h1 μ1 H1 _ s1 hr1 p1 u ru => by
    obtain ⟨s2, p2⟩ := p1
    have s3 := s2.put (i := i) (ru.since s.st.th) fun _ j r' q e1 o1 e2 => s.fresh ru (ob d) j r' q e1 o1 e2
    rw [hΓ d] at s3
    exact hk d μ1 h1 _ H1 D s3 p2))))
theorem mL_ok {B : Bs} {fe : M RV} (h : FH) (R : RV → FH → (Nat → Addr) → Hp → Prop) (μ : Nat → Addr) (n : Nat) (H : Hp) (E' : XK) (p : Po B μ n H (fun d h' μ' H' => R (.l d) h' μ' H') E' (mL fe h)) : Po B μ n H R E' (fe h) := by
  unfold mL bnd at p
  cases q : fe h with
  | no => rw [q] at p; exact p
  | ex x h' => rw [q] at p; exact p
  | ok r h' =>
    rw [q] at p
    cases r with
    | l ds => exact p
    | _ => exact False.elim p
theorem mD_ok {B : Bs} {fe : M RV} (h : FH) (R : RV → FH → (Nat → Addr) → Hp → Prop) (μ : Nat → Addr) (n : Nat) (H : Hp) (E' : XK) (p : Po B μ n H (fun d h' μ' H' => R (.d d) h' μ' H') E' (mD fe h)) : Po B μ n H R E' (fe h) := by
  unfold mD bnd at p
  cases q : fe h with
  | no => rw [q] at p; exact p
  | ex x h' => rw [q] at p; exact p
  | ok r h' =>
    rw [q] at p
    cases r with
    | d ds => exact p
    | _ => exact False.elim p
theorem jb_setL (i : Nat) {x : Str} {px : Pos} {Γ' : List FV → Sl} {k : List FV → M (Fl α β)} (w : SubX Γx Γ) (hN : X.N.Nodup) (he : JE X W E Γ e fe) (hk : ∀ d, JB X W E Γx eα eβ (Γ' d) rest (k d)) (hΓ : ∀ d, Γ.set i (some (.l d)) = Γ' d := by intro _; rfl) (hi : X.N[i]? = some x := by rfl) (hx : Loc X.env.scope x := by first | exact Or.inl rfl | exact Or.inr rfl)
    (hs : swapsWith e (some (.Name x px)) pos.line X.env = pure false := by rfl) (hf : X.fn x = true ∨ X.env.scope.names.lookup x = some .local := by first | exact .inl rfl | exact .inr rfl | assumption) :
    JB X W E Γx eα eβ Γ (.Assign [.Name x px] e pos :: rest) (bnd (mL fe) k) := jb_setO i RV.l (fun _ => rfl) w hN he (fun h R μ n H E' p => mL_ok h R μ n H E' p) hk hΓ hi hx hs hf
theorem jb_setD (i : Nat) {x : Str} {px : Pos} {Γ' : List (Key × FV) → Sl} {k : List (Key × FV) → M (Fl α β)} (w : SubX Γx Γ) (hN : X.N.Nodup) (he : JE X W E Γ e fe) (hk : ∀ d, JB X W E Γx eα eβ (Γ' d) rest (k d)) (hΓ : ∀ d, Γ.set i (some (.d d)) = Γ' d := by intro _; rfl) (hi : X.N[i]? = some x := by rfl) (hx : Loc X.env.scope x := by first | exact Or.inl rfl | exact Or.inr rfl)
    (hs : swapsWith e (some (.Name x px)) pos.line X.env = pure false := by rfl) (hf : X.fn x = true ∨ X.env.scope.names.lookup x = some .local := by first | exact .inl rfl | exact .inr rfl | assumption) :
    JB X W E Γx eα eβ Γ (.Assign [.Name x px] e pos :: rest) (bnd (mD fe) k) := jb_setO i RV.d (fun _ => rfl) w hN he (fun h R μ n H E' p => mD_ok h R μ n H E' p) hk hΓ hi hx hs hf
/-- x = e, a new object gets a number -/
theorem jb_setT (i : Nat) {x : Str} {px : Pos} {Γ' : FV → Sl} {k : FV → M (Fl α β)} (w : SubX Γx Γ) (hN : X.N.Nodup) (he : JE X W E Γ e fe) (hk : ∀ d, JB X W E Γx eα eβ (Γ' d) rest (k d)) (hΓ : ∀ d, Γ.set i (some (.v d)) = Γ' d := by intro _; rfl) (hi : X.N[i]? = some x := by rfl) (hx : Loc X.env.scope x := by first | exact Or.inl rfl | exact Or.inr rfl)
    (hs : swapsWith e (some (.Name x px)) pos.line X.env = pure false := by rfl) (hf : X.fn x = true ∨ X.env.scope.names.lookup x = some .local := by first | exact .inl rfl | exact .inr rfl | assumption) :
    JB X W E Γx eα eβ Γ (.Assign [.Name x px] e pos :: rest) (bnd (mT fe) k) := fun μ h σ H D s p =>
  wcons (wS.of (ps_set hN hi hx pe_w hs hf) (he μ h σ H _ s (Po.mono (Po.vT (PoN.bnd s w p)) fun r h1 μ1 H1 _ s1 hr1 p1 u ru => by
    obtain ⟨d, h2, μ2, s2, hr2, v2, s3, p2⟩ := p1 u ru
    have s4 := s3.putV (i := i) v2
    rw [hΓ d] at s4
    exact hk d μ2 h2 _ H1 D s4 p2)))
theorem jb_expr {k : M (Fl α β)} (w : SubX Γx Γ) (he : JE X W E Γ e fe) (hk : JB X W E Γx eα eβ Γ rest k) (hs : swapsWith e none pos.line X.env = pure false := by rfl) : JB X W E Γx eα eβ Γ (.Expr e pos :: rest) (bnd fe fun _ => k) := fun μ h σ H D s p =>
  wcons (wS.of (ps_expr pe_w hs) (he μ h σ H _ s (Po.mono (PoN.bnd s w p) fun r h1 μ1 H1 _ s1 hr1 p1 u ru => hk μ1 h1 σ H1 D p1.1 p1.2)))
/-- return e -/
def ret (m : M RV) : M (Fl α β) := bnd m fun r => pur (.rt r)
theorem jb_ret (w : SubX Γx Γ) (he : JE X W E Γ e fe) : JB X W E Γx eα eβ Γ [.Return (some e) pos] (ret fe) := fun μ h σ H D s p =>
  wone (wS.of (ps_ret pe_w) (he μ h σ H _ s (Po.mono (PoN.bnd s w p) fun r h1 μ1 H1 _ s1 hr1 p1 u ru =>
    (show ∀ μ' H' u, _ → _ → _ → _ → D.rt u H' from p1.2) μ1 H1 u (StW.refl _ _ _) p1.1.st hr1 (ru.since s.st.th))))
/-- return x: what the slot holds goes out -/
theorem jb_retS (i : Nat) {r : RV} (q : sg Γ i = some r := by rfl) {x : Str} (hN : X.N[i]? = some x := by rfl) (hv : Vis X.env.scope x := by first | exact Or.inl rfl | exact Or.inr (Or.inl rfl) | exact Or.inr (Or.inr rfl)) (hd : (x == ("__debug__" : Str)) = false := by decide)
    (hcd : (x == ("__classdict__" : Str)) = false := by decide) : JB X W E Γx eα eβ Γ [.Return (some (.Name x p0)) pos] (pur (.rt r)) := fun μ h σ H D s p => by
  obtain ⟨u, h1, h2⟩ := s.sl i r (sg_get q)
  exact wone (wS.of (ps_ret (pe_var hN hv hd hcd)) ⟨u, h1, (show ∀ μ' H' u, _ → _ → _ → _ → D.rt u H' from p) μ H u (StW.refl _ _ _) s.st s.hr h2⟩)
/-- if, where both branches go on -/
theorem jb_if {t : M Bool} {A B : M (Fl α β)} {k : α → M (Fl γ β)} (w : SubX Γx Γ) (hc : JT X W E Γ c t) (hA : JB X W E Γx eα eβ Γ body A) (hB : JB X W E Γx eα eβ Γ orelse B) (hk : ∀ a, JB X W E Γx eγ eβ (eα a) rest (k a)) :
    JB X W E Γx eγ eβ Γ (.If c body orelse pos :: rest) (bnd t fun b => seqN (if b = true then A else B) k) := fun μ h σ H D s p =>
  wcons (wS.of (ps_if pt_w pss_w pss_w) (hc μ h σ H _ s (Po.mono (PoN.bnd s w p) fun b h1 μ1 H1 _ s1 hr1 p1 => by
    obtain ⟨s2, p2⟩ := p1
    have p3 := PoN.seq (N := fun σ' H' => wSs X rest D σ' H') p2 fun a h' μ' σ' H' _ sr q => hk a μ' h' σ' H' D sr q
    cases b with
    | true => rw [if_pos rfl] at p3; rw [if_pos rfl]; exact hA μ1 h1 σ H1 _ s2 p3
    | false => rw [if_neg (by decide)] at p3; rw [if_neg (by decide)]; exact hB μ1 h1 σ H1 _ s2 p3)))
/-- if, the last statement of its block -/
theorem jb_ifE {t : M Bool} {A B : M (Fl α β)} (w : SubX Γx Γ) (hc : JT X W E Γ c t) (hA : JB X W E Γx eα eβ Γ body A) (hB : JB X W E Γx eα eβ Γ orelse B) :
    JB X W E Γx eα eβ Γ [.If c body orelse pos] (bnd t fun b => if b = true then A else B) := fun μ h σ H D s p =>
  wone (wS.of (ps_if pt_w pss_w pss_w) (hc μ h σ H _ s (Po.mono (PoN.bnd s w p) fun b h1 μ1 H1 _ s1 hr1 p1 => by
    obtain ⟨s2, p2⟩ := p1
    cases b with
    | true => rw [if_pos rfl] at p2 ⊢; exact hA μ1 h1 σ H1 _ s2 p2
    | false => rw [if_neg (by decide)] at p2 ⊢; exact hB μ1 h1 σ H1 _ s2 p2)))
/-- if, whose first branch does not go on -/
theorem jb_ifL {t : M Bool} {A : M (Fl Empty β)} {k : M (Fl α β)} (w : SubX Γx Γ) (hc : JT X W E Γ c t) (hA : JB X W E Γx eE eβ Γ body A) (hk : JB X W E Γx eα eβ Γ rest k) :
    JB X W E Γx eα eβ Γ (.If c body [] pos :: rest) (bnd t fun b => if b = true then up A else k) := fun μ h σ H D s p =>
  wcons (wS.of (ps_if pt_w pss_w pss_w) (hc μ h σ H _ s (Po.mono (PoN.bnd s w p) fun b h1 μ1 H1 _ s1 hr1 p1 => by
    obtain ⟨s2, p2⟩ := p1
    cases b with
    | true => rw [if_pos rfl] at p2 ⊢; exact hA μ1 h1 σ H1 _ s2 p2.up
    | false => rw [if_neg (by decide)] at p2 ⊢; exact wSs.of pss_nil (hk μ1 h1 σ H1 D s2 p2))))
/-- if c: return e -/
theorem jb_ifR {t : M Bool} {k : M (Fl α β)} (w : SubX Γx Γ) (hc : JT X W E Γ c t) (he : JE X W E Γ e fe) (hk : JB X W E Γx eα eβ Γ rest k) :
    JB X W E Γx eα eβ Γ (.If c [.Return (some e) p1] [] pos :: rest) (bnd t fun b => if b = true then ret fe else k) := fun μ h σ H D s p =>
  wcons (wS.of (ps_if pt_w pss_w pss_w) (hc μ h σ H _ s (Po.mono (PoN.bnd s w p) fun b h1 μ1 H1 _ s1 hr1 p1 => by
    obtain ⟨s2, p2⟩ := p1
    cases b with
    | true =>
      rw [if_pos rfl] at p2 ⊢
      exact wone (wS.of (ps_ret pe_w) (he μ1 h1 σ H1 _ s2 (Po.mono (PoN.bnd s2 w p2) fun r h2 μ2 H2 _ s3 hr3 p3 u ru =>
        (show ∀ μ' H' u, _ → _ → _ → _ → D.rt u H' from p3.2) μ2 H2 u (StW.refl _ _ _) p3.1.st hr3 (ru.since s2.st.th))))
    | false => rw [if_neg (by decide)] at p2 ⊢; exact wSs.of pss_nil (hk μ1 h1 σ H1 D s2 p2))))
end
end P
/-! P: targets, what is walked, loops. -/
namespace P
open PySem PySem.Spec PyProof.Rows L2 G
/-! ### targets -/
/-- only the slots os change -/
def Ch (os : List Nat) (σ σ' : St) : Prop := σ'.length = σ.length ∧ ∀ j, j ∉ os → σ'[j]? = σ[j]?
theorem Ch.trans {os os' : List Nat} {σ σ1 σ2 : St} (a : Ch os σ σ1) (b : Ch os' σ1 σ2) : Ch (os ++ os') σ σ2 :=
  ⟨b.1.trans a.1, fun j hj => (b.2 j fun z => hj (List.mem_append_right _ z)).trans (a.2 j fun z => hj (List.mem_append_left _ z))⟩
/-- a target's reading: the parts of the value, and the slots behind -/
def JGw (B : Bs) (g : TG) (os : List Nat) {δ : Type} (b : FV → Option δ) (put : Sl → δ → Sl) : Prop :=
  ∀ E μ Γ h σ H v d x (Q : St → Hp → Prop), SR B E μ Γ h σ H → VR B H μ h.length d v → b d = some x → (∀ σ', SR B E μ (put Γ x) h σ' H → Ch os σ σ' → Q σ' H) → g v σ H Q
def JGws (B : Bs) (g : List V → St → Hp → (St → Hp → Prop) → Prop) (os : List Nat) (n : Nat) {δ : Type} (b : List FV → Option δ) (put : Sl → δ → Sl) : Prop :=
  (∀ ds x, b ds = some x → ds.length = n) ∧ ∀ E μ Γ h σ H vs ds x (Q : St → Hp → Prop), SR B E μ Γ h σ H → VRs B H μ h.length ds vs → b ds = some x → (∀ σ', SR B E μ (put Γ x) h σ' H → Ch os σ σ' → Q σ' H) → g vs σ H Q
section
variable {B : Bs} {δ δ' : Type} {os os' : List Nat} {n : Nat}
def putN (i : Nat) (Γ : Sl) (d : FV) : Sl := Γ.set i (some (.v d))
theorem jgw_name (i : Nat) : JGw B (gName i) [i] (some : FV → Option FV) (putN i) := fun E μ Γ h σ H v d x Q s r e q => by
  cases e
  exact q _ (s.putV r) ⟨by rw [List.length_set], fun j hj => by rw [List.getElem?_set_ne (fun z => hj (by rw [z]; exact List.mem_cons_self))]⟩
def bNil (ds : List FV) : Option Unit := match ds with | [] => some () | _ => none
def bCons (f : FV → Option δ) (g : List FV → Option δ') (ds : List FV) : Option (δ × δ') := match ds with
  | d :: ds => match f d with
    | some x => match g ds with
      | some y => some (x, y)
      | none => none
    | none => none
  | [] => none
def bTup (g : List FV → Option δ) (d : FV) : Option δ := match d with | .tup ds => g ds | .fl ds => g ds | .sl ds => g ds | _ => none
/-- a tuple's parts, a list's items -/
def gTL (K : PySem.W.Frag) (n : Nat) (t : List V → St → Hp → (St → Hp → Prop) → Prop) : TG := fun v σ H Q => L2.gTup K n t v σ H Q ∨ L2.gUnl K n t v σ H Q
theorem pg_tl {X : Cx} {es : List Expr} {k n : Nat} {t : List V → St → Hp → (St → Hp → Prop) → Prop} {pos : Pos} (hc : X.calm = true) (h : PGs X es t) (hn : (assignEach es X.env).length = n) (hst : (assignEach es X.env).findIdx? (·.1) = none) : PG X (.Tuple es k pos) (gTL X.K n t) := ⟨fun pins s σ H v u Q I r w => by
  rcases w with w | w
  · exact (pg_tup hc h hn hst).run pins s σ H v u Q I r w
  · exact (pg_unl hc h hn hst).run pins s σ H v u Q I r w⟩
def putCons (f : Sl → δ → Sl) (g : Sl → δ' → Sl) (Γ : Sl) (x : δ × δ') : Sl := g (f Γ x.1) x.2
theorem jgws_nil : JGws B gNil [] 0 bNil (fun Γ _ => Γ) := by
  refine ⟨fun ds x e => ?_, fun E μ Γ h σ H vs ds x Q s r e q => ?_⟩
  · cases ds with
    | nil => rfl
    | cons d ds => cases e
  · cases r with
    | nil => exact ⟨rfl, q _ s ⟨rfl, fun _ _ => rfl⟩⟩
    | cons a b => cases e
theorem bCons_inv {f : FV → Option δ} {g : List FV → Option δ'} {ds : List FV} {z : δ × δ'} (e : bCons f g ds = some z) : ∃ d es, ds = d :: es ∧ f d = some z.1 ∧ g es = some z.2 := by
  unfold bCons at e
  split at e
  · rename_i d es
    split at e
    · rename_i x hx
      split at e
      · rename_i y hy
        cases e
        exact ⟨d, es, rfl, hx, hy⟩
      · cases e
    · cases e
  · cases e
theorem jgws_cons {t1 : TG} {t2 : List V → St → Hp → (St → Hp → Prop) → Prop} {f : FV → Option δ} {g : List FV → Option δ'} {p1 : Sl → δ → Sl} {p2 : Sl → δ' → Sl} (h1 : JGw B t1 os f p1) (h2 : JGws B t2 os' n g p2) : JGws B (gCons t1 t2) (os ++ os') (n + 1) (bCons f g) (putCons p1 p2) := by
  refine ⟨fun ds x e => ?_, fun E μ Γ h σ H vs ds x Q s r e q => ?_⟩
  · obtain ⟨d, es, rfl, _, e2⟩ := bCons_inv e
    exact congrArg (· + 1) (h2.1 es _ e2)
  · obtain ⟨d, es, rfl, e1, e2⟩ := bCons_inv e
    cases r with
    | cons a b => exact ⟨_, _, rfl, h1 E μ Γ h σ H _ d x.1 _ s a e1 fun σ1 s1 c1 => h2.2 E μ _ h σ1 H _ es x.2 Q s1 b e2 fun σ2 s2 c2 => q σ2 s2 (c1.trans c2)⟩
theorem jgw_tup {t : List V → St → Hp → (St → Hp → Prop) → Prop} {g : List FV → Option δ} {p : Sl → δ → Sl} (h : JGws B t os n g p) : JGw B (gTL B.K n t) os (bTup g) p := fun E μ Γ h0 σ H v d x Q s r e q => by
  unfold bTup at e
  split at e
  · cases r with
    | tup r1 r2 => exact .inl ⟨_, _, rfl, r1, by rw [r2.len]; exact h.1 _ _ e, h.2 E μ Γ h0 σ H _ _ x Q s r2 e q⟩
  · cases r with
    | fl r1 r2 => exact .inr ⟨_, _, rfl, .inl r1.rd, by rw [r2.len]; exact h.1 _ _ e, h.2 E μ Γ h0 σ H _ _ x Q s r2 e q⟩
  · cases r with
    | sl r1 r2 => exact .inr ⟨_, _, rfl, r1.sqL, by rw [r2.len]; exact h.1 _ _ e, h.2 E μ Γ h0 σ H _ _ x Q s r2 e q⟩
  · cases e
end
def bindT {δ : Type} {γ : Type} (b : FV → Option δ) (d : FV) (k : δ → M γ) : M γ := match b d with | some x => k x | none => fail
/-! ### what is walked -/
def FWalk (B : Bs) (μ1 : Nat → Addr) (n1 : Nat) (H1 : Hp) (J : It) (ds : List FV) : Prop :=
  Walk J ds.length (fun H' => ∃ μ' n', StW μ1 n1 H1 μ' n' H')
    (fun i H x H' => Same H H' ∧ ∀ μ' n', StW μ1 n1 H1 μ' n' H → ∃ d, ds[i]? = some d ∧ VR B H' μ' n' d x)
theorem PI.or {X : Cx} {tg iter : Expr} {w1 w2 : TI} (h1 : PI X tg iter w1) (h2 : PI X tg iter w2) : PI X tg iter (fun σ H R => w1 σ H R ∨ w2 σ H R) := ⟨fun pins s σ H R I h => by
  rcases h with h | h
  · exact h1.run pins s σ H R I h
  · exact h2.run pins s σ H R I h⟩
/-- f gives the items that are walked -/
def JIw (X : Cx) (W : WX) (E : Ent) (Γ : Sl) (wi : TI) (f : M (List FV)) : Prop := ∀ μ h σ H R, SR (bs X) E μ Γ h σ H →
  Po (bs X) μ h.length H (fun ds h1 μ1 H1 => ∀ J, FWalk (bs X) μ1 h1.length H1 J ds → R J H1) (fun c d H' => W c d σ H') (f h) → wi σ H R
def JI (X : Cx) (W : WX) (E : Ent) (Γ : Sl) (tg iter : Expr) (f : M (List FV)) : Prop := ∃ wi, PI X tg iter wi ∧ JIw X W E Γ wi f
theorem JI.to {X : Cx} {W : WX} {E : Ent} {Γ : Sl} {tg e : Expr} {f g : M (List FV)} (p : JI X W E Γ tg e f) (q : ∀ h, f h = g h) : JI X W E Γ tg e g := by
  have : f = g := funext q
  exact this ▸ p
section
variable {B : Bs} {μ1 : Nat → Addr} {n1 : Nat} {H0 H1 : Hp} {a b : Addr} {xs ys : List V} {ds es : List FV} {x : RV} {u : V}
theorem fw_tup (hq : SqT B.K H1 a xs) (r : VRs B H1 μ1 n1 ds xs) : FWalk B μ1 n1 H1 (Itt B.K a) ds := by
  have w := walk_tup (K := B.K) (a := a) (xs := xs)
  rw [r.len] at w
  refine w.mono (fun H' ⟨μ', n', s⟩ => s.gw.sqt hq) fun i H x H' hi g y => ?_
  obtain ⟨rfl, y⟩ := y
  obtain ⟨d, hd, md⟩ := r.get' y
  exact ⟨Same.refl _, fun μ' n' s => ⟨d, hd, s.vr md⟩⟩
/-- a list that stays -/
def LstAt (B : Bs) (H1 : Hp) (a : Addr) (xs : List V) : Prop := ∀ H', Gw H1 H' → SqL B.K H' a xs
theorem fw_lst (hq : LstAt B H1 a xs) (r : VRs B H1 μ1 n1 ds xs) : FWalk B μ1 n1 H1 (Itl B.K a) ds where
  goes i H hi g := by
    obtain ⟨μ', n', s⟩ := g
    have hi' : i < xs.length := by rw [r.len]; exact hi
    exact ⟨xs, xs[i], hq H s.gw, List.getElem?_eq_getElem hi'⟩
  stops H g := by
    obtain ⟨μ', n', s⟩ := g
    exact ⟨xs, hq H s.gw, by rw [r.len]; exact Nat.le_refl _⟩
  yields i H x H' hi g y := by
    obtain ⟨rfl, y⟩ := y
    refine ⟨Same.refl _, fun μ' n' s => ?_⟩
    exact (s.vrs r).get' (y xs (hq H' s.gw))
end
theorem key_vr {B : Bs} {H : Hp} {μ : Nat → Addr} {n : Nat} (k : Key) : VR B H μ n (keyF k) (kV k) := by
  cases k with
  | inl i => exact .int i
  | inr x => exact .str x
def chars (x : Str) : List FV := x.cps.toList.map fun c => .str ⟨#[c]⟩
theorem fw_str {B : Bs} {μ1 : Nat → Addr} {n1 : Nat} {H1 : Hp} {x : Str} : FWalk B μ1 n1 H1 (Its x) (chars x) := by
  have w := walk_str (z := x)
  have e : (chars x).length = x.cps.size := by simp [chars]
  unfold FWalk
  rw [e]
  refine w.mono (fun _ _ => trivial) fun i H v H' hi g y => ?_
  obtain ⟨rfl, c, y1, y2⟩ := y
  subst y2
  refine ⟨Same.refl _, fun μ' n' s => ⟨_, ?_, .str _⟩⟩
  unfold chars
  rw [List.getElem?_map, Array.getElem?_toList, y1]
  rfl
theorem KvR.get' {κ : Type} {B : Bs} {H : Hp} {μ : Nat → Addr} {n : Nat} : ∀ {ds : List (κ × FV)} {vs : List (κ × V)} {i : Nat} {k : κ} {v : V}, KvR B H μ n ds vs → vs[i]? = some (k, v) → ∃ x, ds[i]? = some (k, x) ∧ VR B H μ n x v
  | _, _, i, k, v, .nil, e => by simp at e
  | d :: ds, w :: vs, 0, k, v, .cons a b, e => by
    have e' : w = (k, v) := Option.some.inj e
    subst e'
    have h1 : d.1 = k := a.1
    exact ⟨d.2, by rw [← h1]; rfl, a.2⟩
  | _ :: ds, _ :: vs, i + 1, k, v, .cons a b, e => KvR.get' (i := i) b (by simpa using e)
def keysF {κ : Type} (f : κ → FV) (kvs : List (κ × FV)) : List FV := kvs.map fun kv => f kv.1
section
variable {B : Bs} {μ1 : Nat → Addr} {n1 : Nat} {H1 : Hp} {d : Addr} {od : Obj} {ws : List (Key × V)} {kvs : List (Key × FV)}
theorem fw_keys (e : H1 d = some (.frz od (.dK ws))) (r : KvR B H1 μ1 n1 kvs ws) : FWalk B μ1 n1 H1 (Itk d od ws) (keysF keyF kvs) := by
  have w := walk_keys (d := d) (o := od) (kvs := ws)
  have l : (keysF keyF kvs).length = ws.length := by rw [r.len]; simp [keysF]
  unfold FWalk
  rw [l]
  refine w.mono (fun H' ⟨μ', n', s⟩ => s.gw.2 _ _ _ e) fun i H x H' hi g y => ?_
  obtain ⟨rfl, k, v, y1, y2⟩ := y
  subst y2
  obtain ⟨x, a1, a2⟩ := r.get' y1
  exact ⟨Same.refl _, fun μ' n' s => ⟨keyF k, by unfold keysF; rw [List.getElem?_map, a1]; rfl, key_vr k⟩⟩
theorem pair_vr {μ' : Nat → Addr} {n : Nat} {H : Hp} {T : Addr} {d1 d2 : FV} {x1 x2 : V} (hT : H T = none) (v1 : VR B H μ' n d1 x1) (v2 : VR B H μ' n d2 x2) : VR B (upd H T (.tup [x1, x2])) μ' n (.tup [d1, d2]) (.ref T) := by
  have g := Same.gw (same_new (o := HO.tup [x1, x2]) hT)
  exact .tup (.inl (.inl upd_same)) (.cons (VR.mono g (fun _ _ => rfl) (Nat.le_refl _) _ _ v1) (.cons (VR.mono g (fun _ _ => rfl) (Nat.le_refl _) _ _ v2) .nil))
end
/-- the items of what is walked -/
def oW (d : FV) : M (List FV) := match d with
  | .tup ds => pur ds
  | .fl ds => pur ds
  | .sl ds => pur ds
  | .str x => pur (chars x)
  | .fd ks vs => pur (keysF keyF (ks.zip vs))
  | _ => fail
section
variable {X : Cx} {W : WX} {E : Ent} {Γ : Sl} {tg iter e f a b o : Expr} {pos apos p0 p1 : Pos} {fe ff fa fb : M RV}
theorem fz_at {B : Bs} {H : Hp} {a : Addr} {xs : List V} (z : Fz H a (.lst xs)) : LstAt B H a xs := fun H' g => .inl (z.gw g).rd
theorem fzl_at {B : Bs} {H : Hp} {a : Addr} {xs : List V} (z : FzL B.K H a xs) : LstAt B H a xs := fun H' g => (z.gw g).sqL
theorem ji_seq (he : JE X W E Γ iter fe) : JI X W E Γ tg iter (bnd (mV fe) oW) := by
  refine ⟨_, PI.or (pi_tup pe_w) (PI.or (pi_list pe_w) (PI.or (pi_str pe_w) (pi_keys pe_w))), fun μ h σ H R s p => ?_⟩
  cases q : mV fe h with
  | no => unfold bnd at p; rw [q] at p; exact p.elim
  | ex x h1 => unfold bnd at p; rw [q] at p; exact .inl (he.val s (by rw [q]; exact p))
  | ok d h1 =>
    unfold bnd at p
    rw [q] at p
    have go : ∀ {Q : VK}, (∀ μ1 H1 u, Step μ h.length H μ1 h1.length H1 → HR (bs X) μ1 h1 H1 → VR (bs X) H1 μ1 h1.length d u → Q u H1) → wE X iter σ H Q := fun {Q} g => he.val s (by rw [q]; exact fun μ1 H1 s1 hr1 u vu => g μ1 H1 u s1 hr1 vu)
    cases d with
    | tup ds =>
      refine .inl (go fun μ1 H1 u s1 hr1 vu => ?_)
      cases vu with
      | tup a b => exact ⟨_, rfl, ⟨_, a⟩, p μ1 H1 s1 hr1 _ (fw_tup a b)⟩
    | fl ds =>
      refine .inr (.inl (go fun μ1 H1 u s1 hr1 vu => ?_))
      cases vu with
      | fl a b => exact ⟨_, rfl, ⟨_, .inl a.rd⟩, p μ1 H1 s1 hr1 _ (fw_lst (fz_at a) b)⟩
    | sl ds =>
      refine .inr (.inl (go fun μ1 H1 u s1 hr1 vu => ?_))
      cases vu with
      | sl a b => exact ⟨_, rfl, ⟨_, a.sqL⟩, p μ1 H1 s1 hr1 _ (fw_lst (fzl_at a) b)⟩
    | str x =>
      refine .inr (.inr (.inl (go fun μ1 H1 u s1 hr1 vu => ?_)))
      cases vu with
      | str => exact ⟨_, rfl, p μ1 H1 s1 hr1 _ fw_str⟩
    | fd ks ds =>
      refine .inr (.inr (.inr (go fun μ1 H1 u s1 hr1 vu => ?_)))
      cases vu with
      | fd a b =>
        obtain ⟨od, a⟩ := a
        exact ⟨_, od, rfl, .inl ⟨_, a, p μ1 H1 s1 hr1 _ (fw_keys a (KvR.zip b))⟩⟩
    | _ => exact p.elim
/-! range(..) -/
def rngL (lo : Int) : Nat → List FV
  | 0 => []
  | n + 1 => .int lo :: rngL (lo + 1) n
theorem rngL_len : ∀ (n : Nat) (lo : Int), (rngL lo n).length = n
  | 0, _ => rfl
  | n + 1, lo => congrArg (· + 1) (rngL_len n (lo + 1))
theorem rngL_at : ∀ (n : Nat) (lo : Int) (i : Nat), i < n → (rngL lo n)[i]? = some (.int (lo + i))
  | 0, _, _, h => absurd h (Nat.not_lt_zero _)
  | n + 1, lo, 0, _ => by show some (FV.int lo) = _; simp
  | n + 1, lo, i + 1, h => by
    show (rngL (lo + 1) n)[i]? = _
    rw [rngL_at n (lo + 1) i (Nat.lt_of_succ_lt_succ h)]
    congr 2
    omega
theorem fw_rng {B : Bs} {μ1 : Nat → Addr} {n1 : Nat} {H1 : Hp} {lo : Int} {n : Nat} : FWalk B μ1 n1 H1 (Itr lo n) (rngL lo n) := by
  have w := walk_range (lo := lo) (n := n)
  unfold FWalk
  rw [rngL_len]
  refine w.mono (fun _ _ => trivial) fun i H x H' hi g y => ?_
  obtain ⟨rfl, y⟩ := y
  exact ⟨Same.refl _, fun μ' n' s => ⟨_, rngL_at n lo i hi, by rw [y]; exact .int _⟩⟩
def oR1 (x : RV) : M (List FV) := match x with
  | .v (.int n) => if -(2 ^ 62) ≤ n ∧ n < 2 ^ 62 then pur (rngL 0 n.toNat) else fail
  | _ => fail
theorem ji_range1 (hm : X.mg "range" = none) (ha : JE X W E Γ a fa) (hg : Gl X "range" := by rfl) (hs1 : starEach [a] X.env = [(false, eval a X.env)] := by rfl) : JI X W E Γ tg (.Call (.Name "range" p1) [a] [] p0) (bnd fa oR1) := by
  refine ⟨_, pi_range1 hg hm (pa_cons pe_w pa_nil hs1) hs1, fun μ h σ H R s p => ?_⟩
  refine ha μ h σ H _ s (Po.mono (Po.bind p) fun x h1 μ1 H1 eq1 s1 hr1 p1 u ru => ?_)
  unfold oR1 at p1
  split at p1
  · rename_i n
    split at p1
    · rename_i hn
      exact ⟨n, by rw [rr_int ru], hn.1, hn.2, Po.last p1 hr1 (Same.refl _) _ fw_rng⟩
    · exact p1.elim
  · exact p1.elim
def oR2 (x y : RV) : M (List FV) := match x, y with
  | .v (.int lo), .v (.int n) => if -(2 ^ 62) ≤ lo ∧ lo < 2 ^ 62 ∧ -(2 ^ 62) ≤ n ∧ n < 2 ^ 62 then pur (rngL lo (n - lo).toNat) else fail
  | _, _ => fail
theorem ji_range2 (hm : X.mg "range" = none) (ha : JE X W E Γ a fa) (hb : JE X W E Γ b fb) (hg : Gl X "range" := by rfl) (hs1 : starEach [a, b] X.env = [(false, eval a X.env), (false, eval b X.env)] := by rfl) (hs2 : starEach [b] X.env = [(false, eval b X.env)] := by rfl) : JI X W E Γ tg (.Call (.Name "range" p1) [a, b] [] p0) (bnd fa fun x => bnd fb fun y => oR2 x y) := by
  refine ⟨_, pi_range2 hg hm (pa_cons pe_w (pa_cons pe_w pa_nil hs2) (by rw [hs1, hs2])) hs1 hs2, fun μ h σ H R s p => ?_⟩
  refine ha μ h σ H _ s (Po.mono (Po.bind p) fun x h1 μ1 H1 eq1 s1 hr1 p1 u ru => hb μ1 h1 σ H1 _ (s.step s1 hr1) (Po.mono (Po.bind p1) fun y h2 μ2 H2 eq2 s2 hr2 p2 v rv => ?_))
  unfold oR2 at p2
  split at p2
  · rename_i lo n
    split at p2
    · rename_i hn
      exact ⟨lo, n, by rw [rr_int (ru.step s2), rr_int rv], hn, Po.last p2 hr2 (Same.refl _) _ fw_rng⟩
    · exact p2.elim
  · exact p2.elim
/-! enumerate, zip, reversed -/
def oSq (d : FV) : M (List FV) := match d with
  | .tup ds => pur ds
  | .fl ds => pur ds
  | .sl ds => pur ds
  | _ => fail
def enumF (lo : Nat) : List FV → List FV
  | [] => []
  | d :: ds => .tup [.int lo, d] :: enumF (lo + 1) ds
theorem enumF_len : ∀ (ds : List FV) (lo : Nat), (enumF lo ds).length = ds.length
  | [], _ => rfl
  | _ :: ds, lo => congrArg (· + 1) (enumF_len ds (lo + 1))
theorem enumF_get : ∀ {ds : List FV} {lo i : Nat} {d : FV}, ds[i]? = some d → (enumF lo ds)[i]? = some (.tup [.int ((lo + i : Nat) : Int), d])
  | [], _, _, _, e => by simp at e
  | d :: ds, lo, 0, d', e => by
    have e' : d = d' := Option.some.inj e
    subst e'
    rfl
  | d :: ds, lo, i + 1, d', e => by
    show (enumF (lo + 1) ds)[i]? = _
    rw [enumF_get (ds := ds) (lo := lo + 1) (i := i) (by simpa using e)]
    congr 5
    omega
section
variable {B : Bs} {μ1 : Nat → Addr} {n1 : Nat} {H1 : Hp} {a b : Addr} {xs ys : List V} {ds es : List FV}
theorem fw_enum (hq : LstAt B H1 a xs) (r : VRs B H1 μ1 n1 ds xs) : FWalk B μ1 n1 H1 (Ite B.K a) (enumF 0 ds) where
  goes i H hi g := by
    obtain ⟨μ', n', s⟩ := g
    have hi' : i < xs.length := by rw [r.len]; rw [enumF_len] at hi; exact hi
    exact ⟨xs, xs[i], hq H s.gw, List.getElem?_eq_getElem hi'⟩
  stops H g := by
    obtain ⟨μ', n', s⟩ := g
    exact ⟨xs, hq H s.gw, by rw [r.len, enumF_len]; exact Nat.le_refl _⟩
  yields i H x H' hi g y := by
    obtain ⟨T, z, rfl, hT, rfl, y⟩ := y
    refine ⟨same_new hT, fun μ' n' s => ?_⟩
    obtain ⟨d, e1, e2⟩ := (s.vrs r).get' (y xs (hq H s.gw))
    exact ⟨_, enumF_get e1, by rw [Nat.zero_add]; exact pair_vr hT (.int _) e2⟩
theorem fw_enumT (q : SqT B.K H1 a xs) (r : VRs B H1 μ1 n1 ds xs) : FWalk B μ1 n1 H1 (Iteu B.K a) (enumF 0 ds) where
  goes i H hi g := by
    obtain ⟨μ', n', s⟩ := g
    have hi' : i < xs.length := by rw [r.len]; rw [enumF_len] at hi; exact hi
    exact ⟨xs, xs[i], s.gw.sqt q, List.getElem?_eq_getElem hi'⟩
  stops H g := by
    obtain ⟨μ', n', s⟩ := g
    exact ⟨xs, s.gw.sqt q, by rw [r.len, enumF_len]⟩
  yields i H x H' hi g y := by
    obtain ⟨T, z, rfl, hT, rfl, y⟩ := y
    refine ⟨same_new hT, fun μ' n' s => ?_⟩
    obtain ⟨d, e1, e2⟩ := (s.vrs r).get' (y xs (s.gw.sqt q))
    exact ⟨_, enumF_get e1, by rw [Nat.zero_add]; exact pair_vr hT (.int _) e2⟩
def zipF (ds es : List FV) : List FV := List.zipWith (fun x y => .tup [x, y]) ds es
theorem fw_rev (q : LstAt B H1 a xs) (r : VRs B H1 μ1 n1 ds xs) : FWalk B μ1 n1 H1 (Itv B.K a xs.length) ds.reverse where
  goes i H hi g := by
    obtain ⟨μ', n', s⟩ := g
    rw [List.length_reverse, ← r.len] at hi
    have hi' : xs.length - 1 - i < xs.length := by omega
    exact ⟨hi, xs, _, q H s.gw, List.getElem?_eq_getElem hi'⟩
  stops H g := by rw [List.length_reverse, r.len]; exact Nat.le_refl _
  yields i H x H' hi g y := by
    obtain ⟨rfl, y⟩ := y
    rw [List.length_reverse] at hi
    refine ⟨Same.refl _, fun μ' n' s => ?_⟩
    obtain ⟨d, e1, e2⟩ := (s.vrs r).get' (y xs (q H' s.gw))
    exact ⟨d, by rw [List.getElem?_reverse hi, ← r.len]; exact e1, e2⟩
end
theorem ji_enum {elts : List Expr} {kk : Nat} {tpos : Pos} (hm : X.mg "enumerate" = none) (he : JE X W E Γ e fe) (hg : Gl X "enumerate" := by rfl) (hs : starEach [e] X.env = [(false, eval e X.env)] := by rfl) :
    JI X W E Γ (.Tuple elts kk tpos) (.Call (.Name "enumerate" p0) [e] [] pos) (bnd (mV fe) fun d => bnd (oSq d) fun ds => pur (enumF 0 ds)) := by
  refine ⟨_, PI.or (pi_enumT hg hm (pa_cons pe_w pa_nil hs) hs) (pi_enum hg hm (pa_cons pe_w pa_nil hs) hs), fun μ h σ H R s p => ?_⟩
  cases q : mV fe h with
  | no => unfold bnd at p; rw [q] at p; exact p.elim
  | ex x h1 => unfold bnd at p; rw [q] at p; exact .inl (he.val s (by rw [q]; exact p))
  | ok d h1 =>
    unfold bnd at p
    rw [q] at p
    have go : ∀ {Q : VK}, (∀ μ1 H1 u, Step μ h.length H μ1 h1.length H1 → HR (bs X) μ1 h1 H1 → VR (bs X) H1 μ1 h1.length d u → Q u H1) → wE X e σ H Q := fun {Q} g => he.val s (by rw [q]; exact fun μ1 H1 s1 hr1 u vu => g μ1 H1 u s1 hr1 vu)
    cases d with
    | tup ds =>
      refine .inl (go fun μ1 H1 u s1 hr1 vu => ?_)
      cases vu with
      | tup a b => exact ⟨_, _, rfl, a, p μ1 H1 s1 hr1 _ (fw_enumT a b)⟩
    | fl ds =>
      refine .inr (go fun μ1 H1 u s1 hr1 vu => ?_)
      cases vu with
      | fl a b => exact ⟨_, _, rfl, .inl a.rd, p μ1 H1 s1 hr1 _ (fw_enum (fz_at a) b)⟩
    | sl ds =>
      refine .inr (go fun μ1 H1 u s1 hr1 vu => ?_)
      cases vu with
      | sl a b => exact ⟨_, _, rfl, a.sqL, p μ1 H1 s1 hr1 _ (fw_enum (fzl_at a) b)⟩
    | _ => exact p.elim
def oLs (d : FV) : M (List FV) := match d with
  | .fl ds => pur ds
  | .sl ds => pur ds
  | _ => fail
theorem ji_rev (hm : X.mg "reversed" = none) (he : JE X W E Γ e fe) (hg : Gl X "reversed" := by rfl) (hs : starEach [e] X.env = [(false, eval e X.env)] := by rfl) :
    JI X W E Γ tg (.Call (.Name "reversed" p0) [e] [] pos) (bnd (mV fe) fun d => bnd (oLs d) fun ds => pur ds.reverse) := by
  refine ⟨_, pi_reversed hg hm (pa_cons pe_w pa_nil hs) hs, fun μ h σ H R s p => he.val s (Po.mono (Po.bind p) fun d h1 μ1 H1 _ s1 hr1 p1 u vu => ?_)⟩
  cases d with
  | fl ds =>
    cases vu with
    | fl a b => exact ⟨_, _, rfl, .inl a.rd, p1.here rfl hr1 _ (fw_rev (fz_at a) b)⟩
  | sl ds =>
    cases vu with
    | sl a b => exact ⟨_, _, rfl, a.sqL, p1.here rfl hr1 _ (fw_rev (fzl_at a) b)⟩
  | _ => exact p1.elim
def oZip (d e : FV) : M (List FV) := match d, e with
  | .tup ds, .tup es => pur (zipF ds es)
  | .fl ds, .fl es => pur (zipF ds es)
  | _, _ => fail
end
end P
/-! P: for, while, comprehensions. -/
namespace P
open PySem PySem.Spec PyProof.Rows L2 G
def forN {A β : Type} (F : A → FV → M (Fl A A)) : List FV → A → M (Fl A β)
  | [], a => pur (.nx a)
  | d :: ds, a => bnd (F a d) fun r => match r with
    | .nx a' => forN F ds a'
    | .ct a' => forN F ds a'
    | .bk a' => pur (.nx a')
    | .rt r => pur (.rt r)
def whileN {A β : Type} (t : A → M Bool) (F : A → M (Fl A A)) : Nat → A → M (Fl A β)
  | 0, _ => fail
  | n + 1, a => bnd (t a) fun b => if b = true then bnd (F a) fun r => match r with
    | .nx a' => whileN t F n a'
    | .ct a' => whileN t F n a'
    | .bk a' => pur (.nx a')
    | .rt r => pur (.rt r) else pur (.nx a)
section
variable {α β A : Type} {B : Bs} {E : Ent} {μ : Nat → Addr} {n : Nat} {H : Hp} {D : Ends} {W : WX} {Γx : Option Sl} {eA : A → Sl} {eβ : β → Sl} {h : FH}
theorem PoN.turn {m : M (Fl A A)} {g : A → M (Fl A β)} {N : St → Hp → Prop} (p : PoN B E μ n H D W Γx eA eβ (P.bnd m (fun r : Fl A A => match r with | .nx a' => g a' | .ct a' => g a' | .bk a' => pur (.nx a') | .rt r => pur (.rt r)) h))
    (q : ∀ a h' μ' σ' H', StW μ n H μ' h'.length H' → SR B E μ' (eA a) h' σ' H' → PoN B E μ' h'.length H' D W Γx eA eβ (g a h') → N σ' H') : PoN B E μ n H { D with nx := N, ct := N, bk := D.nx } W Γx eA eA (m h) := by
  unfold P.bnd at p
  cases z : m h with
  | no => rw [z] at p; exact p
  | ex x h' => rw [z] at p; exact p
  | ok f h' =>
    rw [z] at p
    cases f with
    | nx a => exact fun μ' σ' H' s sr => q a h' μ' σ' H' s sr (PoN.at' (show PoN B E μ n H D W Γx eA eβ (g a h') from p) s)
    | ct a => exact fun μ' σ' H' s sr => q a h' μ' σ' H' s sr (PoN.at' (show PoN B E μ n H D W Γx eA eβ (g a h') from p) s)
    | bk b => exact p
    | rt r => exact p
end
/-- a target -/
def JGt (X : Cx) (tg : Expr) (os : List Nat) {δ : Type} (b : FV → Option δ) (put : Sl → δ → Sl) : Prop := ∃ g, PG X tg g ∧ JGw (bs X) g os b put
def JGts (X : Cx) (tgs : List Expr) (os : List Nat) (n : Nat) {δ : Type} (b : List FV → Option δ) (put : Sl → δ → Sl) : Prop := ∃ g, PGs X tgs g ∧ JGws (bs X) g os n b put
section
variable {α β γ A δ δ' : Type} {X : Cx} {W : WX} {E : Ent} {Γx : Option Sl} {eα : α → Sl} {eβ : β → Sl} {Γ Γ' : Sl} {e a b c o tg iter : Expr} {es : List Expr} {pos p0 p1 p2 : Pos} {fe fa fb fc : M RV} {rest body : List Stmt} {os os' : List Nat} {n : Nat}
theorem jg_name (i : Nat) {x : Str} (hN : X.N.Nodup) (hi : X.N[i]? = some x := by rfl) (hx : Loc X.env.scope x := by first | exact Or.inl rfl | exact Or.inr rfl)
    (hf : X.fn x = true ∨ X.env.scope.names.lookup x = some .local := by first | exact .inl rfl | exact .inr rfl | assumption) : JGt X (.Name x pos) [i] (some : FV → Option FV) (putN i) := ⟨_, pg_name hN hi hx hf, jgw_name i⟩
theorem jg_nil : JGts X [] [] 0 bNil (fun Γ _ => Γ) := ⟨_, pgs_nil, jgws_nil⟩
theorem jg_cons {f : FV → Option δ} {g : List FV → Option δ'} {q1 : Sl → δ → Sl} {q2 : Sl → δ' → Sl} (h1 : JGt X e os f q1) (h2 : JGts X es os' n g q2) (hs : (assignEach (e :: es) X.env).map (·.2) = assign e X.env :: (assignEach es X.env).map (·.2) := by rfl) : JGts X (e :: es) (os ++ os') (n + 1) (bCons f g) (putCons q1 q2) := by
  obtain ⟨t1, g1, w1⟩ := h1
  obtain ⟨t2, g2, w2⟩ := h2
  exact ⟨_, pgs_cons g1 g2 hs, jgws_cons w1 w2⟩
theorem jg_tup {g : List FV → Option δ} {kk : Nat} {q : Sl → δ → Sl} (hc : X.calm = true) (h : JGts X es os n g q) (hn : (assignEach es X.env).length = n := by rfl) (hst : (assignEach es X.env).findIdx? (·.1) = none := by rfl) : JGt X (.Tuple es kk pos) os (bTup g) q := by
  obtain ⟨t, p, w⟩ := h
  exact ⟨_, pg_tl hc p hn hst, jgw_tup w⟩
theorem jb_for (eA : A → Sl) (a0 : A) {b : FV → Option δ} {put : Sl → δ → Sl} {Γb : A → δ → Sl} {f : A → δ → M (Fl A A)} {src : M (List FV)} {k : A → M (Fl α β)} (w : SubX Γx Γ) (hp : PassesOwn (model X.prog X.w) X.A X.env X.xe) (hc : X.calm = true) (hi : JI X W E Γ tg iter src) (ht : JGt X tg os b put)
    (hb : ∀ a x, JB X W E Γx eA eA (Γb a x) body (f a x)) (h0 : Sub (eA a0) Γ) (hk : ∀ a, JB X W E Γx eα eβ (eA a) rest (k a)) (hΓ : ∀ a x, put (eA a) x = Γb a x := by intro _ _; rfl) (hs : ∀ x, foldedSetIterable iter X.env x = pure x := by intro _; rfl) :
    JB X W E Γx eα eβ Γ (.For tg iter body [] pos :: rest) (bnd src fun xs => seqN (forN (fun a d => bindT b d (f a)) xs a0) k) := fun μ h σ H D s p => by
  obtain ⟨wi, pi, q⟩ := hi
  obtain ⟨gt, pg, qg⟩ := ht
  refine wcons (wS.of (ps_for hp hc pi pg pss_w hs) (q μ h σ H _ s (Po.mono (PoN.bnd s w p) fun xs h1 μ1 H1 _ s1 hr1 p1 J fw => ?_)))
  obtain ⟨sr, p2⟩ := p1
  have p3 := PoN.seq (N := fun σ' H' => wSs X rest D σ' H') p2 fun a h' μ' σ' H' _ sr q => hk a μ' h' σ' H' D sr q
  refine for_it fw (fun i σ' H' => ∃ μ' a h', StW μ1 h1.length H1 μ' h'.length H' ∧ SR (bs X) E μ' (eA a) h' σ' H' ∧ PoN (bs X) E μ' h'.length H' { D with nx := fun σ' H' => wSs X rest D σ' H' } W Γx eA eβ (forN (fun a d => bindT b d (f a)) (xs.drop i) a h'))
    ⟨μ1, a0, h1, StW.refl _ _ _, sr.sub h0, p3⟩ (fun i σ' H' _ z => ?_) (fun i x σ' H2 H3 hi z y => ?_) (fun σ' H' z => ?_)
  · obtain ⟨μ', a, h', s', _, _⟩ := z
    exact ⟨μ', h'.length, s'⟩
  · obtain ⟨μ', a, h', s', sr', p'⟩ := z
    obtain ⟨sm, y⟩ := y
    obtain ⟨d, hd, vd⟩ := y μ' h'.length s'
    have e : xs.drop i = d :: xs.drop (i + 1) := by
      have hlt : i < xs.length := hi
      rw [List.drop_eq_getElem_cons hlt]
      congr 1
      rw [List.getElem?_eq_getElem hlt] at hd
      exact Option.some.inj hd
    rw [e] at p'
    unfold forN at p'
    have s3 : Step μ' h'.length H2 μ' h'.length H3 := Step.same sm
    have sr3 := sr'.step s3 (sr'.hr.same sm)
    have p4 := PoN.turn (N := fun σ4 H4 => ∃ μ' a h', StW μ1 h1.length H1 μ' h'.length H4 ∧ SR (bs X) E μ' (eA a) h' σ4 H4 ∧ PoN (bs X) E μ' h'.length H4 { D with nx := fun σ' H' => wSs X rest D σ' H' } W Γx eA eβ (forN (fun a d => bindT b d (f a)) (xs.drop (i + 1)) a h')) (p'.at' s3.w)
      fun a4 h4 μ4 σ4 H4 s4 sr4 p4 => ⟨μ4, a4, h4, (s'.trans s3.w).trans s4, sr4, p4⟩
    unfold bindT at p4
    cases z : b d with
    | none => rw [z] at p4; exact p4.elim
    | some x0 =>
      rw [z] at p4
      refine qg E μ' (eA a) h' σ' H3 x d x0 _ sr3 vd z fun σ2 sr2 _ => ?_
      rw [hΓ a x0] at sr2
      exact hb a x0 μ' h' σ2 H3 _ sr2 p4
  · obtain ⟨μ', a, h', s', sr', p'⟩ := z
    rw [List.drop_length] at p'
    unfold forN at p'
    exact (show ∀ μ2 σ2 H2, _ → _ → wSs X rest D σ2 H2 from p') μ' σ' H' (StW.refl _ _ _) sr'
theorem jb_while (eA : A → Sl) (a0 : A) (m : Nat) {t : A → M Bool} {f : A → M (Fl A A)} {k : A → M (Fl α β)} (hp : PassesOwn (model X.prog X.w) X.A X.env X.xe) (wA : ∀ a, SubX Γx (eA a)) (hc : ∀ a, JT X W E (eA a) c (t a)) (hb : ∀ a, JB X W E Γx eA eA (eA a) body (f a)) (h0 : Sub (eA a0) Γ) (hk : ∀ a, JB X W E Γx eα eβ (eA a) rest (k a)) :
    JB X W E Γx eα eβ Γ (.While c body [] pos :: rest) (seqN (whileN t f m a0) k) := fun μ h σ H D s p => by
  have p3 := PoN.seq (N := fun σ' H' => wSs X rest D σ' H') p fun a h' μ' σ' H' _ sr q => hk a μ' h' σ' H' D sr q
  refine wcons (wS.of (ps_while hp pt_w pss_w) ⟨fun m σ' H' => ∃ μ' a h', SR (bs X) E μ' (eA a) h' σ' H' ∧ PoN (bs X) E μ' h'.length H' { D with nx := fun σ' H' => wSs X rest D σ' H' } W Γx eA eβ (whileN t f m a h'), ⟨m, μ, a0, h, s.sub h0, p3⟩, fun m σ1 H1 z => ?_⟩)
  obtain ⟨μ1, a, h1, sr, p1⟩ := z
  cases m with
  | zero => exact p1.elim
  | succ m =>
    unfold whileN at p1
    refine hc a μ1 h1 σ1 H1 _ sr (Po.mono (PoN.bnd sr (wA a) p1) fun b h2 μ2 H2 _ s2 hr2 p2 => ?_)
    obtain ⟨sr2, p3⟩ := p2
    cases b with
    | false =>
      rw [if_neg (by decide)] at p3 ⊢
      exact (show ∀ μ' σ' H', _ → _ → wSs X rest D σ' H' from p3) μ2 _ H2 (StW.refl _ _ _) sr2
    | true =>
      rw [if_pos rfl] at p3 ⊢
      refine ⟨fun σ' H' => ∃ μ' a h', SR (bs X) E μ' (eA a) h' σ' H' ∧ PoN (bs X) E μ' h'.length H' { D with nx := fun σ' H' => wSs X rest D σ' H' } W Γx eA eβ (whileN t f m a h'), fun σ' H' z => ⟨m, Nat.lt_succ_self m, z⟩, ?_⟩
      exact hb a μ2 h2 σ1 H2 _ sr2 (PoN.turn p3 fun a4 h4 μ4 σ4 H4 s4 sr4 p4 => ⟨μ4, a4, h4, sr4, p4⟩)
end
end P
/-! P: comprehensions. -/
namespace P
open PySem PySem.Spec PyProof.Rows L2 G
/-- no error leaves -/
def noEx {α : Type} (m : M α) : M α := fun h => match m h with
  | .ok a h' => .ok a h'
  | _ => .no
/-- the values of the items that have one -/
def filN (g : FV → M (Option FV)) : List FV → M (List FV)
  | [] => pur []
  | d :: ds => bnd (noEx (g d)) fun o => bnd (filN g ds) fun vs => pur (match o with | some v => v :: vs | none => vs)
def filL (g : FV → M (Option FV)) (xs : List FV) : M RV := if xs.length ≤ LIM then bnd (filN g xs) fun es => pur (.l es) else fail
theorem bind_assoc {α β γ : Type} (r : Rs α) (f : α → FH → Rs β) (g : β → FH → Rs γ) : (r.bind f).bind g = r.bind fun a h => (f a h).bind g := by
  cases r <;> rfl
theorem wipe_get : ∀ (vs : List Nat) (σ : St) (j : Nat), (wipe σ vs)[j]? = if j ∈ vs then (σ[j]?).map (fun _ => none) else σ[j]?
  | [], σ, j => by simp [wipe]
  | v :: vs, σ, j => by
    show ((wipe σ vs).set v none)[j]? = _
    rw [List.getElem?_set]
    have ih := wipe_get vs σ j
    by_cases e : v = j
    · subst e
      rw [if_pos rfl, if_pos List.mem_cons_self]
      by_cases l : v < (wipe σ vs).length
      · rw [if_pos l]
        have : (wipe σ vs)[v]? = some ((wipe σ vs)[v]) := List.getElem?_eq_getElem l
        rw [this] at ih
        by_cases m : v ∈ vs
        · rw [if_pos m] at ih
          cases q : σ[v]? with
          | none => rw [q] at ih; cases ih
          | some x => rfl
        · rw [if_neg m] at ih
          rw [← ih]; rfl
      · rw [if_neg l]
        have : (wipe σ vs)[v]? = none := List.getElem?_eq_none (Nat.le_of_not_lt l)
        rw [this] at ih
        by_cases m : v ∈ vs
        · rw [if_pos m] at ih
          cases q : σ[v]? with
          | none => rfl
          | some x => rw [q] at ih; cases ih
        · rw [if_neg m] at ih
          rw [← ih]; rfl
    · rw [if_neg e, ih]
      simp only [List.mem_cons, Ne.symm e, false_or]
theorem wipe_ch {os vs : List Nat} {σ σ' : St} (c : Ch os (wipe σ vs) σ') (h : ∀ j, j ∈ os → j ∈ vs) : wipe σ' vs = wipe σ vs := by
  apply List.ext_getElem?
  intro j
  rw [wipe_get vs σ' j]
  by_cases m : j ∈ vs
  · rw [if_pos m]
    have e1 := wipe_get vs σ j
    rw [if_pos m] at e1
    rw [e1]
    have l : σ'.length = (wipe σ vs).length := c.1
    cases q : σ[j]? with
    | none =>
      rw [q] at e1
      have : j ≥ (wipe σ vs).length := List.getElem?_eq_none_iff.mp e1
      rw [List.getElem?_eq_none (by omega)]
    | some x =>
      rw [q] at e1
      have : j < (wipe σ vs).length := (List.getElem?_eq_some_iff.mp e1).1
      rw [List.getElem?_eq_getElem (by omega)]; rfl
  · rw [if_neg m]
    exact c.2 j fun z => m (h j z)
def wipeF (Γ : Sl) : List Nat → Sl
  | [] => Γ
  | v :: vs => (wipeF Γ vs).set v none
theorem SR.wipe {B : Bs} {E : Ent} {μ : Nat → Addr} {Γ : Sl} {h : FH} {σ : St} {H : Hp} (r : SR B E μ Γ h σ H) : ∀ vs : List Nat, SR B E μ (wipeF Γ vs) h (L2.wipe σ vs) H
  | [] => r
  | v :: vs => (r.wipe vs).drop none
abbrev Blk (X : Cx) (scope : Scope) (φ : Cx → Prop) : Prop := ∀ (s : Shared) (H : Hp) (C : Addr) (cl : List (Str × Addr)) (fp : List Addr), φ (X.blk s H scope (compEnvC scope cl C X.env) fp)
def wEB (X : Cx) (scope : Scope) (e : Expr) : TE := fun σ H Q => Blk X scope fun Y => wE Y e σ H Q
structure wPT (Y : Cx) (ifs : List Expr) (σ : L2.St) (H : Hp) (Q : Bool → Hp → Prop) : Prop where
  go : ∀ pins s, Inv Y pins σ H s → wpAny (model Y.prog Y.w) Y.A (forIn ifs true fun c r => if r = true then do let ok ← isTrue c Y.env (eval c Y.env); pure (ForInStep.yield ok) else pure (ForInStep.yield r)) (TP Y pins σ Q) Y.xe s
def wTB (X : Cx) (scope : Scope) (ifs : List Expr) : TT := fun σ H Q => Blk X scope fun Y => wPT Y ifs σ H Q
/-- the tests of a comprehension -/
def JTs (Y : Cx) (W : WX) (E : Ent) (Γ : Sl) (ifs : List Expr) (f : M Bool) : Prop :=
  ∀ μ h σ H Q, SR (bs Y) E μ Γ h σ H → Po (bs Y) μ h.length H (fun b h' μ' H' => Q b H') (fun c d H' => W c d σ H') (f h) → wPT Y ifs σ H Q
theorem jts_nil {X : Cx} {W : WX} {E : Ent} {Γ : Sl} : JTs X W E Γ [] (pur true) := fun μ h σ H Q s p => ⟨fun pins s' I => pts_nil.run pins s' σ H Q I (Po.last p s.hr (Same.refl _))⟩
theorem Po.noEx {α : Type} {B : Bs} {μ : Nat → Addr} {n : Nat} {H : Hp} {R : α → FH → (Nat → Addr) → Hp → Prop} {E E' : XK} {m : M α} {h : FH} (p : Po B μ n H R E (P.noEx m h)) : Po B μ n H R E' (m h) := by
  unfold P.noEx at p
  cases q : m h with
  | no => rw [q] at p; exact p
  | ex x h => rw [q] at p; exact p.elim
  | ok a h => rw [q] at p; exact p
/-- a target in a comprehension -/
def JGtB (X : Cx) (scope : Scope) (tg : Expr) (os : List Nat) {δ : Type} (b : FV → Option δ) (put : Sl → δ → Sl) : Prop := ∃ g, (Blk X scope fun Y => PG Y tg g) ∧ JGw (bs X) g os b put
section
variable {δ δ' : Type} {X : Cx} {W : WX} {E : Ent} {Γ : Sl} {e elt iter tg c : Expr} {es : List Expr} {pos p0 : Pos} {scope : Scope} {os os' vs : List Nat} {n : Nat} {src : M (List FV)}
theorem jgb_name (i : Nat) {x : Str} (hN : Blk X scope fun Y => Y.N.Nodup) (hi : Blk X scope fun Y => Y.N[i]? = some x := by intro _ _ _ _ _; rfl) (hx : Blk X scope fun Y => Loc Y.env.scope x := by first | (intro _ _ _ _ _; exact Or.inl rfl) | (intro _ _ _ _ _; exact Or.inr rfl))
    (hf : Blk X scope fun Y => Y.fn x = true ∨ Y.env.scope.names.lookup x = some .local := by first | (intro _ _ _ _ _; exact .inl rfl) | (intro _ _ _ _ _; exact .inr rfl)) : JGtB X scope (.Name x pos) [i] (some : FV → Option FV) (putN i) := ⟨_, fun a b c d e => pg_name (hN a b c d e) (hi a b c d e) (hx a b c d e) (hf a b c d e), jgw_name i⟩
theorem Fre.keep {μ μ' : Nat → Addr} {n n' : Nat} {H H' : Hp} {p : Addr} {o : HO} (s : Step μ n H μ' n' H') (e : H p = some o) (nd : Nd μ n p) : H' p = some o ∧ Nd μ' n' p := ⟨s.fr _ _ e nd, nd.step (sn e) s⟩
/-- one item of a comprehension -/
def item {δ : Type} (b : FV → Option δ) (t : δ → M Bool) (fe : δ → M RV) (d : FV) : M (Option FV) := bindT b d fun x => bnd (t x) fun c => if c = true then bnd (mV (fe x)) fun v => pur (some v) else pur none
theorem comp_w {ifs : List Expr} {g : TG} {wi : TI} {b : FV → Option δ} {put : Sl → δ → Sl} {t : δ → M Bool} {fe : δ → M RV} {Γc : δ → Sl} (hsrc : JIw X W E Γ wi src) (ht : JGw (bs X) g os b put) (hos : ∀ j, j ∈ os → j ∈ vs) (hΓ : ∀ x, put (wipeF Γ vs) x = Γc x)
    (hts : ∀ x, Blk X scope fun Y => JTs Y wNo E (Γc x) ifs (t x)) (he : ∀ x, Blk X scope fun Y => JE Y wNo E (Γc x) elt (fe x))
    {μ : Nat → Addr} {h : FH} {σ : St} {H : Hp} {Q : VK} (s : SR (bs X) E μ Γ h σ H) (p : Po (bs X) μ h.length H (fun r h' μ' H' => ∀ u, RR (bs X) H μ' h'.length H' r u → Q u H') (fun c d H' => W c d σ H') (bnd src (filL (item b t fe)) h)) :
    tLc wi g (wTB X scope ifs) (wEB X scope elt) vs σ H Q := by
  refine hsrc μ h σ H _ s (Po.mono (Po.bind p) fun xs h1 μ1 H1 _ s1 hr1 p1 J fw => ?_)
  intro Dd hD
  unfold filL at p1
  split at p1
  rotate_left
  · exact p1.elim
  rename_i hlim
  have sD : Same H1 (upd H1 Dd (.lst [])) := same_new hD
  refine lc_it fw (fun i H' => ∃ μ' h' acc xs', Step μ1 h1.length H1 μ' h'.length H' ∧ HR (bs X) μ' h' H' ∧ H' Dd = some (.lst xs') ∧ Nd μ' h'.length Dd ∧ VRs (bs X) H' μ' h'.length acc xs' ∧ xs'.length ≤ i ∧
      Po (bs X) μ1 h1.length H1 (fun r h'' μ'' H'' => ∀ u, RR (bs X) H μ'' h''.length H'' r u → Q u H'') (fun c d H' => W c d σ H') ((filN (item b t fe) (xs.drop i) h').bind fun es h2 => .ok (.l (acc ++ es)) h2))
    ⟨μ1, h1, [], [], Step.same sD, hr1.same sD, upd_same, fun j hj z => hr1.cls hj (by rw [z]; exact hD), .nil, Nat.le_refl _, p1⟩ (fun i H' _ z => ?_) (fun i x H2 H3 hi z y => ?_) (fun H' z => ?_)
  · obtain ⟨μ', h', acc, xs', s', _⟩ := z
    exact ⟨μ', h'.length, s'.w⟩
  · obtain ⟨μ', h', acc, xs', s', hr', eD, nD, racc, lacc, p'⟩ := z
    obtain ⟨sm, y⟩ := y
    obtain ⟨d, hd, vd⟩ := y μ' h'.length s'.w
    have e : xs.drop i = d :: xs.drop (i + 1) := by
      have hlt : i < xs.length := hi
      rw [List.drop_eq_getElem_cons hlt]
      congr 1
      rw [List.getElem?_eq_getElem hlt] at hd
      exact Option.some.inj hd
    rw [e, filN, bnd, bind_assoc] at p'
    have s3 : Step μ' h'.length H2 μ' h'.length H3 := Step.same sm
    have hr3 := hr'.same sm
    obtain ⟨eD3, nD3⟩ := Fre.keep s3 eD nD
    have t3 := s'.trans s3
    have sw : SR (bs X) E μ' (wipeF Γ vs) h' (L2.wipe σ vs) H3 := (s.wipe vs).step (s1.trans t3) hr3
    have p3 := Po.noEx (E' := fun c d H' => wNo c d [] H') (p'.bindAt t3)
    unfold item bindT at p3
    cases z : b d with
    | none => rw [z] at p3; exact p3.elim
    | some x0 =>
      rw [z] at p3
      dsimp only at p3
      refine ht E μ' (wipeF Γ vs) h' _ H3 x d x0 _ sw vd z fun σ2 sr2 ch => ⟨wipe_ch ch hos, ?_⟩
      rw [hΓ x0] at sr2
      intro ss HH C cl fp
      refine hts x0 ss HH C cl fp μ' h' σ2 H3 _ sr2 (Po.mono (Po.bind p3) fun bb h4 μ4 H4 _ s4 hr4 p4 => ?_)
      obtain ⟨eD4, nD4⟩ := Fre.keep s4 eD3 nD3
      have racc4 := s4.vrs (s3.vrs racc)
      have t4 := t3.trans s4
      cases bb with
      | false =>
        rw [if_neg (by decide)] at p4 ⊢
        have p5 := Po.here rfl hr4 p4
        refine ⟨μ4, h4, acc, xs', t4, hr4, eD4, nD4, racc4, Nat.le_succ_of_le lacc, ?_⟩
        rw [bnd, bind_assoc] at p5
        exact p5
      | true =>
        rw [if_pos rfl] at p4 ⊢
        intro ss HH C cl fp
        refine (he x0 ss HH C cl fp).val (sr2.step s4 hr4) (Po.mono (Po.bind p4) fun dv h6 μ6 H5 _ s6 hr6 p6 u v6 => ?_)
        have p7 := Po.here rfl hr6 p6
        rw [bnd, bind_assoc] at p7
        obtain ⟨eD6, nD6⟩ := Fre.keep s6 eD4 nD4
        have racc6 := s6.vrs racc4
        have t6 := t4.trans s6
        have mu : Mut (H5 Dd) := by rw [eD6]; trivial
        have gw := gw_mut (o := .lst (xs' ++ [u])) mu
        have hi' : i < xs.length := hi
        refine ⟨xs', eD6, lim_lt (Nat.lt_of_lt_of_le (Nat.lt_of_le_of_lt lacc hi') hlim), μ6, h6, acc ++ [dv], xs' ++ [u], ?_, ?_, upd_same, nD6, ?_, by rw [List.length_append]; exact Nat.succ_le_succ lacc, ?_⟩
        · refine ⟨t6.le, t6.ext, t6.new, fun a o ha hk => ?_, fun a ha => ?_, t6.gw.trans gw⟩
          · rw [upd_ne (fun z => by rw [z, hD] at ha; cases ha)]; exact t6.fr a o ha hk
          · by_cases z : a = Dd
            · rw [z, upd_same]; exact fun z => nomatch z
            · rw [upd_ne z]; exact t6.th a ha
        · exact ⟨fun j o hj => (hr6.at' j o hj).mono gw (fun _ _ => rfl) (Nat.le_refl _) (upd_ne (nD6 j (List.getElem?_eq_some_iff.mp hj).1)), hr6.inj⟩
        · exact VRs.mono gw (fun _ _ => rfl) (Nat.le_refl _) _ _ (racc6.append (.cons v6 .nil))
        · have : (fun (es : List FV) (h2 : FH) => Rs.ok (RV.l (acc ++ [dv] ++ es)) h2) = fun es h2 => Rs.ok (RV.l (acc ++ (dv :: es))) h2 := by
            funext es h2
            rw [List.append_assoc]; rfl
          rw [this]
          exact p7
  · obtain ⟨μ', h', acc, xs', s', hr', eD, nD, racc, lacc, p'⟩ := z
    rw [List.drop_length] at p'
    have p2 : Po (bs X) μ1 h1.length H1 _ _ (Rs.ok (RV.l (acc ++ [])) h') := p'
    rw [List.append_nil] at p2
    refine p2 μ' H' s' hr' _ (.l ⟨?_, nD⟩ eD racc)
    exact no_th s1.th hD
theorem je_lc (own : List (Str × Nat)) {ifs : List Expr} {b : FV → Option δ} {put : Sl → δ → Sl} {t : δ → M Bool} {fe : δ → M RV} {Γc : δ → Sl} (hc : X.calm = true) (hN : X.N.Nodup) (hi : JI X W E Γ tg iter src) (ok : BlkOk X.N X.env.scope scope own)
    (ht : JGtB X scope tg os b put) (hos : ∀ j, j ∈ os → j ∈ own.map (·.2)) (hts : ∀ x, Blk X scope fun Y => JTs Y wNo E (Γc x) ifs (t x)) (he : ∀ x, Blk X scope fun Y => JE Y wNo E (Γc x) elt (fe x)) (hΓ : ∀ x, put (wipeF Γ (own.map (·.2))) x = Γc x := by intro _; rfl)
    (hs : ∀ x, foldedSetIterable iter X.env x = pure x := by intro _; rfl) : JE X W E Γ (.ListComp elt [⟨tg, iter, ifs, 0⟩] scope pos) (bnd src (filL (item b t fe))) := fun μ h σ H Q s p => by
  obtain ⟨wi, pi, q⟩ := hi
  obtain ⟨gt, pg, qg⟩ := ht
  exact wE.of (pe_lc (te := wEB X scope elt) (tt := wTB X scope ifs) hc hN pi ok pg (fun s H C cl fp => ⟨fun pins s' σ' H' Q' I q => (q s H C cl fp).go pins s' I⟩) (fun s H C cl fp => ⟨fun pins s' σ' H' Q' I q => (q s H C cl fp).go pins s' I⟩) hs) (comp_w q qg hos hΓ hts he s p)
end
end P
/-! P: what a slot alone holds is changed; objects with numbers are changed; freezing. -/
namespace P
open PySem PySem.Spec PyProof.Rows L2 G
section
variable {α β γ δ : Type} {X : Cx} {W : WX} {E : Ent} {Γx : Option Sl} {eα : α → Sl} {eβ : β → Sl} {Γ Γ' : Sl} {e a b c o i tg iter elt : Expr} {es : List Expr} {pos apos p0 p1 p2 px : Pos} {fe fo fi fa fb fc : M RV} {rest body : List Stmt} {os : List Nat} {n k : Nat} {scope : Scope} {src : M (List FV)}
/-! ### y = [..] on one line -/
theorem jb_setLC (j : Nat) {ifs : List Expr} {y : Str} {py : Pos} (own : List (Str × Nat)) {b : FV → Option δ} {put : Sl → δ → Sl} {t : δ → M Bool} {fe : δ → M RV} {Γc : δ → Sl} {Γ' : FV → Sl} {kk : FV → M (Fl α β)} (w : SubX Γx Γ) (hc : X.calm = true) (hN : X.N.Nodup) (hi : JI X W E Γ tg iter src) (ok : BlkOk X.N X.env.scope scope own)
    (ht : JGtB X scope tg os b put) (hos : ∀ j, j ∈ os → j ∈ own.map (·.2)) (hts : ∀ x, Blk X scope fun Y => JTs Y wNo E (Γc x) ifs (t x)) (he : ∀ x, Blk X scope fun Y => JE Y wNo E (Γc x) elt (fe x)) (hk : ∀ d, JB X W E Γx eα eβ (Γ' d) rest (kk d)) (hΓ : ∀ x, put (wipeF Γ (own.map (·.2))) x = Γc x := by intro _; rfl) (hΓ' : ∀ d, Γ.set j (some (.v d)) = Γ' d := by intro _; rfl)
    (hj : X.N[j]? = some y := by rfl) (hyl : X.env.scope.names.lookup y = some .local := by rfl) (hkd : X.env.scope.kind = .function := by rfl) (hpl : (py.line == p0.line) = true := by rfl) (hyn : (scope.names.any fun (n, k) => n == y && (k == .local || k == .cell)) = false := by decide +kernel)
    (hs : ∀ x, foldedSetIterable iter X.env x = pure x := by intro _; rfl) : JB X W E Γx eα eβ Γ (.Assign [.Name y py] (.ListComp elt [⟨tg, iter, ifs, 0⟩] scope p0) pos :: rest) (bnd (mV (bnd src (filL (item b t fe)))) kk) := fun μ h σ H D s p => by
  obtain ⟨wi, pi, q⟩ := hi
  obtain ⟨gt, pg, qg⟩ := ht
  refine wcons (wS.of (ps_setLc (te := wEB X scope elt) (tt := wTB X scope ifs) hc hN hj hyl (sw_true hkd hyl hpl hyn) pi ok pg (fun s H C cl fp => ⟨fun pins s' σ' H' Q' I q => (q s H C cl fp).go pins s' I⟩) (fun s H C cl fp => ⟨fun pins s' σ' H' Q' I q => (q s H C cl fp).go pins s' I⟩) hs)
    (comp_w (Q := fun x H1 => gName j x σ H1 fun σ' H' => wSs X rest D σ' H') q qg hos hΓ hts he s (Po.mono (Po.vF (PoN.bnd s w p)) fun x h1 μ1 H1 _ s1 hr1 p1 u ru => ?_)))
  obtain ⟨d, _, g⟩ := p1 u ru
  refine wSs.gh (g.mono fun H2 ⟨z1, z2, z3, z4, z5, s2, p2⟩ => ?_)
  have s3 := s2.putV (i := j) z3
  rw [hΓ' d] at s3
  exact hk d μ1 h1 _ H2 D s3 p2
/-! ### what slot j holds is frozen -/
theorem jb_frz (j : Nat) {r : RV} {d : FV} (q : sg Γ j = some r) (f : r.frz = some d) {Γ' : Sl} {kk : M (Fl α β)} {sts : List Stmt} (hk : JB X W E Γx eα eβ Γ' sts kk) (hΓ : Γ.set j (some (.v d)) = Γ' := by rfl) : JB X W E Γx eα eβ Γ sts kk := fun μ h σ H D s p => by
  have e := sg_get q
  obtain ⟨u, h1, h2⟩ := s.sl j r e
  refine wSs.gh ?_
  cases ho : r.obj with
  | false =>
    cases r with
    | v x =>
      have xd : x = d := Option.some.inj f
      subst xd
      have : Γ.set j (some (.v x)) = Γ := by
        apply List.ext_getElem?
        intro m
        by_cases z : j = m
        · subst z
          rw [List.getElem?_set_self (List.getElem?_eq_some_iff.mp e).1, e]
        · rw [List.getElem?_set_ne z]
      rw [← hΓ, this] at hk
      exact .inl (hk μ h σ H D s p)
    | _ => cases ho
  | true =>
    have g := frz_ok s.hr h2 f s.st
    have key : ∀ H2, Step E.μ E.n E.H μ h.length H2 ∧ HR (bs X) μ h H2 ∧ VR (bs X) H2 μ h.length d u ∧ Gw H H2 ∧ (∀ p, u ≠ .ref p → H2 p = H p) → Mut (match u with | .ref p => H p | _ => none) → wSs X sts D σ H2 := fun H2 ⟨z1, z2, z3, z4, z5⟩ mu => by
      have sr : SR (bs X) E μ Γ' h σ H2 := by
        rw [← hΓ]
        refine ⟨z1, z2, by rw [List.length_set]; exact s.len, fun m w q => ?_, fun m1 m2 w1 w2 a e1 e2 o1 o2 e3 e4 => ?_⟩
        · rcases set_get q with ⟨rfl, q', l⟩ | ⟨nj, q'⟩
          · cases q'
            exact ⟨u, h1, .v z3⟩
          · obtain ⟨u', k1, k2⟩ := s.sl m w q'
            refine ⟨u', k1, ?_⟩
            cases how : w.obj with
            | false =>
              cases w with
              | v x =>
                cases k2 with
                | v k2 => exact .v (VR.mono z4 (fun _ _ => rfl) (Nat.le_refl _) _ _ k2)
              | _ => cases how
            | true =>
              have ne : ∀ q, u' = .ref q → u ≠ .ref q := fun q eq z => nj (s.inj j m r w q e q' ho how (by rw [h1, z]) (by rw [k1, eq]))
              have st : ∀ q, u' = .ref q → H2 q = H q := fun q eq => z5 q (ne q eq)
              cases k2 with
              | v k2 => cases how
              | l f a b => exact .l f (by rw [st _ rfl]; exact a) (VRs.mono z4 (fun _ _ => rfl) (Nat.le_refl _) _ _ b)
              | d f a b => exact .d f (by rw [st _ rfl]; exact a) (b.mono z4 (fun _ _ => rfl) (Nat.le_refl _))
              | t f a b => exact .t f (by rw [st _ rfl]; exact a) (b.mono z4 (fun _ _ => rfl) (Nat.le_refl _))
              | o f z a b => exact .o f z (by rw [st _ rfl]; exact a) (b.mono z4 (fun _ _ => rfl) (Nat.le_refl _))
              | bl f a b => exact .bl f (by rw [st _ rfl]; exact a) (VRs.mono z4 (fun _ _ => rfl) (Nat.le_refl _) _ _ b)
              | bd f a b => exact .bd f (by rw [st _ rfl]; exact a) (b.mono z4 (fun _ _ => rfl) (Nat.le_refl _))
              | bt f a b => exact .bt f (by rw [st _ rfl]; exact a) (b.mono z4 (fun _ _ => rfl) (Nat.le_refl _))
              | bo f z a b => exact .bo f z (by rw [st _ rfl]; exact a) (b.mono z4 (fun _ _ => rfl) (Nat.le_refl _))
        · rcases set_get e1 with ⟨rfl, e1', l1⟩ | ⟨ne1, e1'⟩
          · cases e1'; cases o1
          · rcases set_get e2 with ⟨rfl, e2', l2⟩ | ⟨ne2, e2'⟩
            · cases e2'; cases o2
            · exact s.inj m1 m2 w1 w2 a e1' e2' o1 o2 e3 e4
      exact hk μ h σ H2 D sr (p.at' (StW.of z4))
    rcases g with g | ⟨q, w, a, b, g⟩
    · obtain ⟨p', rfl, _, mu⟩ : ∃ p', u = .ref p' ∧ True ∧ Mut (H p') := by
        cases h2 with
        | v x => cases ho
        | l f a b => exact ⟨_, rfl, trivial, by rw [a]; trivial⟩
        | d f a b => exact ⟨_, rfl, trivial, by rw [a]; trivial⟩
        | t f a b => exact ⟨_, rfl, trivial, by rw [a]; trivial⟩
        | o f z a b => exact ⟨_, rfl, trivial, by rw [a]; trivial⟩
        | bl f a b => exact ⟨_, rfl, trivial, by rw [a]; trivial⟩
        | bd f a b => exact ⟨_, rfl, trivial, by rw [a]; trivial⟩
        | bt f a b => exact ⟨_, rfl, trivial, by rw [a]; trivial⟩
        | bo f z a b => exact ⟨_, rfl, trivial, by rw [a]; trivial⟩
      exact .inl (key H g mu)
    · refine .inr ⟨q, w, a, b, fun od => key _ (g od) ?_⟩
      cases h2 with
      | v x => cases ho
      | l f a b => show Mut (H _); rw [a]; trivial
      | d f a b => show Mut (H _); rw [a]; trivial
      | t f a b => show Mut (H _); rw [a]; trivial
      | o f z a b => show Mut (H _); rw [a]; trivial
      | bl f a b => show Mut (H _); rw [a]; trivial
      | bd f a b => show Mut (H _); rw [a]; trivial
      | bt f a b => show Mut (H _); rw [a]; trivial
      | bo f z a b => show Mut (H _); rw [a]; trivial
/-! ### xs.append(e), xs.extend(e), the slot's own list -/
def oApp (ds : List FV) (d : FV) : M (List FV) := if ds.length < LIM then pur (ds ++ [d]) else fail
def oExt (ds es : List FV) : M (List FV) := if ds.length + es.length ≤ LIM then pur (ds ++ es) else fail
theorem own_l {B : Bs} {H0 H : Hp} {μ : Nat → Addr} {n : Nat} {ds : List FV} {u : V} (r : RR B H0 μ n H (.l ds) u) : ∃ p xs, u = .ref p ∧ Fre H0 μ n p ∧ H p = some (.lst xs) ∧ VRs B H μ n ds xs := by
  cases r with | l f a b => exact ⟨_, _, rfl, f, a, b⟩
theorem own_d {B : Bs} {H0 H : Hp} {μ : Nat → Addr} {n : Nat} {ds : List (Key × FV)} {u : V} (r : RR B H0 μ n H (.d ds) u) : ∃ p xs, u = .ref p ∧ Fre H0 μ n p ∧ H p = some (.dK xs) ∧ KvR B H μ n ds xs := by
  cases r with | d f a b => exact ⟨_, _, rfl, f, a, b⟩
theorem jb_append (j : Nat) {ds : List FV} {x : Str} {Γ' : List FV → Sl} {kk : List FV → M (Fl α β)} (w : SubX Γx Γ) (he : JE X W E Γ e fe) (hk : ∀ d, JB X W E Γx eα eβ (Γ' d) rest (kk d)) (q : sg Γ j = some (.l ds) := by rfl) (hΓ : ∀ d, Γ.set j (some (.l d)) = Γ' d := by intro _; rfl)
    (hN : X.N[j]? = some x := by rfl) (hv : Vis X.env.scope x := by first | exact Or.inl rfl | exact Or.inr (Or.inl rfl) | exact Or.inr (Or.inr rfl)) (hd : (x == ("__debug__" : Str)) = false := by decide) (hcd : (x == ("__classdict__" : Str)) = false := by decide)
    (pe : ∀ {to : TE} {t : TA}, PE X (.Name x px) to → PA X [e] t → PE X (.Call (.Attribute (.Name x px) "append" apos) [e] [] p0) (tBM X.K "list" rAppend to t) := by intro to t h1 h2; exact pe_bm PySem.F.plainAttrs_list PySem.F.slot_list_append PySem.F.type_list_append mt_append h1 h2)
    (hs : swapsWith (.Call (.Attribute (.Name x px) "append" apos) [e] [] p0) none pos.line X.env = pure false := by rfl) (h1 : starEach (e :: []) X.env = (false, eval e X.env) :: starEach [] X.env := by exact star1 rfl) :
    JB X W E Γx eα eβ Γ (.Expr (.Call (.Attribute (.Name x px) "append" apos) [e] [] p0) pos :: rest) (bnd (mV fe) fun d => bnd (oApp ds d) kk) := fun μ h σ H D s p => by
  have eq := sg_get q
  obtain ⟨u, h1', h2⟩ := s.sl j _ eq
  obtain ⟨p', xs, rfl, f, a, b⟩ := own_l h2
  refine wcons (wS.of (ps_expr (pe (pe_var hN hv hd hcd) (pa_cons pe_w pa_nil h1)) hs) ⟨.ref p', h1', .inl ⟨rfl, xs, SqL.of a⟩, PoN.val he s w p fun d h3 μ3 H3 u3 sw s3 v3 p3 => ?_⟩)
  obtain ⟨u', k1, k2⟩ := s3.sl j _ eq
  rw [h1'] at k1; cases k1
  obtain ⟨p'', ys, e', f', a', b'⟩ := own_l k2
  cases e'
  unfold oApp at p3
  by_cases hl : ds.length < LIM
  · rw [if_pos hl] at p3
    refine ⟨p', ys, u3, rfl, rfl, a', by rw [b'.len]; exact lim_lt hl, ?_⟩
    have mu : Mut (H3 p') := by rw [a']; trivial
    have g := gw_mut (o := .lst (ys ++ [u3])) mu
    have s4 := s3.chg (o := .lst (ys ++ [u3])) (r' := .l (ds ++ [d])) rfl eq h1' f'.1 f'.2 mu (.l f' upd_same (VRs.mono g (fun _ _ => rfl) (Nat.le_refl _) _ _ (b'.append (.cons v3 .nil))))
    rw [hΓ] at s4
    exact hk (ds ++ [d]) μ3 h3 σ _ D s4 (PoN.at' p3 (StW.of g))
  · rw [if_neg hl] at p3; exact p3.elim
/-- .. of any list -/
def rExtR : V → List V → Hp → VK → Prop := fun x vs H Q => ∃ l b xs zs, x = .ref l ∧ vs = [.ref b] ∧ H l = some (.lst xs) ∧ Rd H b (.lst zs) ∧ xs.length + zs.length ≤ sizeLine ∧ Q .non (upd H l (.lst (xs ++ zs)))
theorem mt_extR : MtM X "list.extend" rExtR := by
  rintro pins s σ H _ _ v us Q I rx rv ⟨l, b, xs, zs, rfl, rfl, hH, hB, hz, q⟩
  obtain rfl : v = .ref l := rx
  obtain ⟨u, rfl, ru⟩ := rv.one
  obtain rfl : u = .ref b := ru
  obtain ⟨_, ia, na, wa, ea⟩ := (Rd.of hH).ok I.hok
  obtain ⟨_, ib, nb, wb, eb⟩ := hB.ok I.hok
  have l1 := wa.length
  have l2 := wb.length
  have small : ia.toArray.size + ib.toArray.size ≤ sizeLine := by simp only [List.size_toArray]; omega
  have room : ¬ (!ia.toArray.isEmpty && Builtin.List.listTooLong (ia.toArray.size + ib.toArray.size)) = true := by
    rw [notLongL small, Bool.and_false]; decide
  have one : ia.toArray.size ≤ sizeLine := by omega
  have two : ia.toArray.size + ib.toArray.size ≤ sizeLine + 1 := by omega
  refine call_meets PySem.F.slot_list_extend ⟨_, ea, rfl⟩ PySem.F.entry_list_extend (PySem.F.args_list_extend_2 _ _) (AutoSeq1.list_extend_list_list_0 l ia.toArray na b ib.toArray nb room one two) ⟨ea, eb, ?_⟩
  have len : (xs ++ zs).length ≤ sizeLine := by rw [List.length_append]; exact hz
  exact ⟨.non, _, I.lset (its' := ia ++ ib) hH ea (by simp) (wa.append wb) len, rfl, q⟩
def oL (d : FV) : M (List FV) := match d with | .fl ds => pur ds | _ => fail
theorem jb_extend (j : Nat) {ds : List FV} {x : Str} {Γ' : List FV → Sl} {kk : List FV → M (Fl α β)} (w : SubX Γx Γ) (he : JE X W E Γ e fe) (hk : ∀ d, JB X W E Γx eα eβ (Γ' d) rest (kk d)) (q : sg Γ j = some (.l ds) := by rfl) (hΓ : ∀ d, Γ.set j (some (.l d)) = Γ' d := by intro _; rfl)
    (hN : X.N[j]? = some x := by rfl) (hv : Vis X.env.scope x := by first | exact Or.inl rfl | exact Or.inr (Or.inl rfl) | exact Or.inr (Or.inr rfl)) (hd : (x == ("__debug__" : Str)) = false := by decide) (hcd : (x == ("__classdict__" : Str)) = false := by decide)
    (pe : ∀ {to : TE} {t : TA}, PE X (.Name x px) to → PA X [e] t → PE X (.Call (.Attribute (.Name x px) "extend" apos) [e] [] p0) (tBM X.K "list" rExtR to t) := by intro to t h1 h2; exact pe_bm PySem.F.plainAttrs_list PySem.F.slot_list_extend PySem.F.type_list_extend mt_extR h1 h2)
    (hs : swapsWith (.Call (.Attribute (.Name x px) "extend" apos) [e] [] p0) none pos.line X.env = pure false := by rfl) (h1 : starEach (e :: []) X.env = (false, eval e X.env) :: starEach [] X.env := by exact star1 rfl) :
    JB X W E Γx eα eβ Γ (.Expr (.Call (.Attribute (.Name x px) "extend" apos) [e] [] p0) pos :: rest) (bnd (mV fe) fun d => bnd (oL d) fun es => bnd (oExt ds es) kk) := fun μ h σ H D s p => by
  have eq := sg_get q
  obtain ⟨u, h1', h2⟩ := s.sl j _ eq
  obtain ⟨p', xs, rfl, f, a, b⟩ := own_l h2
  refine wcons (wS.of (ps_expr (pe (pe_var hN hv hd hcd) (pa_cons pe_w pa_nil h1)) hs) ⟨.ref p', h1', .inl ⟨rfl, xs, SqL.of a⟩, PoN.val he s w p fun d h3 μ3 H3 u3 sw s3 v3 p3 => ?_⟩)
  obtain ⟨u', k1, k2⟩ := s3.sl j _ eq
  rw [h1'] at k1; cases k1
  obtain ⟨p'', ys, e', f', a', b'⟩ := own_l k2
  cases e'
  unfold oL at p3
  split at p3
  · rename_i es
    cases v3 with
    | fl z1 z2 =>
      rename_i pa zs
      have p4 : PoN (bs X) E μ3 h3.length H3 D W Γx eα eβ (bnd (oExt ds es) kk h3) := p3
      unfold oExt at p4
      by_cases hl : ds.length + es.length ≤ LIM
      · rw [if_pos hl] at p4
        refine ⟨p', _, ys, _, rfl, rfl, a', z1.rd, by rw [b'.len, z2.len]; exact lim_le hl, ?_⟩
        have mu : Mut (H3 p') := by rw [a']; trivial
        have g := gw_mut (o := .lst (ys ++ zs)) mu
        have s4 := s3.chg (o := .lst (ys ++ zs)) (r' := .l (ds ++ es)) rfl eq h1' f'.1 f'.2 mu (.l f' upd_same (VRs.mono g (fun _ _ => rfl) (Nat.le_refl _) _ _ (b'.append z2)))
        rw [hΓ] at s4
        exact hk (ds ++ es) μ3 h3 σ _ D s4 (PoN.at' p4 (StW.of g))
      · rw [if_neg hl] at p4; exact p4.elim
  · exact p3.elim
end
end P
/-! P: stores into lists and dicts, built-ins, dicts. -/
namespace P
open PySem PySem.Spec PyProof.Rows L2 G
section
variable {α β γ δ : Type} {X : Cx} {W : WX} {E : Ent} {Γx : Option Sl} {eα : α → Sl} {eβ : β → Sl} {Γ Γ' : Sl} {e a b c o i f tg iter elt : Expr} {es : List Expr} {pos apos p0 p1 p2 px : Pos} {fe fo fi fa fb fc ff : M RV} {rest body : List Stmt} {os : List Nat} {n k : Nat} {scope : Scope} {src : M (List FV)}
/-! ### xs[i] = e, d[k] = e -/
def rSetG : TSet := fun o i v H Q => rSetL o i v H Q ∨ ∃ a H', o = .ref a ∧ DPut H a i v H' ∧ Q H'
theorem set_g (hu : X.A.units + 1 < cLine) : PSet X rSetG := by
  intro pins s σ H o i v ov iv u Q I ro ri rv h
  rcases h with h | ⟨a, H', rfl, g, q⟩
  · exact set_list pins s σ H o i v ov iv u Q I ro ri rv h
  · obtain rfl : ov = Value.ref a := ro
    exact d_setItem hu I g ri rv fun s' I' => ⟨H', I', q⟩
def putF (kvs : List (Key × FV)) (k : Key) (v : FV) : List (Key × FV) :=
  if (kvs.any fun kv => decide (kv.1 = k)) = true then kvs.map (fun kv => if kv.1 = k then (kv.1, v) else kv) else kvs ++ [(k, v)]
theorem KvR.any {κ : Type} [DecidableEq κ] {B : Bs} {H : Hp} {μ : Nat → Addr} {n : Nat} (k : κ) : ∀ {ds : List (κ × FV)} {ws : List (κ × V)}, KvR B H μ n ds ws → (ws.any fun kv => decide (kv.1 = k)) = (ds.any fun kv => decide (kv.1 = k))
  | _, _, .nil => rfl
  | _, _, .cons a b => by rw [List.any_cons, List.any_cons, KvR.any k b, a.1]
theorem KvR.map {B : Bs} {H : Hp} {μ : Nat → Addr} {n : Nat} {k : Key} {v : V} {d : FV} (m : VR B H μ n d v) : ∀ {ds : List (Key × FV)} {ws : List (Key × V)}, KvR B H μ n ds ws → KvR B H μ n (ds.map fun kv => if kv.1 = k then (kv.1, d) else kv) (ws.map fun kv => if kv.1 = k then (kv.1, v) else kv)
  | _, _, .nil => .nil
  | p :: _, q :: _, .cons h t => by
    refine .cons ?_ (KvR.map m t)
    by_cases e : p.1 = k
    · dsimp only; rw [if_pos e, if_pos (h.1 ▸ e)]; exact ⟨h.1, m⟩
    · dsimp only; rw [if_neg e, if_neg (h.1 ▸ e)]; exact h
theorem KvR.app {κ : Type} {B : Bs} {H : Hp} {μ : Nat → Addr} {n : Nat} {k : κ} {v : V} {d : FV} (m : VR B H μ n d v) : ∀ {ds : List (κ × FV)} {ws : List (κ × V)}, KvR B H μ n ds ws → KvR B H μ n (ds ++ [(k, d)]) (ws ++ [(k, v)])
  | _, _, .nil => .cons ⟨rfl, m⟩ .nil
  | _, _, .cons h t => .cons h (KvR.app m t)
theorem KvR.put {B : Bs} {H : Hp} {μ : Nat → Addr} {n : Nat} {k : Key} {v : V} {d : FV} {ds : List (Key × FV)} {ws : List (Key × V)} (m : VR B H μ n d v) (h : KvR B H μ n ds ws) : KvR B H μ n (putF ds k d) (putK ws k v) := by
  unfold putK putF
  rw [h.any k]
  split
  · exact h.map m
  · exact h.app m
/-- d[k] = e, the slot's own dict -/
def gPutK (kvs : List (Key × FV)) (k : RV) (v : FV) : Option (List (Key × FV)) := match k with
  | .v d => match d.key with
    | some kk => if kvs.length < LIM then some (putF kvs kk v) else none
    | none => none
  | _ => none
def oPut (kvs : List (Key × FV)) (k : RV) (v : FV) : M (List (Key × FV)) := lift fun _ => gPutK kvs k v
/-- xs[i] = e, the slot's own list -/
def gSetI (ds : List FV) (k : RV) (v : FV) : Option (List FV) := match k with
  | .v (.int j) => match ixN ds.length j with
    | some n => some (ds.set n v)
    | none => none
  | _ => none
def oSetI (ds : List FV) (k : RV) (v : FV) : M (List FV) := lift fun _ => gSetI ds k v
theorem PoN.lift {δ : Type} {B : Bs} {μ : Nat → Addr} {n : Nat} {H : Hp} {D : Ends} {o : FH → Option δ} {h : FH} {k : δ → M (Fl α β)} (p : PoN B E μ n H D W Γx eα eβ (P.bnd (P.lift o) k h)) : ∃ d, o h = some d ∧ PoN B E μ n H D W Γx eα eβ (k d h) := by
  unfold P.bnd P.lift at p
  cases q : o h with
  | none => rw [q] at p; exact p.elim
  | some d => rw [q] at p; exact ⟨d, rfl, p⟩
theorem jb_dput (j : Nat) {kvs : List (Key × FV)} {x : Str} {ppos : Pos} {Γ' : List (Key × FV) → Sl} {kk : List (Key × FV) → M (Fl α β)} (hr : Room k X.A) (w : SubX Γx Γ) (he : JE X W E Γ e fe) (hi : JE X W E Γ i fi) (hk : ∀ d, JB X W E Γx eα eβ (Γ' d) rest (kk d)) (q : sg Γ j = some (.d kvs) := by rfl) (hΓ : ∀ d, Γ.set j (some (.d d)) = Γ' d := by intro _; rfl)
    (hN : X.N[j]? = some x := by rfl) (hv : Vis X.env.scope x := by first | exact Or.inl rfl | exact Or.inr (Or.inl rfl) | exact Or.inr (Or.inr rfl)) (hd : (x == ("__debug__" : Str)) = false := by decide) (hcd : (x == ("__classdict__" : Str)) = false := by decide)
    (hp : ∀ {to ti te : TE}, PE X (.Name x px) to → PE X i ti → PE X e te → PS X (.Assign [.Subscript (.Name x px) i ppos] e pos) (tAsg te (gSub to ti rSetG)) := by
      intro to ti te h1 h2 h3; exact ps_asg h3 (pg_sub h1 h2 (set_g (hu_of (by assumption))))) :
    JB X W E Γx eα eβ Γ (.Assign [.Subscript (.Name x px) i ppos] e pos :: rest) (bnd (mV fe) fun v => bnd fi fun k => bnd (oPut kvs k v) kk) := fun μ h σ H D s p =>
  wcons (wS.of (hp (pe_var hN hv hd hcd) pe_w pe_w) (PoN.val he s w p fun v h1 μ1 H1 u sw s1 v1 p1 => by
    have eq := sg_get q
    obtain ⟨u0, h1', _⟩ := s1.sl j _ eq
    refine ⟨u0, h1', hi μ1 h1 σ H1 _ s1 (Po.mono (PoN.bnd s1 w p1) fun iv h2 μ2 H2 eq2 s2 hr2 p2 ui rui => ?_)⟩
    obtain ⟨s3, p3⟩ := p2
    obtain ⟨u', k1, k2⟩ := s3.sl j _ eq
    rw [h1'] at k1; cases k1
    obtain ⟨p', ws, rfl, f', a', b'⟩ := own_d k2
    have v3 := s2.vr v1
    obtain ⟨kv, z, p4⟩ := p3.lift
    unfold gPutK at z
    split at z
    · rename_i d
      split at z
      · rename_i kk0 qk
        split at z
        · rename_i hl
          cases z
          have eu := key_ok rui qk
          subst eu
          refine .inr ⟨p', _, rfl, DPut.k a' (by rw [b'.len]; exact lim_lt hl), ?_⟩
          have mu : Mut (H2 p') := by rw [a']; trivial
          have g := gw_mut (o := .dK (putK ws kk0 u)) mu
          have s4 := s3.chg (o := .dK (putK ws kk0 u)) (r' := .d (putF kvs kk0 v)) rfl eq h1' f'.1 f'.2 mu (.d f' upd_same ((b'.put v3).mono g (fun _ _ => rfl) (Nat.le_refl _)))
          rw [hΓ] at s4
          exact hk (putF kvs kk0 v) μ2 _ σ _ D s4 (PoN.at' p4 (StW.of g))
        · cases z
      · cases z
    · cases z))
theorem jb_lput (j : Nat) {ds : List FV} {x : Str} {ppos : Pos} {Γ' : List FV → Sl} {kk : List FV → M (Fl α β)} (hr : Room k X.A) (w : SubX Γx Γ) (he : JE X W E Γ e fe) (hi : JE X W E Γ i fi) (hk : ∀ d, JB X W E Γx eα eβ (Γ' d) rest (kk d)) (q : sg Γ j = some (.l ds) := by rfl) (hΓ : ∀ d, Γ.set j (some (.l d)) = Γ' d := by intro _; rfl)
    (hN : X.N[j]? = some x := by rfl) (hv : Vis X.env.scope x := by first | exact Or.inl rfl | exact Or.inr (Or.inl rfl) | exact Or.inr (Or.inr rfl)) (hd : (x == ("__debug__" : Str)) = false := by decide) (hcd : (x == ("__classdict__" : Str)) = false := by decide)
    (hp : ∀ {to ti te : TE}, PE X (.Name x px) to → PE X i ti → PE X e te → PS X (.Assign [.Subscript (.Name x px) i ppos] e pos) (tAsg te (gSub to ti rSetG)) := by
      intro to ti te h1 h2 h3; exact ps_asg h3 (pg_sub h1 h2 (set_g (hu_of (by assumption))))) :
    JB X W E Γx eα eβ Γ (.Assign [.Subscript (.Name x px) i ppos] e pos :: rest) (bnd (mV fe) fun v => bnd fi fun k => bnd (oSetI ds k v) kk) := fun μ h σ H D s p =>
  wcons (wS.of (hp (pe_var hN hv hd hcd) pe_w pe_w) (PoN.val he s w p fun v h1 μ1 H1 u sw s1 v1 p1 => by
    have eq := sg_get q
    obtain ⟨u0, h1', _⟩ := s1.sl j _ eq
    refine ⟨u0, h1', hi μ1 h1 σ H1 _ s1 (Po.mono (PoN.bnd s1 w p1) fun iv h2 μ2 H2 eq2 s2 hr2 p2 ui rui => ?_)⟩
    obtain ⟨s3, p3⟩ := p2
    obtain ⟨u', k1, k2⟩ := s3.sl j _ eq
    rw [h1'] at k1; cases k1
    obtain ⟨p', xs, rfl, f', a', b'⟩ := own_l k2
    have v3 := s2.vr v1
    obtain ⟨kv, z, p4⟩ := p3.lift
    unfold gSetI at z
    split at z
    · rename_i jj
      split at z
      · rename_i nn qk
        cases z
        refine .inl ⟨p', xs, jj, nn, rfl, rr_int rui, a', by rw [b'.len]; exact qk, ?_⟩
        have mu : Mut (H2 p') := by rw [a']; trivial
        have g := gw_mut (o := .lst (xs.set nn u)) mu
        have s4 := s3.chg (o := .lst (xs.set nn u)) (r' := .l (ds.set nn v)) rfl eq h1' f'.1 f'.2 mu (.l f' upd_same (VRs.mono g (fun _ _ => rfl) (Nat.le_refl _) _ _ (b'.set nn v3)))
        rw [hΓ] at s4
        exact hk (ds.set nn v) μ2 _ σ _ D s4 (PoN.at' p4 (StW.of g))
      · cases z
    · cases z))
/-! ### .. of objects with numbers -/
def gSet (v : FV) (x i : RV) (h : FH) : Option FH := match x, i with
  | .v (.ref m), .v d => match h[m]? with
    | some (.lst ds) => match d with
      | .int j => (ixN ds.length j).map fun n => h.set m (.lst (ds.set n v))
      | _ => none
    | some (.dK kvs) => match d.key with
      | some kk => if kvs.length < LIM then some (h.set m (.dK (putF kvs kk v))) else none
      | none => none
    | _ => none
  | _, _ => none
def oSet (v : FV) (x i : RV) : M Unit := fun h => match gSet v x i h with
  | some h' => .ok () h'
  | none => .no
theorem jb_put {ppos : Pos} {kk : M (Fl α β)} (hr : Room k X.A) (w : SubX Γx Γ) (he : JE X W E Γ e fe) (ho : JE X W E Γ o fo) (hi : JE X W E Γ i fi) (hk : JB X W E Γx eα eβ Γ rest kk)
    (hp : ∀ {to ti te : TE}, PE X o to → PE X i ti → PE X e te → PS X (.Assign [.Subscript o i ppos] e pos) (tAsg te (gSub to ti rSetG)) := by
      intro to ti te h1 h2 h3; exact ps_asg h3 (pg_sub h1 h2 (set_g (hu_of (by assumption))))) :
    JB X W E Γx eα eβ Γ (.Assign [.Subscript o i ppos] e pos :: rest) (bnd (mV fe) fun v => bnd fo fun x => bnd fi fun y => bnd (oSet v x y) fun _ => kk) := fun μ h σ H D s p =>
  wcons (wS.of (hp pe_w pe_w pe_w) (PoN.val he s w p fun v h1 μ1 H1 u sw s1 v1 p1 => by
    refine ho μ1 h1 σ H1 _ s1 (Po.mono (PoN.bnd s1 w p1) fun x h3 μ3 H3 eq3 s3 hr3 p3 ux rux => ?_)
    obtain ⟨sr3, p3⟩ := p3
    refine hi μ3 h3 σ H3 _ sr3 (Po.mono (PoN.bnd sr3 w p3) fun iv h4 μ4 H4 eq4 s4 hr4 p4 ui rui => ?_)
    obtain ⟨sr4, p4⟩ := p4
    have v4 := s4.vr (s3.vr v1)
    have rx4 := rux.step s4
    unfold P.bnd oSet at p4
    cases z : gSet v x iv h4 with
    | none => rw [z] at p4; exact p4.elim
    | some h5 =>
      rw [z] at p4
      unfold gSet at z
      split at z
      · rename_i m dd
        obtain ⟨rfl, lm⟩ := ref_inv rx4
        split at z
        · rename_i ds q
          split at z
          · rename_i j
            cases qj : ixN ds.length j with
            | none => rw [qj] at z; cases z
            | some n =>
              rw [qj] at z
              cases z
              obtain ⟨xs, h6, h7⟩ := hr4.lst q
              have mu : Mut (H4 (μ4 m)) := by rw [h6]; trivial
              refine .inl ⟨μ4 m, xs, j, n, rfl, rr_int rui, h6, by rw [h7.len]; exact qj, ?_⟩
              have st : Step μ4 h4.length H4 μ4 (h4.set m (.lst (ds.set n v))).length (upd H4 (μ4 m) (.lst (xs.set n u))) := by rw [List.length_set]; exact Step.mut lm mu
              have hr5 := hr4.set (o := .lst (ds.set n v)) (u := .lst (xs.set n u)) lm ⟨_, upd_same, VRs.mono (gw_mut mu) (fun _ _ => rfl) (Nat.le_refl _) _ _ (h7.set n v4)⟩
              exact hk μ4 _ σ _ D (sr4.step st hr5) (PoN.at' p4 st.w)
          · cases z
        · rename_i kvs q
          split at z
          · rename_i kk qk
            split at z
            · rename_i hl
              cases z
              obtain ⟨ws, h6, h7⟩ := hr4.at' m _ q
              have mu : Mut (H4 (μ4 m)) := by rw [h6]; trivial
              have eu := key_ok rui qk
              subst eu
              refine .inr ⟨μ4 m, _, rfl, DPut.k h6 (by rw [h7.len]; exact lim_lt hl), ?_⟩
              have st : Step μ4 h4.length H4 μ4 (h4.set m (.dK (putF kvs kk v))).length (upd H4 (μ4 m) (.dK (putK ws kk u))) := by rw [List.length_set]; exact Step.mut lm mu
              have hr5 := hr4.set (o := .dK (putF kvs kk v)) (u := .dK (putK ws kk u)) lm ⟨_, upd_same, (h7.put v4).mono (gw_mut mu) (fun _ _ => rfl) (Nat.le_refl _)⟩
              exact hk μ4 _ σ _ D (sr4.step st hr5) (PoN.at' p4 st.w)
            · cases z
          · cases z
        · cases z
      · cases z))
/-! ### all, any, sum of lists -/
/-! ### dict(d), {k: v, ..} -/
def gDict (x : RV) (h : FH) : Option RV := match x.dict h with
  | some kvs => some (.d kvs)
  | none => none
def keyOf {β : Type} (d : FV) (k : Key → M β) : M β := match d.key with
  | some kk => k kk
  | none => fail
def mergeF (kvs more : List (Key × FV)) : List (Key × FV) := more.foldl (fun acc kv => putF acc kv.1 kv.2) kvs
def oDis (kvs : List (Key × FV)) : M RV := if kvs.length ≤ 15 then pur (.d (mergeF [] kvs)) else fail
/-! ### the module's tuples of texts, dicts of texts -/
/-! ### the module's dicts of texts -/
/-! ### a.join(xs) -/
def oStr (x : RV) : M Unit := match x with | .v (.str _) => pur () | _ => fail
/-! ### d.get(k, e) -/
def isDk (x : RV) (h : FH) : Bool := (x.dict h).isSome
def oDk (x : RV) : M Unit := fun h => if isDk x h = true then .ok () h else .no
def gGet (x : RV) (y z : FV) (h : FH) : Option FV := match x.dict h, y.key with
  | some kvs, some k => some ((lookK kvs k).getD z)
  | _, _ => none
def oGet (x : RV) (y z : FV) : M RV := lift fun h => (gGet x y z h).map .v
/-! ### x += e -/
/-! ### default values -/
/-- a def called without its last arguments, whose values are ds -/
structure HasD (P : Program) (w : World) (K : PySem.W.Frag) (mg : Str → Option Value) (base : Heap) (n : Nat) (x : Str) (ps : List Str) (ds : List FV) (f : FDef) : Prop where
  ex : ∃ a fd dvs us, FnOk P w K mg base (L2.CX P w) n a fd ps (spP ⟨K, mg⟩ f) ∧ mg x = some (.ref a) ∧ PySem.W.keepIn K (.ref a) = true ∧ Binds K fd ps us ∧ Vals dvs us ∧ ∀ B H μ n, B.K = K → VRs B H μ n ds dvs
end
end P
/-! P: defs, the end of a law. -/
namespace P
open PySem PySem.Spec PyProof.Rows L2 G
/-! ### defs -/
theorem Sub.rep : ∀ {Γ : Sl} {n : Nat}, Γ.length = n → Sub (List.replicate n none) Γ
  | [], _, e => by cases e; exact .nil
  | x :: Γ, _, e => by cases e; exact .drop (Sub.rep rfl)
abbrev eU (n : Nat) : Unit → Sl := fun _ => List.replicate n none
abbrev eN : Empty → Sl := fun _ => []
/-- a def by its body -/
def toF (m : M (Fl Unit Empty)) : M RV := bnd m fun f => match f with
  | .nx _ => pur (.v .non)
  | .rt r => pur r
  | .bk b => nomatch b
  | .ct b => nomatch b
def gam (ds : List FV) (nL : Nat) : Sl := ds.map (fun d => some (.v d)) ++ List.replicate nL none
theorem SR.start {B : Bs} {H : Hp} {μ : Nat → Addr} {h : FH} {ds : List FV} {vs : List V} {N : List Str} {nL : Nat} (hr : HR B μ h H) (r : VRs B H μ h.length ds vs) (hN : N.length - vs.length = nL) : SR B ⟨μ, h.length, H⟩ μ (gam ds nL) h (L2.start N vs) H := by
  have key : ∀ {ds : List FV} {vs : List V}, VRs B H μ h.length ds vs → ∀ (i : Nat) (r : RV), (gam ds nL)[i]? = some (some r) → ∃ v, r = .v v ∧ ∃ u, (vs.map some ++ List.replicate nL none)[i]? = some (some u) ∧ VR B H μ h.length v u := by
    intro ds
    induction ds with
    | nil =>
      intro vs r i v e
      cases r
      unfold gam at e
      rw [List.map_nil, List.nil_append, List.getElem?_replicate] at e
      split at e <;> cases e
    | cons d ds ih =>
      intro vs r i v e
      cases r with
      | cons a b =>
        cases i with
        | zero =>
          have e' : RV.v d = v := Option.some.inj (Option.some.inj e)
          subst e'
          exact ⟨d, rfl, _, rfl, a⟩
        | succ i => exact ih b i v e
  refine ⟨Step.refl _ _ _, hr, ?_, fun i r' e => ?_, fun i j r1 r2 p e1 e2 o1 => ?_⟩
  · unfold L2.start gam
    have := r.len
    simp only [List.length_append, List.length_map, List.length_replicate]
    omega
  · obtain ⟨v, rfl, u, h1, h2⟩ := key r i r' e
    unfold L2.start
    rw [hN]
    exact ⟨u, h1, .v h2⟩
  · obtain ⟨v, rfl, _⟩ := key r i r1 e1
    cases o1
section
variable {P : Program} {w : World} {K : PySem.W.Frag} {mg : Str → Option Value} {base : Heap} {x qual : Str} {st : Stmt} {a : Addr} {fd : FuncData} {N ps : List Str} {k n : Nat} {f : FDef} {b : List FV → M (Fl Unit Empty)} {params : Arguments} {body : List Stmt} {scope : Scope} {dvs : List V} {kws : List (Str × V)}
abbrev CxP (P : Program) (w : World) (K : PySem.W.Frag) (mg : Str → Option Value) (base : Heap) (N : List Str) (qual : Str) (scope : Scope) (f : Addr) (cdv : Value) (A : Around) (outer : List Env) (s : Shared) (H : Hp) (E : XK) : Cx :=
  cxOf (L2.CX P w) P w K mg base N qual scope f cdv A outer s H E
/-- f on ds is the body's block, or nothing is said -/
def ArgOk (f : FDef) (b : List FV → M (Fl Unit Empty)) (nP : Nat) (φ : List FV → Prop) : Prop := ∀ ds, f ds = fail ∨ (ds.length = nP ∧ f ds = toF (b ds) ∧ φ ds)
theorem spP_len {nP : Nat} {φ : List FV → Prop} (ao : ArgOk f b nP φ) {vs : List V} {H : Hp} {Q : VK} {E : XK} (q : spP ⟨K, mg⟩ f vs H Q E) : vs.length = nP := by
  obtain ⟨μ, h, ds, hr, r, p⟩ := q
  rcases ao ds with z | ⟨z, _, _⟩
  · rw [z] at p; exact p.elim
  · rw [r.len, z]
theorem fn_run {X : Cx} {nP nL : Nat} {W : WX} {outW : XK} (hK : X.K = K) (hmg : X.mg = mg) (hW : W = fun cls d _ H => outW cls d H) {sts : List Stmt} {vs : List V} {H : Hp} {Q : VK} {E : XK} (hE : outW = E) (ao : ArgOk f b nP fun ds => ∀ E : Ent, JB X W E none (eU (nP + nL)) eN (gam ds nL) sts (b ds)) (hN : X.N.length - nP = nL)
    (q : spP ⟨K, mg⟩ f vs H Q E) : wSs X sts { nx := fun _ H' => Q .non H', rt := Q, bk := fun _ _ => False, ct := fun _ _ => False } (L2.start X.N vs) H := by
  have hl := spP_len ao q
  subst hK hmg hW hE
  obtain ⟨μ, h, ds, hh, r, p⟩ := q
  rcases ao ds with z | ⟨hd, z, jb⟩
  · rw [z] at p; exact p.elim
  · rw [z] at p
    refine jb ⟨μ, h.length, H⟩ μ h _ H _ (SR.start hh r (by rw [hl]; exact hN)) ?_
    unfold toF P.bnd at p
    cases y : b ds h with
    | no => rw [y] at p; exact p
    | ex e h' =>
      rw [y] at p
      exact fun μ' σ' H' c d _ s' x' => p μ' H' c d s'.1 s'.2 x'
    | ok fl h' =>
      rw [y] at p
      cases fl with
      | nx u => exact fun μ' σ' H' _ s' => p μ' H' s'.st s'.hr .non (.v .non)
      | rt rv => exact fun μ' H' u _ s' hr' ru => p μ' H' s' hr' u ru
      | bk e => cases e
      | ct e => cases e
def f0 (g : M RV) : FDef := fun vs => match vs with | [] => g  | _ => fail
def b0 (g : M (Fl Unit Empty)) : List FV → M (Fl Unit Empty) := fun vs => match vs with | [] => g  | _ => fail
def f1 (g : FV → M RV) : FDef := fun vs => match vs with | [a0] => g a0 | _ => fail
def b1 (g : FV → M (Fl Unit Empty)) : List FV → M (Fl Unit Empty) := fun vs => match vs with | [a0] => g a0 | _ => fail
theorem arg1 {g : FV → M (Fl Unit Empty)} {φ : List FV → Prop} (h : ∀ a0, φ [a0]) : ArgOk (f1 (fun a0 => toF (g a0))) (b1 g) 1 φ := fun ds => by
  cases ds with
  | nil => exact .inl rfl
  | cons a0 ds0 =>
    cases ds0 with
    | nil => exact .inr ⟨rfl, rfl, h a0⟩
    | cons _ _ => exact .inl rfl
def f2 (g : FV → FV → M RV) : FDef := fun vs => match vs with | [a0, a1] => g a0 a1 | _ => fail
def b2 (g : FV → FV → M (Fl Unit Empty)) : List FV → M (Fl Unit Empty) := fun vs => match vs with | [a0, a1] => g a0 a1 | _ => fail
theorem arg2 {g : FV → FV → M (Fl Unit Empty)} {φ : List FV → Prop} (h : ∀ a0 a1, φ [a0, a1]) : ArgOk (f2 (fun a0 a1 => toF (g a0 a1))) (b2 g) 2 φ := fun ds => by
  cases ds with
  | nil => exact .inl rfl
  | cons a0 ds0 =>
    cases ds0 with
    | nil => exact .inl rfl
    | cons a1 ds1 =>
      cases ds1 with
      | nil => exact .inr ⟨rfl, rfl, h a0 a1⟩
      | cons _ _ => exact .inl rfl
def f3 (g : FV → FV → FV → M RV) : FDef := fun vs => match vs with | [a0, a1, a2] => g a0 a1 a2 | _ => fail
def b3 (g : FV → FV → FV → M (Fl Unit Empty)) : List FV → M (Fl Unit Empty) := fun vs => match vs with | [a0, a1, a2] => g a0 a1 a2 | _ => fail
theorem arg3 {g : FV → FV → FV → M (Fl Unit Empty)} {φ : List FV → Prop} (h : ∀ a0 a1 a2, φ [a0, a1, a2]) : ArgOk (f3 (fun a0 a1 a2 => toF (g a0 a1 a2))) (b3 g) 3 φ := fun ds => by
  cases ds with
  | nil => exact .inl rfl
  | cons a0 ds0 =>
    cases ds0 with
    | nil => exact .inl rfl
    | cons a1 ds1 =>
      cases ds1 with
      | nil => exact .inl rfl
      | cons a2 ds2 =>
        cases ds2 with
        | nil => exact .inr ⟨rfl, rfl, h a0 a1 a2⟩
        | cons _ _ => exact .inl rfl
def f4 (g : FV → FV → FV → FV → M RV) : FDef := fun vs => match vs with | [a0, a1, a2, a3] => g a0 a1 a2 a3 | _ => fail
def b4 (g : FV → FV → FV → FV → M (Fl Unit Empty)) : List FV → M (Fl Unit Empty) := fun vs => match vs with | [a0, a1, a2, a3] => g a0 a1 a2 a3 | _ => fail
def f5 (g : FV → FV → FV → FV → FV → M RV) : FDef := fun vs => match vs with | [a0, a1, a2, a3, a4] => g a0 a1 a2 a3 a4 | _ => fail
def b5 (g : FV → FV → FV → FV → FV → M (Fl Unit Empty)) : List FV → M (Fl Unit Empty) := fun vs => match vs with | [a0, a1, a2, a3, a4] => g a0 a1 a2 a3 a4 | _ => fail
def f6 (g : FV → FV → FV → FV → FV → FV → M RV) : FDef := fun vs => match vs with | [a0, a1, a2, a3, a4, a5] => g a0 a1 a2 a3 a4 a5 | _ => fail
def b6 (g : FV → FV → FV → FV → FV → FV → M (Fl Unit Empty)) : List FV → M (Fl Unit Empty) := fun vs => match vs with | [a0, a1, a2, a3, a4, a5] => g a0 a1 a2 a3 a4 a5 | _ => fail
def f7 (g : FV → FV → FV → FV → FV → FV → FV → M RV) : FDef := fun vs => match vs with | [a0, a1, a2, a3, a4, a5, a6] => g a0 a1 a2 a3 a4 a5 a6 | _ => fail
def b7 (g : FV → FV → FV → FV → FV → FV → FV → M (Fl Unit Empty)) : List FV → M (Fl Unit Empty) := fun vs => match vs with | [a0, a1, a2, a3, a4, a5, a6] => g a0 a1 a2 a3 a4 a5 a6 | _ => fail
def f8 (g : FV → FV → FV → FV → FV → FV → FV → FV → M RV) : FDef := fun vs => match vs with | [a0, a1, a2, a3, a4, a5, a6, a7] => g a0 a1 a2 a3 a4 a5 a6 a7 | _ => fail
def b8 (g : FV → FV → FV → FV → FV → FV → FV → FV → M (Fl Unit Empty)) : List FV → M (Fl Unit Empty) := fun vs => match vs with | [a0, a1, a2, a3, a4, a5, a6, a7] => g a0 a1 a2 a3 a4 a5 a6 a7 | _ => fail
def f9 (g : FV → FV → FV → FV → FV → FV → FV → FV → FV → M RV) : FDef := fun vs => match vs with | [a0, a1, a2, a3, a4, a5, a6, a7, a8] => g a0 a1 a2 a3 a4 a5 a6 a7 a8 | _ => fail
def b9 (g : FV → FV → FV → FV → FV → FV → FV → FV → FV → M (Fl Unit Empty)) : List FV → M (Fl Unit Empty) := fun vs => match vs with | [a0, a1, a2, a3, a4, a5, a6, a7, a8] => g a0 a1 a2 a3 a4 a5 a6 a7 a8 | _ => fail
def f10 (g : FV → FV → FV → FV → FV → FV → FV → FV → FV → FV → M RV) : FDef := fun vs => match vs with | [a0, a1, a2, a3, a4, a5, a6, a7, a8, a9] => g a0 a1 a2 a3 a4 a5 a6 a7 a8 a9 | _ => fail
def b10 (g : FV → FV → FV → FV → FV → FV → FV → FV → FV → FV → M (Fl Unit Empty)) : List FV → M (Fl Unit Empty) := fun vs => match vs with | [a0, a1, a2, a3, a4, a5, a6, a7, a8, a9] => g a0 a1 a2 a3 a4 a5 a6 a7 a8 a9 | _ => fail
theorem mk_fnP {nP nL : Nat} (F : Fun K x qual st a fd) (S : FnScope N ps (defScope st)) (h1 : ps.length = nP) (h2 : N.length - nP = nL) (hn : ArgOk f b nP fun _ => True)
    (ao : ∀ cdv A outer s H E, Room k (A.deeper (envOfC qual (defScope st) s.heap.objs.size a cdv)) → ArgOk f b nP fun ds => ∀ E' : Ent, JB (CxP P w K mg base N qual (defScope st) a cdv A outer s H E) (fun cls d _ H => E cls d H) E' none (eU (nP + nL)) eN (gam ds nL) (defBody st) (b ds)) :
    FnOk P w K mg base (L2.CX P w) (k + 1) a fd ps (spP ⟨K, mg⟩ f) :=
  F.okX S (fun vs H Q E q => (spP_len hn q).trans h1.symm) fun cdv A outer s H vs Q E hr q => ⟨_, pss_w, fn_run rfl rfl rfl rfl (ao cdv A outer s H E hr) h2 q⟩
theorem mk_hasF (F : Fun K x qual st a fd) (G : FnOk P w K mg base (L2.CX P w) n a fd ps (spP ⟨K, mg⟩ f)) (hm : mg x = some (.ref a)) (b : L2.Binds K fd ps []) : HasF P w K mg base n x ps f := ⟨a, fd, G, hm, F.kp, b⟩
theorem HasF.mono (h : HasF P w K mg base k x ps f) (l : k ≤ n) : HasF P w K mg base n x ps f := by
  obtain ⟨a, fd, G, e⟩ := h.ex
  exact ⟨a, fd, G.mono l, e⟩
theorem HasD.mono {ds : List FV} (h : HasD P w K mg base k x ps ds f) (l : k ≤ n) : HasD P w K mg base n x ps ds f := by
  obtain ⟨a, fd, d, u, G, e⟩ := h.ex
  exact ⟨a, fd, d, u, G.mono l, e⟩
/-! no def: nothing is said -/
def fNo : FDef := fun _ => fail
theorem hasNo {a : Addr} {fd : FuncData} (hm : mg x = some (.ref a)) (k : PySem.W.keepIn K (.ref a) = true) (b : L2.Binds K fd ps []) : HasF P w K mg base n x ps fNo :=
  ⟨a, fd, ⟨fun vs H Q E ⟨_, _, _, _, _, p⟩ => p.elim, fun _ _ _ _ _ _ _ _ _ _ _ _ _ ⟨_, _, _, _, _, p⟩ => p.elim⟩, hm, k, b⟩
theorem te_own {X : Cx} {E : XK} (tk : Takes X (fun c d _ H => E c d H)) : TkE X (fun c d _ H => E c d H) := ⟨E, fun _ _ _ _ h => h, passes_call tk fun _ _ _ _ h => h⟩
end
/-! ### the end of a law -/
theorem vrs_ints {B : Bs} {H : Hp} {μ : Nat → Addr} {n : Nat} : ∀ ns : List Int, VRs B H μ n (ns.map FV.int) (ns.map V.int)
  | [] => .nil
  | i :: ns => .cons (.int i) (vrs_ints ns)
def spLaw (K : PySem.W.Frag) : Sp := fun vs H Q _ => ∃ (a : Addr) (ns : List Int), vs = [.ref a] ∧ ns.length ≤ 63 ∧ FzL K H a (ns.map V.int) ∧ ∀ H', Q (.bl true) H'
theorem spLaw_to {K : PySem.W.Frag} {mg : Str → Option Value} {f : FDef} (hf : ∀ ns : List Int, ns.length ≤ 63 → ∃ h', f [.sl (ns.map .int)] [] = .ok (.v (.bl true)) h') {vs : List V} {H : Hp} {Q : VK} {E : XK} (q : spLaw K vs H Q E) : spP ⟨K, mg⟩ f vs H Q E := by
  obtain ⟨a, ns, rfl, hl, hq, k⟩ := q
  obtain ⟨h', e⟩ := hf ns hl
  refine ⟨fun _ => 0, [], [.sl (ns.map .int)], ⟨(fun i o z => by cases z), fun i j z => absurd z (Nat.not_lt_zero _)⟩, .cons (.sl hq (vrs_ints ns)) .nil, ?_⟩
  rw [e]
  intro μ' H' s hr u ru
  cases ru with
  | v r => cases r; exact k H'
theorem walkP {l : PySem.W.OpenLaw} {q : Program} {loose : List Str} {XP : (Str → Option Value) → Heap → Prop} {YP : World → Heap → Prop} {d : DefRec} {K : Params → PySem.W.Frag} {k : Nat} {f : FDef} (hn : l.most = some 63) (hdf : d.params.defaults = [])
    (hY : ∀ (w : World) (h : Heap), YP w h → (K w.params).In h) (hr : Room k callerA)
    (F : ∀ (w : World) (mg : Str → Option Value) (fa : Addr) (h : Heap), (K w.params).In h → h.Ns mainGlobals mg → mg d.name = some (.ref fa) →
      ∃ fd : FuncData, (∀ (s : Shared) (u : Value), BindsTo s fd ⟨[u], []⟩ [("_law_script", u)]) ∧ ∀ base : Heap, (K w.params).In base → base.Ns mainGlobals mg → FnOk l.prog w (K w.params) mg base (L2.CX l.prog w) k fa fd ["_law_script"] (spP ⟨K w.params, mg⟩ f))
    (hf : ∀ ns : List Int, ns.length ≤ 63 → ∃ h', f [.sl (ns.map .int)] [] = .ok (.v (.bl true)) h') :
    PySem.W.WalkO q loose XP YP l.row.toRowW d [] (fun f vs => PySem.call f vs) :=
  L2.walk_of (n := 63) (k := k) (x := "_law_script") (CX := fun w => L2.CX l.prog w) (sp := fun w => spLaw (K w.params)) hn (by decide) hdf hr hY (fun w mg fa h a b c => by
    obtain ⟨fd, h1, h2⟩ := F w mg fa h a b c
    exact ⟨fd, h1, fun base x y => (h2 base x y).imp fun vs H Q E z => spLaw_to hf z⟩) (fun w H a ns hl ho hs => ⟨a, ns, rfl, hl, by
      rcases hs with (hs | hs) | hs
      · rcases ho a with z | ⟨o, xs, z⟩
        · rw [z] at hs; cases hs
        · rw [z] at hs; cases hs
      · exact .inl hs
      · exact .inr hs, fun _ => rfl⟩) fun w H s e s' h => by
    obtain ⟨_, _, _, _, _, _, _, _, _, _, _, _, z⟩ := h
    exact z.elim
end P
namespace P
open PySem PySem.Spec PyProof.Rows L2 G
theorem JTs.to {Y : Cx} {W : WX} {E : Ent} {Γ : Sl} {ifs : List Expr} {f g : M Bool} (p : JTs Y W E Γ ifs f) (q : ∀ h, f h = g h) : JTs Y W E Γ ifs g := by
  have : f = g := funext q
  exact this ▸ p
def FUEL : Nat := 1000000
section
variable {α β A : Type} {X : Cx} {W : WX} {E : Ent} {Γx : Option Sl} {eα : α → Sl} {eβ : β → Sl} {Γ Γ' : Sl} {tg iter : Expr} {pos : Pos} {rest body : List Stmt} {os : List Nat}
theorem jb_forS (eA : A → Sl) (a0 : A) {put : Sl → FV → Sl} {Γb : A → FV → Sl} {f : A → FV → M (Fl A A)} {src : M (List FV)} {k : A → M (Fl α β)} (w : SubX Γx Γ) (hp : PassesOwn (model X.prog X.w) X.A X.env X.xe) (hc : X.calm = true) (hi : JI X W E Γ tg iter src) (ht : JGt X tg os (some : FV → Option FV) put)
    (hb : ∀ a x, JB X W E Γx eA eA (Γb a x) body (f a x)) (h0 : Sub (eA a0) Γ) (hk : ∀ a, JB X W E Γx eα eβ (eA a) rest (k a)) (hΓ : ∀ a x, put (eA a) x = Γb a x := by intro _ _; rfl) (hs : ∀ x, foldedSetIterable iter X.env x = pure x := by intro _; rfl) :
    JB X W E Γx eα eβ Γ (.For tg iter body [] pos :: rest) (bnd src fun xs => seqN (forN f xs a0) k) := jb_for (b := some) (f := f) eA a0 w hp hc hi ht hb h0 hk hΓ hs
end
end P
/-! P: behind a call what it made is forgotten, but for its result. -/
namespace P
open PySem PySem.Spec PyProof.Rows L2 G
mutual
def FV.lowB (n : Nat) : FV → Bool
  | .ref i => decide (i < n)
  | .tup xs => FV.lowsB n xs
  | .fl xs => FV.lowsB n xs
  | .sl xs => FV.lowsB n xs
  | .fd _ xs => FV.lowsB n xs
  | .ft _ xs => FV.lowsB n xs
  | .fo _ _ xs => FV.lowsB n xs
  | .non => true
  | .bl _ => true
  | .int _ => true
  | .str _ => true
def FV.lowsB (n : Nat) : List FV → Bool
  | [] => true
  | x :: xs => x.lowB n && FV.lowsB n xs
end
mutual
theorem lowB_ok {n : Nat} : ∀ {d : FV}, d.lowB n = true → d.low n
  | .ref i, h => by simpa [FV.lowB, FV.low] using h
  | .tup xs, h => by simp only [FV.low]; exact lowsB_ok (by simpa [FV.lowB] using h)
  | .fl xs, h => by simp only [FV.low]; exact lowsB_ok (by simpa [FV.lowB] using h)
  | .sl xs, h => by simp only [FV.low]; exact lowsB_ok (by simpa [FV.lowB] using h)
  | .fd _ xs, h => by simp only [FV.low]; exact lowsB_ok (by simpa [FV.lowB] using h)
  | .ft _ xs, h => by simp only [FV.low]; exact lowsB_ok (by simpa [FV.lowB] using h)
  | .fo _ _ xs, h => by simp only [FV.low]; exact lowsB_ok (by simpa [FV.lowB] using h)
  | .non, _ => by simp [FV.low]
  | .bl _, _ => by simp [FV.low]
  | .int _, _ => by simp [FV.low]
  | .str _, _ => by simp [FV.low]
theorem lowsB_ok {n : Nat} : ∀ {ds : List FV}, FV.lowsB n ds = true → FV.lows n ds
  | [], _ => by simp [FV.lows]
  | d :: ds, h => by
    have h' : d.lowB n = true ∧ FV.lowsB n ds = true := by simpa [FV.lowsB] using h
    simp only [FV.lows]
    exact ⟨lowB_ok h'.1, lowsB_ok h'.2⟩
end
def lowKvB {κ : Type} (n : Nat) (kvs : List (κ × FV)) : Bool := FV.lowsB n (kvs.map (·.2))
def FO.lowB (n : Nat) : FO → Bool
  | .lst ds => FV.lowsB n ds
  | .dK kvs => lowKvB n kvs
  | .dT kvs => lowKvB n kvs
  | .ins _ fs => lowKvB n fs
  | .lk kvs => lowKvB n kvs
theorem FO.lowB_ok {n : Nat} {o : FO} (h : o.lowB n = true) : o.low n := by
  cases o <;> exact lowsB_ok h
/-- the result as it is when only the first n objects keep their numbers -/
def RV.cut (n : Nat) (h : FH) : RV → Option RV
  | .v (.ref i) => if i < n then some (.v (.ref i)) else match h[i]? with
    | some (.lst ds) => if FV.lowsB n ds = true then some (.l ds) else none
    | some (.dK kvs) => if lowKvB n kvs = true then some (.d kvs) else none
    | some (.dT kvs) => if lowKvB n kvs = true then some (.t kvs) else none
    | some (.ins c fs) => if lowKvB n fs = true then some (.o c fs) else none
    | _ => none
  | .v x => if x.lowB n = true then some (.v x) else none
  | .l ds => if FV.lowsB n ds = true then some (.l ds) else none
  | .d kvs => if lowKvB n kvs = true then some (.d kvs) else none
  | .t kvs => if lowKvB n kvs = true then some (.t kvs) else none
  | .o c fs => if lowKvB n fs = true then some (.o c fs) else none
  | _ => none
def cutR (n : Nat) (r : RV) (h : FH) : Rs RV :=
  if n < h.length ∧ (h.take n).all (·.lowB n) = true then match r.cut n h with
    | some r' => .ok r' (h.take n)
    | none => .ok r h
  else .ok r h
def gcM (m : M RV) : M RV := fun h => match m h with
  | .ok r h' => cutR h.length r h'
  | .ex x h' => .ex x h'
  | .no => .no
section
variable {B : Bs} {μ μ' : Nat → Addr} {n : Nat} {h h' : FH} {H H' : Hp} {r r' : RV} {u : V}
theorem cut_ok (s : Step μ n H μ' h'.length H') (hr : HR B μ' h' H') (m : RR B H μ' h'.length H' r u) (hn : n ≤ h'.length) (e : r.cut n h' = some r') : RR B H μ' n H' r' u := by
  have nd : ∀ {p : Addr}, Fre H μ' h'.length p → Fre H μ' n p := fun f => ⟨f.1, fun i hi => f.2 i (Nat.lt_of_lt_of_le hi hn)⟩
  have fr : ∀ {i : Nat}, i < h'.length → ¬ i < n → Fre H μ' n (μ' i) := fun {i} l z => ⟨s.new i (Nat.le_of_not_lt z) l, fun j hj q => z (hr.inj j i (Nat.lt_of_lt_of_le hj hn) l q ▸ hj)⟩
  unfold RV.cut at e
  split at e
  · rename_i i
    obtain ⟨rfl, lm⟩ := ref_inv m
    split at e
    · rename_i li
      cases e
      exact .v (.ref li)
    · rename_i li
      split at e
      · rename_i ds q
        split at e
        · rename_i hl
          cases e
          obtain ⟨xs, h1, h2⟩ := hr.at' i _ q
          exact .l (fr lm li) h1 (h2.low (lowsB_ok hl))
        · cases e
      · rename_i ds q
        split at e
        · rename_i hl
          cases e
          obtain ⟨xs, h1, h2⟩ := hr.at' i _ q
          exact .d (fr lm li) h1 (h2.low (lowsB_ok hl))
        · cases e
      · rename_i ds q
        split at e
        · rename_i hl
          cases e
          obtain ⟨xs, h1, h2⟩ := hr.at' i _ q
          exact .t (fr lm li) h1 (h2.low (lowsB_ok hl))
        · cases e
      · rename_i c ds q
        split at e
        · rename_i hl
          cases e
          obtain ⟨C, dx, xs, h0, h1, h2⟩ := hr.at' i _ q
          exact .o (fr lm li) h0 h1 (h2.low (lowsB_ok hl))
        · cases e
      · cases e
  · split at e
    · rename_i hl
      cases e
      cases m with
      | v q => exact .v (q.low (lowB_ok hl))
    · cases e
  · split at e
    · rename_i hl
      cases e
      cases m with
      | l f a b => exact .l (nd f) a (b.low (lowsB_ok hl))
    · cases e
  · split at e
    · rename_i hl
      cases e
      cases m with
      | d f a b => exact .d (nd f) a (b.low (lowsB_ok hl))
    · cases e
  · split at e
    · rename_i hl
      cases e
      cases m with
      | t f a b => exact .t (nd f) a (b.low (lowsB_ok hl))
    · cases e
  · split at e
    · rename_i hl
      cases e
      cases m with
      | o f z a b => exact .o (nd f) z a (b.low (lowsB_ok hl))
    · cases e
  · cases e
theorem gc_po {m : M RV} {Q : VK} {E : XK} (p : Po B μ h.length H (fun r h' μ' H' => ∀ u, RR B H μ' h'.length H' r u → Q u H') E (gcM m h)) :
    Po B μ h.length H (fun r h' μ' H' => ∀ u, RR B H μ' h'.length H' r u → Q u H') E (m h) := by
  unfold gcM at p
  cases q : m h with
  | no => rw [q] at p; exact p
  | ex x h' => rw [q] at p; exact p
  | ok r h' =>
    rw [q] at p
    dsimp only [] at p
    unfold cutR at p
    split at p
    · rename_i hc
      split at p
      · rename_i r' e
        intro μ' H' s hr u ru
        have hn : h.length ≤ h'.length := Nat.le_of_lt hc.1
        have l : (h'.take h.length).length = h.length := by rw [List.length_take, Nat.min_eq_left hn]
        have hr2 : HR B μ' (h'.take h.length) H' := hr.cut (fun o ho => FO.lowB_ok (List.all_eq_true.mp hc.2 o ho)) hn
        have s2 : Step μ h.length H μ' (h'.take h.length).length H' := by rw [l]; exact s.cut (Nat.le_refl _) hn
        refine (show ∀ μ' H', _ → _ → ∀ u, _ → Q u H' from p) μ' H' s2 hr2 u ?_
        rw [l]
        exact cut_ok s hr ru hn e
      · exact p
    · exact p
end
def gcF (f : FDef) : FDef := fun vs => gcM (f vs)
theorem gc_ok {B : Bs} {f : FDef} {vs : List V} {H : Hp} {Q : VK} {E : XK} (q : spP B (gcF f) vs H Q E) : spP B f vs H Q E := by
  obtain ⟨μ, h, ds, hr, r, p⟩ := q
  exact ⟨μ, h, ds, hr, r, gc_po p⟩
theorem gcM_pur (r : RV) : gcM (pur r) = pur r := by
  funext h
  show cutR h.length r h = _
  unfold cutR
  rw [if_neg (fun z => absurd z.1 (Nat.lt_irrefl _))]
  rfl
theorem gcF_eq {B : Bs} {f g : FDef} (e : ∀ ds, g ds = gcF f ds) {vs : List V} {H : Hp} {Q : VK} {E : XK} (q : spP B g vs H Q E) : spP B f vs H Q E := gc_ok (by have z : g = gcF f := funext e; exact z ▸ q)
theorem gc_f1 {B : Bs} {g : FV → M RV} {vs : List V} {H : Hp} {Q : VK} {E : XK} (q : spP B (f1 (fun a0 => gcM (g a0))) vs H Q E) : spP B (f1 g) vs H Q E := gcF_eq (f := f1 g) (g := f1 (fun a0 => gcM (g a0))) (fun ds => match ds with
  | [] => rfl
  | [_] => rfl
  | _ :: _ :: _ => rfl) q
theorem gc_f2 {B : Bs} {g : FV → FV → M RV} {vs : List V} {H : Hp} {Q : VK} {E : XK} (q : spP B (f2 (fun a0 a1 => gcM (g a0 a1))) vs H Q E) : spP B (f2 g) vs H Q E := gcF_eq (f := f2 g) (g := f2 (fun a0 a1 => gcM (g a0 a1))) (fun ds => match ds with
  | [] => rfl
  | [_] => rfl
  | [_, _] => rfl
  | _ :: _ :: _ :: _ => rfl) q
theorem gc_f3 {B : Bs} {g : FV → FV → FV → M RV} {vs : List V} {H : Hp} {Q : VK} {E : XK} (q : spP B (f3 (fun a0 a1 a2 => gcM (g a0 a1 a2))) vs H Q E) : spP B (f3 g) vs H Q E := gcF_eq (f := f3 g) (g := f3 (fun a0 a1 a2 => gcM (g a0 a1 a2))) (fun ds => match ds with
  | [] => rfl
  | [_] => rfl
  | [_, _] => rfl
  | [_, _, _] => rfl
  | _ :: _ :: _ :: _ :: _ => rfl) q
theorem fNo_f1 : f1 (fun _ => fail) = fNo := funext fun ds => match ds with
  | [] => rfl
  | [_] => rfl
  | _ :: _ :: _ => rfl
theorem fNo_f2 : f2 (fun _ _ => fail) = fNo := funext fun ds => match ds with
  | [] => rfl
  | [_] => rfl
  | [_, _] => rfl
  | _ :: _ :: _ :: _ => rfl
theorem fNo_f3 : f3 (fun _ _ _ => fail) = fNo := funext fun ds => match ds with
  | [] => rfl
  | [_] => rfl
  | [_, _] => rfl
  | [_, _, _] => rfl
  | _ :: _ :: _ :: _ :: _ => rfl
theorem hasNo_of {P : Program} {w : World} {K : PySem.W.Frag} {mg : Str → Option Value} {base : Heap} {n : Nat} {x : Str} {ps : List Str} {f : FDef} {a : Addr} {fd : FuncData} (e : f = fNo) (hm : mg x = some (.ref a)) (k : PySem.W.keepIn K (.ref a) = true) (b : L2.Binds K fd ps []) : HasF P w K mg base n x ps f := e ▸ hasNo hm k b
end P
/-! P: dict comprehensions. -/
namespace P
open PySem PySem.Spec PyProof.Rows L2 G
end P
/-! P: more expressions. -/
namespace P
open PySem PySem.Spec PyProof.Rows L2 G
section
variable {α β γ δ : Type} {X : Cx} {W : WX} {E : Ent} {Γx : Option Sl} {eα : α → Sl} {eβ : β → Sl} {Γ Γ' : Sl} {e a b c o i f tg iter elt : Expr} {es : List Expr} {pos apos p0 p1 p2 px : Pos} {fe fo fi fa fb fc ff : M RV} {rest body : List Stmt} {os : List Nat} {n k : Nat} {scope : Scope} {src : M (List FV)}
theorem op_leS : OpR X (compareOp .LtE) (fun x y H Q => rI0 (fun i j => .bl (decide (i ≤ j))) x y H Q ∨ ∃ i j, x = .str i ∧ y = .str j ∧ Q (.bl (!decide (j.cps.toList < i.cps.toList))) H) := OpR.or op_le op_le_str
theorem op_ltS : OpR X (compareOp .Lt) (fun x y H Q => rI0 (fun i j => .bl (decide (i < j))) x y H Q ∨ ∃ i j, x = .str i ∧ y = .str j ∧ Q (.bl (decide (i.cps.toList < j.cps.toList))) H) := OpR.or op_lt op_lt_str
end
end P
/-! P: ==, != and in where lists and dicts hold dicts. -/
namespace P.Q
open PySem PySem.SeqAt
open AutoSeq1 (wpAny_loadPart')
open MeetsSeq MeetsSeq2 MeetsSeq3 SeqRoads2
section
variable {prog : Program} {w : World}
/-- how a list's object stands -/
def At (s : Shared) (l : Addr) (dd : Option Addr) (its : Array Value) (n : Nat) (sl : Array (Option Value)) : Prop := s.heap.get? l = some { cls := .type "list", dict := dd, data := .seq its n, slots := sl }
theorem has_loop (l : Addr) (its : Array Value) (n : Nat) (dd : Option Addr) (sl : Array (Option Value)) (x : Value) (e : Nat → Bool) (k : Nat) :
    ∀ i : Nat, its.size - i = k → MeetsIn prog w (Builtin.«list.__contains__.loop» ⟨[.ref l, x, rawInt i], []⟩)
      (fun A R s => At s l dd its n sl ∧ (∀ j (h : j < its.size), EqP prog w A.in1 s its[j] x (e j)) ∧ R (.ok (.ret (.bool (((List.range its.size).drop i).any e)))) s) := by
  induction k with
  | zero =>
    intro i hk A R s ⟨hl, he, h⟩
    obtain ⟨hp, g, d, tk, os⟩ := s
    unfold At at hl
    wp_walk using (wpAny_loadPart' hl)
    rw [show its[((i : Nat) : Int).toNat]? = none by (simp; omega)]
    rw [show (List.range its.size).drop i = [] by (simp; omega)] at h
    wp_walk
    exact h
  | succ k ih =>
    intro i hk A R s ⟨hl, he, h⟩
    obtain ⟨hp, g, d, tk, os⟩ := s
    have lt : i < its.size := by omega
    have hl0 := hl
    unfold At at hl
    wp_walk using (wpAny_loadPart' hl)
    rw [show its[((i : Nat) : Int).toNat]? = some its[i] by (simp [lt])]
    rw [show (List.range its.size).drop i = i :: (List.range its.size).drop (i + 1) by (simp [List.drop_eq_getElem_cons, lt]), List.any_cons] at h
    refine wpAny_bind (he i lt _ _ ?_)
    cases q : e i with
    | true => rw [q] at h; wp_walk; exact h
    | false =>
      rw [q] at h; wp_walk; rw [show ((i : Int) + 1) = ((i + 1 : Nat) : Int) by (push_cast; rfl)]
      refine ⟨plainId_quiet plain_contains_loop _, codeAny_builtin entry_contains_loop ?_⟩
      rw [Around.under_plainId plain_contains_loop _]
      exact ih _ (by omega) A R _ ⟨hl0, he, by (simpa using h)⟩
theorem has_list (l : Addr) (its : Array Value) (n : Nat) (dd : Option Addr) (sl : Array (Option Value)) (x : Value) (e : Nat → Bool) :
    MeetsIn prog w (Builtin.«list.__contains__» ⟨[.ref l, x], []⟩)
      (fun A R s => At s l dd its n sl ∧ (∀ j (h : j < its.size), EqP prog w A.in1 s its[j] x (e j)) ∧ R (.ok (.ret (.bool ((List.range its.size).any e)))) s) := by
  intro A R s ⟨hl, he, h⟩
  obtain ⟨hp, g, d, tk, os⟩ := s
  have hl0 := hl
  unfold At at hl
  wp_walk using (wpAny_loadPart' hl)
  refine ⟨plainId_quiet plain_contains_loop _, codeAny_builtin entry_contains_loop ?_⟩
  rw [Around.under_plainId plain_contains_loop _]
  exact has_loop l its n dd sl x e _ 0 rfl A R _ ⟨hl0, he, by (simpa using h)⟩
theorem differ_loop (l b : Addr) (its jts : Array Value) (n m : Nat) (dd de : Option Addr) (sl sm : Array (Option Value)) (hz : its.size = jts.size) (e : Nat → Bool) (k : Nat) :
    ∀ i : Nat, its.size - i = k → MeetsIn prog w (Builtin.«list.__eq__.loop» ⟨[.ref l, .ref b, rawInt i, rawInt 3], []⟩)
      (fun A R s => At s l dd its n sl ∧ At s b de jts m sm ∧ (∀ j (h : j < its.size) (h' : j < jts.size), EqP prog w A.in1 s its[j] jts[j] (e j)) ∧
        R (.ok (.ret (.bool (!((List.range its.size).drop i).all e)))) s) := by
  induction k with
  | zero =>
    intro i hk A R s ⟨hl, hb, he, h⟩
    obtain ⟨hp, g, d, tk, os⟩ := s
    unfold At at hl hb
    wp_walk using (wpAny_loadPart' hl), (wpAny_loadPart' hb)
    rw [show (List.range its.size).drop i = [] by (simp; omega)] at h
    rw [show its[((i : Nat) : Int).toNat]? = none by (simp; omega), show jts[((i : Nat) : Int).toNat]? = none by (simp; omega)]
    wp_walk using (wpAny_loadPart' hl), (wpAny_loadPart' hb)
    show R (.ok (.ret (.bool (its.size != jts.size)))) _
    rw [hz]; (simpa using h)
  | succ k ih =>
    intro i hk A R s ⟨hl, hb, he, h⟩
    obtain ⟨hp, g, d, tk, os⟩ := s
    have lt : i < its.size := by omega
    have lu : i < jts.size := by omega
    have hl0 := hl
    have hb0 := hb
    unfold At at hl hb
    wp_walk using (wpAny_loadPart' hl), (wpAny_loadPart' hb)
    have e1 : its[((i : Nat) : Int).toNat]? = some its[i] := by (simp [lt])
    have e2 : jts[((i : Nat) : Int).toNat]? = some jts[i] := by (simp [lu])
    rw [show (List.range its.size).drop i = i :: (List.range its.size).drop (i + 1) by (simp [List.drop_eq_getElem_cons, lt]), List.all_cons] at h
    rw [e1, e2]
    refine wpAny_bind (he i lt lu _ _ ?_)
    cases q : e i with
    | true =>
      rw [q] at h; wp_walk; rw [show ((i : Int) + 1) = ((i + 1 : Nat) : Int) by (push_cast; rfl)]
      refine ⟨plainId_quiet plain_eq_loop _, codeAny_builtin entry_eq_loop ?_⟩
      rw [Around.under_plainId plain_eq_loop _]
      exact ih _ (by omega) A R _ ⟨hl0, hb0, he, by (simpa using h)⟩
    | false =>
      rw [q] at h; wp_walk using (wpAny_loadPart' hl), (wpAny_loadPart' hb); rw [e1, e2]; wp_walk
      (simpa using h)
theorem differ_list (l b : Addr) (its jts : Array Value) (n m : Nat) (dd de : Option Addr) (sl sm : Array (Option Value)) (hz : its.size = jts.size) (e : Nat → Bool) :
    MeetsIn prog w (Builtin.«list.__ne__» ⟨[.ref l, .ref b], []⟩)
      (fun A R s => At s l dd its n sl ∧ At s b de jts m sm ∧ (∀ j (h : j < its.size) (h' : j < jts.size), EqP prog w A.in1 s its[j] jts[j] (e j)) ∧
        R (.ok (.ret (.bool (!(List.range its.size).all e)))) s) := by
  intro A R s ⟨hl, hb, he, h⟩
  obtain ⟨hp, g, d, tk, os⟩ := s
  have hl0 := hl
  have hb0 := hb
  unfold At at hl hb
  have f3 := AutoSeq1.sub_list_list
  have ne : ¬ (its.size != jts.size) = true := by (simp [hz])
  wp_walk using (wpAny_loadPart' hl), (wpAny_loadPart' hb)
  refine ⟨plainId_quiet plain_eq_loop _, codeAny_builtin entry_eq_loop ?_⟩
  rw [Around.under_plainId plain_eq_loop _]
  exact differ_loop l b its jts n m dd de sl sm hz e _ 0 rfl A R _ ⟨hl0, hb0, he, by (simpa using h)⟩
end
end P.Q
namespace P.Q
open PySem PySem.SeqAt PySem.Spec PyProof.Rows L2 G
section
variable {prog : Program} {w : World} {A : Around} {E : Value → Shared → Prop} {s : Shared} {Q : Value → Shared → Prop}
theorem has_in {l : Addr} {its : Array Value} {x : Value} {e : Nat → Bool} (hl : s.heap.IsList l its) (he : ∀ j (h : j < its.size), EqP prog w A.in1 s its[j] x (e j)) {b : Bool} (h : Q (.bool (if b = true then !(List.range its.size).any e else (List.range its.size).any e)) s) :
    wpAny (model prog w) A (compareOp (if b = true then .NotIn else .In) x (.ref l)) Q E s := by
  obtain ⟨⟨cls, dd, data, sl⟩, ho, hc, n, hd⟩ := id hl
  dsimp only at hc hd
  subst hc hd
  have ta : s.TypeIs (.ref l) "list" := ⟨_, ho, rfl⟩
  have key : ∀ {R : Bool → Shared → Prop}, R ((List.range its.size).any e) s → wpAny (model prog w) A (contains (.ref l) x) R E s := fun {R} q =>
    wpAny_contains_slot ta PySem.F.slot_list_contains (wpAny_mono (call_meetsIn (Q := fun v s' => v = .bool ((List.range its.size).any e) ∧ s' = s) PySem.F.slot_list_contains ta PySem.F.entry_list_contains (PySem.F.args_list_contains_2 _ _) (has_list l its n dd sl x e) ⟨ho, he, ⟨rfl, rfl⟩⟩)
      (fun v s' ⟨h1, h2⟩ => by subst h1 h2; exact wpAny_truthy_bool q) fun _ _ e => e)
  cases b with
  | true =>
    rw [if_pos rfl] at h ⊢
    show wpAny _ A (do return .bool (!(← contains (.ref l) x))) Q E s
    exact wpAny_bind (key (wpAny_pure h))
  | false =>
    rw [if_neg (by decide)] at h ⊢
    show wpAny _ A (do return .bool (← contains (.ref l) x)) Q E s
    exact wpAny_bind (key (wpAny_pure h))
theorem differ_rc {l b : Addr} {its jts : Array Value} {e : Nat → Bool} (hl : s.heap.IsList l its) (hb : s.heap.IsList b jts) (hz : its.size = jts.size) (hu : A.units < cLine)
    (he : ∀ j (h1 : j < its.size) (h2 : j < jts.size), EqP prog w A.in1 s its[j] jts[j] (e j)) (h : Q (.bool (!(List.range its.size).all e)) s) : wpAny (model prog w) A (richCompare .NotEq (.ref l) (.ref b)) Q E s := by
  obtain ⟨⟨cls, dd, data, sl⟩, ho, hc, n, hd⟩ := id hl
  obtain ⟨⟨cls2, dd2, data2, sl2⟩, ho2, hc2, n2, hd2⟩ := id hb
  dsimp only at hc hd hc2 hd2
  subst hc hd hc2 hd2
  have ta : s.TypeIs (.ref l) "list" := ⟨_, ho, rfl⟩
  have tb : s.TypeIs (.ref b) "list" := ⟨_, ho2, rfl⟩
  exact wpAny_richCompare_same_room (op := .NotEq) ta tb PySem.F.slot_list_ne (call_meetsIn PySem.F.slot_list_ne ta PySem.F.entry_list_ne (PySem.F.args_list_ne_2 _ _) (differ_list l b its jts n n2 dd dd2 sl sl2 hz e)
    ⟨ho, ho2, he, show Value.bool (!(List.range its.size).all e) ≠ Value.notImplemented ∧ Q (.bool (!(List.range its.size).all e)) s from ⟨(fun x => nomatch x), h⟩⟩) hu
theorem differ_dict {K : Type} [DecidableEq K] {knd : KeyKind prog w K} {a b : Addr} {ka kb : List (K × Value)} {r : Bool} (ha : (a == sysModules) = false) (hb : (b == sysModules) = false) (da : s.heap.DictOf knd a ka) (db : s.heap.DictOf knd b kb) (hu : A.units < cLine)
    (hits : ka.length = kb.length → PySem.W.KeqHitsP prog w A.in1 s kb ka r) (h : Q (.bool (!(ka.length == kb.length && r))) s) : wpAny (model prog w) A (richCompare .NotEq (.ref a) (.ref b)) Q E s := by
  have ta : s.TypeIs (.ref a) "dict" := da.typeIs
  have tb : s.TypeIs (.ref b) "dict" := db.typeIs
  refine wpAny_richCompare_same_room (op := .NotEq) ta tb PySem.F.slot_dict_ne (wpAny_call_entry PySem.F.slot_dict_ne ta PySem.F.entry_dict_ne ?_ (PySem.F.args_dict_ne_2 _ _)) hu
  show wpAny _ _ (Builtin.Dict.dictSlotArgs "__ne__" ⟨[.ref a, .ref b], []⟩ >>= _) _ _ s
  refine wpAny_bind ?_
  unfold Builtin.Dict.dictSlotArgs
  refine wpAny_bind (wpAny_notOrdered_dict ta ?_)
  show wpAny _ _ (pure (Value.ref a, Value.ref b)) _ _ s
  refine wpAny_pure (wpAny_bind (wpAny_isInstance (T := "dict") tb PySem.F.sub_dict_dict ?_))
  simp only [Bool.not_true, Bool.false_eq_true, if_false]
  refine wpAny_bind (wpAny_pure (wpAny_bind (wpAny_pure (wpAny_bind (PySem.W.samePairsP ha hb da db hits (wpAny_pure ⟨_, rfl, (fun x => nomatch x), ?_⟩))))))
  (simpa using h)
end
end P.Q
/-! ### data with dicts -/
namespace P
open PySem PySem.Spec PyProof.Rows L2 G
inductive DV where
  | p (d : PyData) | l (ds : List DV) | d (kvs : List (Key × DV))
def lookX (ls : List (Key × DV)) (k : Key) : Option DV := (ls.find? fun kv => decide (kv.1 = k)).map (·.2)
def eqXs (f : DV → DV → Option Bool) : List DV → List DV → Option Bool
  | [], [] => some true
  | x :: xs, y :: ys => match f x y, eqXs f xs ys with
    | some a, some b => some (a && b)
    | _, _ => none
  | _, _ => none
def eqXd (f : DV → DV → Option Bool) (ls : List (Key × DV)) : List (Key × DV) → Option Bool
  | [] => some true
  | kv :: r => match lookX ls kv.1 with
    | none => some false
    | some u => match f kv.2 u, eqXd f ls r with
      | some a, some b => some (a && b)
      | _, _ => none
/-- are they equal; none: not said -/
def eqX : Nat → DV → DV → Option Bool
  | _, .p d, .p e => if min d.depth e.depth ≤ 64 then some (PyData.eqv d e) else none
  | n + 1, .l xs, .l ys => if xs.length = ys.length then eqXs (eqX n) xs ys else some false
  | n + 1, .d ks, .d ls => if (ls.map (·.1)).Nodup then (if ks.length = ls.length then eqXd (eqX n) ls ks else some false) else none
  | _ + 1, .l xs, .p (.list ys) => if xs.length = ys.length then none else some false
  | _ + 1, .p (.list xs), .l ys => if xs.length = ys.length then none else some false
  | _, _, _ => none
mutual
inductive DpX (K : PySem.W.Frag) (H : Hp) : V → DV → Prop
  | p {x : V} {d : PyData} : d.plain = true → Dp K H x d → DpX K H x (.p d)
  | l {a : Addr} {xs : List V} {ds : List DV} : SqL K H a xs → DpXs K H xs ds → DpX K H (.ref a) (.l ds)
  | d {a : Addr} {ws : List (Key × V)} {kvs : List (Key × DV)} : Rd H a (.dK ws) → DpXd K H ws kvs → DpX K H (.ref a) (.d kvs)
inductive DpXs (K : PySem.W.Frag) (H : Hp) : List V → List DV → Prop
  | nil : DpXs K H [] []
  | cons {x : V} {xs : List V} {d : DV} {ds : List DV} : DpX K H x d → DpXs K H xs ds → DpXs K H (x :: xs) (d :: ds)
inductive DpXd (K : PySem.W.Frag) (H : Hp) : List (Key × V) → List (Key × DV) → Prop
  | nil : DpXd K H [] []
  | cons {k : Key} {x : V} {xs : List (Key × V)} {d : DV} {ds : List (Key × DV)} : DpX K H x d → DpXd K H xs ds → DpXd K H ((k, x) :: xs) ((k, d) :: ds)
end
section
variable {X : Cx} {pins : List (Addr × Obj)} {σ : St} {H : Hp} {s : Shared}
theorem DpXs.len {K : PySem.W.Frag} : ∀ {xs : List V} {ds : List DV}, DpXs K H xs ds → xs.length = ds.length
  | [], _, h => by cases h; rfl
  | x :: xs, _, h => by
    cases h with
    | cons a b => exact congrArg (· + 1) (DpXs.len b)
theorem DpXd.len {K : PySem.W.Frag} : ∀ {xs : List (Key × V)} {ds : List (Key × DV)}, DpXd K H xs ds → xs.length = ds.length
  | [], _, h => by cases h; rfl
  | x :: xs, _, h => by
    cases h with
    | cons a b => exact congrArg (· + 1) (DpXd.len b)
theorem DpXd.keys {K : PySem.W.Frag} : ∀ {xs : List (Key × V)} {ds : List (Key × DV)}, DpXd K H xs ds → ds.map (·.1) = xs.map (·.1)
  | [], _, h => by cases h; rfl
  | x :: xs, _, h => by
    cases h with
    | cons a b => exact congrArg (_ :: ·) (DpXd.keys b)
theorem DpXd.look {K : PySem.W.Frag} {k : Key} : ∀ {xs : List (Key × V)} {ds : List (Key × DV)}, DpXd K H xs ds → (match lookX ds k with | none => valV xs k = none | some d => ∃ v, valV xs k = some v ∧ DpX K H v d)
  | [], _, h => by cases h; rfl
  | x :: xs, _, h => by
    cases h with
    | @cons k' v xs d ds a b =>
      unfold lookX valV
      rw [List.find?_cons, List.find?_cons]
      by_cases e : k' = k
      · rw [show decide (k' = k) = true from decide_eq_true e]
        exact ⟨v, rfl, a⟩
      · rw [show decide (k' = k) = false from decide_eq_false e]
        exact DpXd.look b
theorem DpX.list_len (I : Inv X pins σ H s) {a : Addr} {xs : List V} {ds : List PyData} (h : SqL X.K H a xs) (q : Dp X.K H (.ref a) (.list ds)) : xs.length = ds.length := by
  cases q with
  | @lst _ ys _ h' r =>
    have := I.list_inj h h'
    subst this
    clear h h'
    induction ds generalizing xs with
    | nil => cases r; rfl
    | cons d ds ih =>
      cases r with
      | cons a b => exact congrArg (· + 1) (ih b)
theorem rd_inj {a : Addr} {u v : HO} (h : Rd H a u) (h' : Rd H a v) (hu : ∀ o z, u ≠ .frz o z) (hv : ∀ o z, v ≠ .frz o z) : u = v := by
  rcases h with h | ⟨o, h⟩
  · rcases h' with h' | ⟨o', h'⟩
    · rw [h] at h'; exact Option.some.inj h'
    · rw [h] at h'; exact absurd (Option.some.inj h') (hu _ _)
  · rcases h' with h' | ⟨o', h'⟩
    · rw [h] at h'; exact absurd (Option.some.inj h').symm (hv _ _)
    · rw [h] at h'; cases h'; rfl
theorem lookX_mem {k : Key} {d : DV} : ∀ {ls : List (Key × DV)}, (ls.map (·.1)).Nodup → (k, d) ∈ ls → lookX ls k = some d
  | (k', d') :: ls, hn, hm => by
    unfold lookX
    rw [List.find?_cons]
    rw [List.map_cons, List.nodup_cons] at hn
    rcases List.mem_cons.mp hm with e | hm
    · cases e
      rw [show decide (k = k) = true from decide_eq_true rfl]; rfl
    · have ne : k' ≠ k := fun z => hn.1 (by subst z; exact List.mem_map.mpr ⟨_, hm, rfl⟩)
      rw [show decide (k' = k) = false from decide_eq_false ne]
      exact lookX_mem hn.2 hm
/-- a value is equal to itself -/
theorem eqX_refl (I : Inv X pins σ H s) : ∀ (n : Nat) {x : V} {d e : DV} {b : Bool}, DpX X.K H x d → DpX X.K H x e → eqX n d e = some b → b = true := by
  intro n
  induction n with
  | zero =>
    intro x d e b hd he q
    cases hd with
    | p pd rd =>
      cases he with
      | p pe re =>
        rename_i d1 e1
        have : d1 = e1 := by
          obtain ⟨u, ru⟩ : ∃ u, RelV x u := by
            cases x with
            | non => exact ⟨.none, rfl⟩
            | bl b => exact ⟨.bool b, rfl⟩
            | int i => exact ⟨.int i 0, _, rfl⟩
            | str y => exact ⟨.str y 0, _, rfl⟩
            | ref a => exact ⟨.ref a, rfl⟩
            | _ => cases rd
          obtain ⟨as, r1⟩ := Dp.reads I _ _ _ rd ru
          obtain ⟨cs, r2⟩ := Dp.reads I _ _ _ re ru
          exact SeqAt.plain_unique _ _ _ _ _ pd r1 r2
        subst this
        rw [eqX] at q
        split at q
        · cases q; exact SeqAt.eqv_refl_plain _ pd
        · cases q
      | l _ _ => simp [eqX] at q
      | d _ _ => simp [eqX] at q
    | l _ _ => cases he <;> simp [eqX] at q
    | d _ _ => cases he <;> simp [eqX] at q
  | succ n ih =>
    intro x d e b hd he q
    have items : ∀ {xs : List V} {ds es : List DV} {b : Bool}, DpXs X.K H xs ds → DpXs X.K H xs es → eqXs (eqX n) ds es = some b → b = true := by
      intro xs
      induction xs with
      | nil => intro ds es b h1 h2 q; cases h1; cases h2; cases q; rfl
      | cons x xs ih2 =>
        intro ds es b h1 h2 q
        cases h1 with
        | cons a1 b1 =>
          cases h2 with
          | cons a2 b2 =>
            rw [eqXs] at q
            split at q
            · rename_i r1 r2 e1 e2
              cases q
              rw [ih a1 a2 e1, ih2 b1 b2 e2]; rfl
            · cases q
    cases hd with
    | p pd rd =>
      cases he with
      | p pe re =>
        rename_i d1 e1
        have : d1 = e1 := by
          obtain ⟨u, ru⟩ : ∃ u, RelV x u := by
            cases x with
            | non => exact ⟨.none, rfl⟩
            | bl b => exact ⟨.bool b, rfl⟩
            | int i => exact ⟨.int i 0, _, rfl⟩
            | str y => exact ⟨.str y 0, _, rfl⟩
            | ref a => exact ⟨.ref a, rfl⟩
            | _ => cases rd
          obtain ⟨as, r1⟩ := Dp.reads I _ _ _ rd ru
          obtain ⟨cs, r2⟩ := Dp.reads I _ _ _ re ru
          exact SeqAt.plain_unique _ _ _ _ _ pd r1 r2
        subst this
        rw [eqX] at q
        split at q
        · cases q; exact SeqAt.eqv_refl_plain _ pd
        · cases q
      | l h1 h2 =>
        rename_i d1 a xs ds
        cases d1 with
        | list ys =>
          rw [eqX] at q
          split at q
          · cases q
          · rename_i ne
            have := DpX.list_len I h1 rd
            have := h2.len
            exact absurd (by omega) ne
        | _ => simp [eqX] at q
      | d _ _ => rename_i d1 _ _ _ _ _; cases d1 <;> simp [eqX] at q
    | l h1 h2 =>
      cases he with
      | p pe re =>
        rename_i xs ds e1
        cases e1 with
        | list ys =>
          rw [eqX] at q
          split at q
          · cases q
          · rename_i ne
            have := DpX.list_len I h1 re
            have := h2.len
            exact absurd (by omega) ne
        | _ => simp [eqX] at q
      | l h3 h4 =>
        have e := I.list_inj h1 h3
        subst e
        rw [eqX] at q
        split at q
        · exact items h2 h4 q
        · rename_i ne
          have := h2.len
          have := h4.len
          exact absurd (by omega) ne
      | d _ _ => simp [eqX] at q
    | d h1 h2 =>
      cases he with
      | p _ _ => simp [eqX] at q
      | l _ _ => simp [eqX] at q
      | d h3 h4 =>
        have e := rd_inj h1 h3 (fun _ _ z => nomatch z) (fun _ _ z => nomatch z)
        cases e
        rename_i ws ks _ ls
        rw [eqX] at q
        split at q
        · rename_i nd
          split at q
          · have key : ∀ {xs : List (Key × V)} {ds es : List (Key × DV)} {b : Bool}, DpXd X.K H xs ds → DpXd X.K H xs es → (∀ kv, kv ∈ es → kv ∈ ls) → eqXd (eqX n) ls ds = some b → b = true := by
              intro xs
              induction xs with
              | nil => intro ds es b h1 h2 _ q; cases h1; cases h2; cases q; rfl
              | cons x xs ih2 =>
                intro ds es b h1 h2 hm q
                cases h1 with
                | @cons k v _ d1 ds1 a1 b1 =>
                  cases h2 with
                  | @cons _ _ _ e1 es1 a2 b2 =>
                    rw [eqXd, lookX_mem nd (hm _ List.mem_cons_self)] at q
                    dsimp only at q
                    split at q
                    · rename_i r1 r2 q1 q2
                      cases q
                      rw [ih a1 a2 q1, ih2 b1 b2 (fun kv hk => hm kv (List.mem_cons_of_mem _ hk)) q2]; rfl
                    · cases q
            exact key h2 h4 (fun _ h => h) q
          · rename_i ne
            have := h2.len
            have := h4.len
            exact absurd (by omega) ne
        · cases q
end
end P
namespace P
open PySem PySem.Spec PyProof.Rows L2 G
theorem eqXs_bs {f : DV → DV → Option Bool} : ∀ {xs ys : List DV} {b : Bool}, eqXs f xs ys = some b → ∃ bs : List Bool, bs.length = xs.length ∧ b = bs.all id ∧ ∀ (j : Nat) (x y : DV), xs[j]? = some x → ys[j]? = some y → ∃ c, bs[j]? = some c ∧ f x y = some c
  | [], [], b, q => by cases q; exact ⟨[], rfl, rfl, fun j x y h => by simp at h⟩
  | x :: xs, y :: ys, b, q => by
    rw [eqXs] at q
    split at q
    · rename_i a c q1 q2
      cases q
      obtain ⟨bs, h1, h2, h3⟩ := eqXs_bs q2
      refine ⟨a :: bs, congrArg (· + 1) h1, by rw [List.all_cons, ← h2]; rfl, fun j u v e1 e2 => ?_⟩
      cases j with
      | zero => cases e1; cases e2; exact ⟨a, rfl, q1⟩
      | succ j => exact h3 j u v (by simpa using e1) (by simpa using e2)
    · cases q
  | [], _ :: _, _, q => by simp [eqXs] at q
  | _ :: _, [], _, q => by simp [eqXs] at q
theorem range_all (bs : List Bool) : ((List.range bs.length).all fun j => bs.getD j true) = bs.all id := by
  rw [Bool.eq_iff_iff, List.all_eq_true, List.all_eq_true]
  constructor
  · intro h b hb
    obtain ⟨j, hj, rfl⟩ := List.mem_iff_getElem.mp hb
    have := h j (List.mem_range.mpr hj)
    simpa [List.getD, List.getElem?_eq_getElem hj] using this
  · intro h j hj
    have hj' := List.mem_range.mp hj
    have := h _ (List.getElem_mem hj')
    simpa [List.getD, List.getElem?_eq_getElem hj'] using this
theorem range_any (bs : List Bool) : ((List.range bs.length).any fun j => bs.getD j false) = bs.any id := by
  rw [Bool.eq_iff_iff, List.any_eq_true, List.any_eq_true]
  constructor
  · rintro ⟨j, hj, h⟩
    have hj' := List.mem_range.mp hj
    refine ⟨_, List.getElem_mem hj', ?_⟩
    simpa [List.getD, List.getElem?_eq_getElem hj'] using h
  · rintro ⟨b, hb, h⟩
    obtain ⟨j, hj, rfl⟩ := List.mem_iff_getElem.mp hb
    exact ⟨j, List.mem_range.mpr hj, by simpa [List.getD, List.getElem?_eq_getElem hj] using h⟩
section
variable {X : Cx} {pins : List (Addr × Obj)} {σ : St} {H : Hp} {s : Shared}
theorem DpXs.get {K : PySem.W.Frag} : ∀ {xs : List V} {ds : List DV} {j : Nat} {x : V}, DpXs K H xs ds → xs[j]? = some x → ∃ d, ds[j]? = some d ∧ DpX K H x d
  | [], _, j, x, h, e => by simp at e
  | x :: xs, _, 0, y, h, e => by
    cases h with
    | cons a b => cases e; exact ⟨_, rfl, a⟩
  | x :: xs, _, j + 1, y, h, e => by
    cases h with
    | cons a b => exact DpXs.get (j := j) b (by simpa using e)
theorem vals_get : ∀ {xs : List V} {us : List Value} {j : Nat} {u : Value}, Vals xs us → us[j]? = some u → ∃ x, xs[j]? = some x ∧ RelV x u
  | _, _, j, u, .nil, e => by simp at e
  | x :: xs, u :: us, 0, v, .cons a b, e => by cases e; exact ⟨_, rfl, a⟩
  | x :: xs, u :: us, j + 1, v, .cons a b, e => vals_get (j := j) b (by simpa using e)
abbrev RcP (X : Cx) (A : Around) (s : Shared) (u v : Value) (b : Bool) : Prop :=
  (∀ (E Q : Value → Shared → Prop), Q (.bool b) s → wpAny (model X.prog X.w) A (richCompare .Eq u v) Q E s) ∧ ∀ (E Q : Value → Shared → Prop), Q (.bool (!b)) s → wpAny (model X.prog X.w) A (richCompare .NotEq u v) Q E s
theorem eqX_run (I : Inv X pins σ H s) : ∀ (n : Nat) (A : Around), A.units + n + 65 < cLine → ∀ {x y : V} {u v : Value} {d e : DV} {b : Bool}, DpX X.K H x d → DpX X.K H y e → RelV x u → RelV y v → eqX n d e = some b →
    RcP X A s u v b ∧ SeqAt.EqP X.prog X.w A s u v b := by
  have plain : ∀ (A : Around), A.units + 65 < cLine → ∀ {x y : V} {u v : Value} {d e : PyData}, d.plain = true → e.plain = true → Dp X.K H x d → Dp X.K H y e → RelV x u → RelV y v → min d.depth e.depth ≤ 64 →
      RcP X A s u v (PyData.eqv d e) ∧ SeqAt.EqP X.prog X.w A s u v (PyData.eqv d e) := fun A hu x y u v d e pd pe rd re ru rv hm => by
    obtain ⟨as, r1⟩ := Dp.reads I _ _ _ rd ru
    obtain ⟨cs, r2⟩ := Dp.reads I _ _ _ re rv
    exact ⟨⟨fun E Q q => SeqAt.eq_plain r1 r2 pd pe (by omega) q, fun E Q q => SeqAt.ne_plain r1 r2 pd pe (by omega) q⟩, (SeqAt.eqAt_plain d e A s u v _ _ r1 r2 pd pe (by omega)).eqP⟩
  -- two lists of different lengths
  have lens : ∀ (A : Around), A.units + 65 < cLine → ∀ {a c : Addr} {its jts : List Value}, s.heap.IsList a its.toArray → s.heap.IsList c jts.toArray → its.length ≠ jts.length →
      RcP X A s (.ref a) (.ref c) false ∧ SeqAt.EqP X.prog X.w A s (.ref a) (.ref c) false := fun A hu a c its jts h1 h2 ne => by
    have hz : (its.toArray.size != jts.toArray.size) = true := by simpa using ne
    have r := SeqAt.RcAt.lists_lengths (A := A) h1 h2 hz (by omega)
    refine ⟨⟨fun E Q q => r X.prog X.w E Q q, fun E Q q => SeqAt.RcNeAt.lists_lengths (A := A) h1 h2 hz (by omega) X.prog X.w E Q q⟩, (SeqAt.EqAt.of_refs (fun z => ?_) r).eqP⟩
    subst z
    obtain ⟨o, e1, _, n, e2⟩ := h1
    obtain ⟨o', e3, _, n', e4⟩ := h2
    rw [e1] at e3
    cases e3
    rw [e2] at e4
    cases e4
    exact ne rfl
  have plist : ∀ {c : Addr} {ys : List PyData}, Dp X.K H (.ref c) (.list ys) → ∃ its : List Value, its.length = ys.length ∧ s.heap.IsList c its.toArray := fun {c ys} re => by
    cases re with
    | @lst _ zs _ h1 h2 =>
      obtain ⟨its, r1, p1, _⟩ := I.list h1
      refine ⟨its, ?_, p1.isList⟩
      rw [← r1.length, DpX.list_len I h1 (.lst h1 h2)]
  intro n
  induction n with
  | zero =>
    intro A hu x y u v d e b hd he ru rv q
    cases hd with
    | p pd rd =>
      cases he with
      | p pe re =>
        rw [eqX] at q
        split at q
        · rename_i hm; cases q; exact plain A (by omega) pd pe rd re ru rv hm
        · cases q
      | l _ _ => simp [eqX] at q
      | d _ _ => simp [eqX] at q
    | l _ _ => cases he <;> simp [eqX] at q
    | d _ _ => cases he <;> simp [eqX] at q
  | succ n ih =>
    intro A hu x y u v d e b hd he ru rv q
    have full := q
    cases hd with
    | p pd rd =>
      cases he with
      | p pe re =>
        rw [eqX] at q
        split at q
        · rename_i hm; cases q; exact plain A (by omega) pd pe rd re ru rv hm
        · cases q
      | l h1 h2 =>
        rename_i d1 c xs ds
        cases d1 with
        | list ys =>
          rw [eqX] at q
          split at q
          · cases q
          · rename_i ne
            cases q
            obtain ⟨a, rfl⟩ : ∃ a, x = .ref a := by cases rd with | lst _ _ => exact ⟨_, rfl⟩
            cases (show u = Value.ref a from ru)
            cases (show v = Value.ref c from rv)
            obtain ⟨its, l1, k1⟩ := plist rd
            obtain ⟨jts, r2, k2, _⟩ := I.list h1
            exact lens A (by omega) k1 k2.isList (by rw [l1, ← r2.length, h2.len]; exact ne)
        | _ => simp [eqX] at q
      | d _ _ => rename_i d1 _ _ _ _ _; cases d1 <;> simp [eqX] at q
    | l h1 h2 =>
      rename_i a xs ds
      cases (show u = Value.ref a from ru)
      cases he with
      | p pe re =>
        rename_i e1
        cases e1 with
        | list ys =>
          rw [eqX] at q
          split at q
          · cases q
          · rename_i ne
            cases q
            obtain ⟨c, rfl⟩ : ∃ a, y = .ref a := by cases re with | lst _ _ => exact ⟨_, rfl⟩
            cases (show v = Value.ref c from rv)
            obtain ⟨its, l1, k1⟩ := plist re
            obtain ⟨jts, r2, k2, _⟩ := I.list h1
            exact lens A (by omega) k2.isList k1 (by rw [l1, ← r2.length, h2.len]; exact ne)
        | _ => simp [eqX] at q
      | l h3 h4 =>
        rename_i c ys es
        cases (show v = Value.ref c from rv)
        obtain ⟨its, r1, k1, _⟩ := I.list h1
        obtain ⟨jts, r2, k2, _⟩ := I.list h3
        rw [eqX] at q
        split at q
        · rename_i hl
          obtain ⟨bs, b1, b2, b3⟩ := eqXs_bs q
          have z1 : its.length = ds.length := by rw [← r1.length, h2.len]
          have z2 : jts.length = es.length := by rw [← r2.length, h4.len]
          have hz : its.toArray.size = jts.toArray.size := by simp only [List.size_toArray]; omega
          have he : ∀ j (j1 : j < its.toArray.size) (j2 : j < jts.toArray.size), SeqAt.EqP X.prog X.w A.in1 s its.toArray[j] jts.toArray[j] (bs.getD j true) := fun j j1 j2 => by
            have j1' : j < its.length := by simpa using j1
            have j2' : j < jts.length := by simpa using j2
            obtain ⟨x1, e1, f1⟩ := vals_get r1 (List.getElem?_eq_getElem j1')
            obtain ⟨x2, e2, f2⟩ := vals_get r2 (List.getElem?_eq_getElem j2')
            obtain ⟨d1, e3, f3⟩ := h2.get e1
            obtain ⟨d2, e4, f4⟩ := h4.get e2
            obtain ⟨cc, e5, f5⟩ := b3 j d1 d2 e3 e4
            have : bs.getD j true = cc := by rw [List.getD, e5]; rfl
            rw [this]
            simpa using (ih A.in1 (by show A.units + 1 + n + 65 < cLine; omega) f3 f4 f1 f2 f5).2
          have hb : (List.range its.toArray.size).all (fun j => bs.getD j true) = b := by
            rw [b2, ← range_all bs, List.size_toArray, z1, ← b1]
          have rc : RcP X A s (.ref a) (.ref c) b := ⟨fun E Q q' => SeqAt.rcP_lists k1.isList k2.isList hz (by omega) he E Q (by rw [hb]; exact q'), fun E Q q' => P.Q.differ_rc k1.isList k2.isList hz (by omega) he (by rw [hb]; exact q')⟩
          refine ⟨rc, ?_⟩
          by_cases ac : a = c
          · subst ac
            rw [eqX_refl I (n + 1) (.l h1 h2) (.l h3 h4) full]
            exact (SeqAt.EqAt.same _).eqP
          · exact SeqAt.eqP_refs ac rc.1
        · rename_i ne
          cases q
          exact lens A (by omega) k1.isList k2.isList (by rw [← r1.length, ← r2.length, h2.len, h4.len]; exact ne)
      | d _ _ => simp [eqX] at q
    | d h1 h2 =>
      rename_i a ws ks
      cases (show u = Value.ref a from ru)
      cases he with
      | p _ _ => simp [eqX] at q
      | l _ _ => simp [eqX] at q
      | d h3 h4 =>
        rename_i c us ls
        cases (show v = Value.ref c from rv)
        have ob : ∀ {a : Addr} {ws : List (Key × V)}, Rd H a (.dK ws) → (a == sysModules) = false ∧ ∃ vs, KV ws vs ∧ s.heap.DictOf (mixKind X.prog X.w) a vs := fun {a ws} h => by
          rcases h with h | ⟨o, h⟩
          · obtain ⟨_, z1, vs, z2, z3⟩ := (show ObjOk X.prog X.w H s.heap a (.dK ws) from I.hok a _ h)
            exact ⟨z1, vs, z2, z3⟩
          · obtain ⟨_, _, z1, vs, z2, z3⟩ := (show ObjOk X.prog X.w H s.heap a (.frz o (.dK ws)) from I.hok a _ h)
            exact ⟨z1, vs, z2, z3⟩
        obtain ⟨sa, va, ra, da⟩ := ob h1
        obtain ⟨sb, vb, rb, db⟩ := ob h3
        rw [eqX] at q
        split at q
        · rename_i nd
          have la : va.length = ks.length := by rw [← ra.length, h2.len]
          have lb : vb.length = ls.length := by rw [← rb.length, h4.len]
          have main : ∀ r, (va.length = vb.length → PySem.W.KeqHitsP X.prog X.w A.in1 s vb va r) → b = (va.length == vb.length && r) → RcP X A s (.ref a) (.ref c) b ∧ SeqAt.EqP X.prog X.w A s (.ref a) (.ref c) b := fun r hits hb => by
            have rc : RcP X A s (.ref a) (.ref c) b := ⟨fun E Q q' => PySem.W.rcP_dicts (knd := mixKind X.prog X.w) sa sb da db (by omega) hits E Q (by rw [← hb]; exact q'), fun E Q q' => P.Q.differ_dict (knd := mixKind X.prog X.w) sa sb da db (by omega) hits (by rw [← hb]; exact q')⟩
            refine ⟨rc, ?_⟩
            by_cases ac : a = c
            · subst ac
              rw [eqX_refl I (n + 1) (.d h1 h2) (.d h3 h4) full]
              exact (SeqAt.EqAt.same _).eqP
            · exact SeqAt.eqP_refs ac rc.1
          split at q
          · rename_i hl
            have hits : ∀ {xs : List (Key × V)} {ds : List (Key × DV)} {vs : List (Key × Value)} {b : Bool}, DpXd X.K H xs ds → KV xs vs → eqXd (eqX n) ls ds = some b → PySem.W.KeqHitsP X.prog X.w A.in1 s vb vs b := by
              intro xs
              induction xs with
              | nil => intro ds vs b h1 h2 q; cases h1; cases h2; cases q; exact .nil
              | cons p xs ih2 =>
                intro ds vs b g1 g2 q
                cases g1 with
                | @cons k x1 _ d1 ds1 a1 b1 =>
                  cases g2 with
                  | @cons _ w _ ws' g3 g4 =>
                    obtain ⟨k', v'⟩ := w
                    obtain ⟨ek, rv'⟩ := g3
                    dsimp only at ek rv'
                    subst ek
                    rw [eqXd] at q
                    have lk := h4.look (k := k)
                    have rr := rb.val k
                    dsimp only at q
                    split at q
                    · rename_i q0
                      cases q
                      rw [q0] at lk
                      rw [show valV us k = none from lk] at rr
                      exact .miss rr.none_of
                    · rename_i u1 q0
                      rw [q0] at lk
                      obtain ⟨y1, ly, dy⟩ := lk
                      rw [ly] at rr
                      obtain ⟨w1, ew, rw1⟩ := rr.some_of
                      split at q
                      · rename_i r1 r2 q1 q2
                        cases q
                        exact .hit ew (ih A.in1 (by show A.units + 1 + n + 65 < cLine; omega) a1 dy rv' rw1 q1).2 (ih2 b1 g4 q2)
                      · cases q
            exact main b (fun _ => hits h2 ra q) (by rw [la, lb, hl]; simp)
          · rename_i ne
            cases q
            have nl : va.length ≠ vb.length := by rw [la, lb]; exact ne
            exact main true (fun z => absurd z nl) (by simp [nl])
        · cases q
end
end P
/-! P: == and in for all that holds data. -/
namespace P
open PySem PySem.Spec PyProof.Rows L2 G
def mapO {α β : Type} (f : α → Option β) : List α → Option (List β)
  | [] => some []
  | x :: xs => match f x, mapO f xs with
    | some y, some ys => some (y :: ys)
    | _, _ => none
def lsX (f : FV → Option DV) (ds : List FV) : Option DV := if FV.pures ds = true then some (.p (.list (FV.pys ds))) else (mapO f ds).map .l
def dcX (f : FV → Option DV) (kvs : List (Key × FV)) : Option DV := (mapO f (kvs.map (·.2))).map fun ds => .d ((kvs.map (·.1)).zip ds)
/-- a value's data, dicts too -/
def FV.dv (h : FH) : Nat → FV → Option DV
  | 0, x => if x.pure = true then some (.p x.py) else none
  | n + 1, x => if x.pure = true then some (.p x.py) else match x with
    | .fl xs => (mapO (FV.dv h n) xs).map .l
    | .fd ks vs => (mapO (FV.dv h n) vs).map fun ds => .d (ks.zip ds)
    | .ref m => match h[m]? with
      | some (.lst ds) => lsX (FV.dv h n) ds
      | some (.dK kvs) => dcX (FV.dv h n) kvs
      | _ => none
    | _ => none
def RV.dv (r : RV) (h : FH) : Option DV := match r with
  | .v x => x.dv h 3
  | .l ds => lsX (FV.dv h 3) ds
  | .bl ds => lsX (FV.dv h 3) ds
  | .d kvs => dcX (FV.dv h 3) kvs
  | .bd kvs => dcX (FV.dv h 3) kvs
  | _ => none
section
variable {B : Bs} {H H0 : Hp} {μ : Nat → Addr} {n k : Nat} {h : FH}
theorem mapO_ok {f : FV → Option DV} (hf : ∀ (d : FV) (v : V) (e : DV), VR B H μ n d v → f d = some e → DpX B.K H v e) : ∀ {ds : List FV} {vs : List V} {es : List DV}, VRs B H μ n ds vs → mapO f ds = some es → DpXs B.K H vs es
  | [], _, es, r, e => by cases r; cases e; exact .nil
  | d :: ds, _, es, r, e => by
    cases r with
    | cons a b =>
      rw [mapO] at e
      split at e
      · rename_i y ys e1 e2
        cases e
        exact .cons (hf _ _ _ a e1) (mapO_ok hf b e2)
      · cases e
theorem zipX {K : PySem.W.Frag} : ∀ {ks : List Key} {vs : List V} {es : List DV}, DpXs K H vs es → DpXd K H (ks.zip vs) (ks.zip es)
  | [], _, _, _ => by rw [List.zip_nil_left, List.zip_nil_left]; exact .nil
  | k :: ks, _, _, .nil => .nil
  | k :: ks, _, _, .cons a b => .cons a (zipX b)
theorem lsX_ok {f : FV → Option DV} (hf : ∀ (d : FV) (v : V) (e : DV), VR B H μ n d v → f d = some e → DpX B.K H v e) {ds : List FV} {xs : List V} {a : Addr} {e : DV} (q : SqL B.K H a xs) (r : VRs B H μ n ds xs) (z : lsX f ds = some e) : DpX B.K H (.ref a) e := by
  unfold lsX at z
  split at z
  · rename_i hp
    cases z
    exact .p (by simpa [PyData.plain] using FV.pys_plain) (.lst q (r.dp hp))
  · cases q' : mapO f ds with
    | none => rw [q'] at z; cases z
    | some es => rw [q'] at z; cases z; exact .l q (mapO_ok hf r q')
theorem dcX_ok {f : FV → Option DV} (hf : ∀ (d : FV) (v : V) (e : DV), VR B H μ n d v → f d = some e → DpX B.K H v e) {kvs : List (Key × FV)} {ws : List (Key × V)} {a : Addr} {e : DV} (q : Rd H a (.dK ws)) (r : KvR B H μ n kvs ws) (z : dcX f kvs = some e) : DpX B.K H (.ref a) e := by
  unfold dcX at z
  cases q' : mapO f (kvs.map (·.2)) with
  | none => rw [q'] at z; cases z
  | some es =>
    rw [q'] at z
    cases z
    refine .d q ?_
    have := zipX (ks := ws.map (·.1)) (mapO_ok hf r.snd q')
    rw [zip_parts, r.fst] at this
    exact this
theorem FV.dv_ok (hr : HR B μ h H) : ∀ (k : Nat) (d : FV) (v : V) (e : DV), VR B H μ h.length d v → d.dv h k = some e → DpX B.K H v e
  | 0, d, v, e, r, q => by
    unfold FV.dv at q
    split at q
    · rename_i hp; cases q; exact .p FV.py_plain (r.dp hp)
    · cases q
  | k + 1, d, v, e, r, q => by
    have ih := FV.dv_ok hr k
    unfold FV.dv at q
    split at q
    · rename_i hp; cases q; exact .p FV.py_plain (r.dp hp)
    · rename_i np
      clear np
      split at q
      · rename_i xs
        cases z : mapO (FV.dv h k) xs with
        | none => rw [z] at q; cases q
        | some es =>
          rw [z] at q
          cases q
          cases r with
          | fl a b => exact .l (.inl a.rd) (mapO_ok ih b z)
      · rename_i ks vs
        cases z : mapO (FV.dv h k) vs with
        | none => rw [z] at q; cases q
        | some es =>
          rw [z] at q
          cases q
          cases r with
          | fd a b => exact .d a.rd (zipX (mapO_ok ih b z))
      · rename_i m
        cases r with
        | ref lm =>
          split at q
          · rename_i ds z
            obtain ⟨xs, h1, h2⟩ := hr.at' m _ z
            exact lsX_ok ih (SqL.of h1) h2 q
          · rename_i kvs z
            obtain ⟨ws, h1, h2⟩ := hr.at' m _ z
            exact dcX_ok ih (Rd.of h1) h2 q
          · cases q
      · cases q
theorem dv_ok {x : RV} {u : V} {e : DV} (hr : HR B μ h H) (r : RR B H0 μ h.length H x u) (q : x.dv h = some e) : DpX B.K H u e := by
  unfold RV.dv at q
  split at q
  · cases r with | v r => exact FV.dv_ok hr _ _ _ _ r q
  · cases r with | l f a b => exact lsX_ok (FV.dv_ok hr _) (SqL.of a) b q
  · cases r with | bl f a b => exact lsX_ok (FV.dv_ok hr _) (SqL.of a) b q
  · cases r with | d f a b => exact dcX_ok (FV.dv_ok hr _) (Rd.of a) b q
  · cases r with | bd f a b => exact dcX_ok (FV.dv_ok hr _) (Rd.of a) b q
  · cases q
end
section
variable {X : Cx} {W : WX} {E : Ent} {Γ : Sl} {e a b c : Expr} {es : List Expr} {pos p0 p1 p2 : Pos} {fa fb fc : M RV} {k : Nat}
/-! ### ==, != -/
def rQ (K : PySem.W.Frag) (neg : Bool) : R2 := fun x y H Q => ∃ d e b, DpX K H x d ∧ DpX K H y e ∧ eqX 4 d e = some b ∧ Q (.bl (if neg = true then !b else b)) H
theorem op_Q (hu : X.A.units + 69 < cLine) : OpR X (compareOp .Eq) (rQ X.K false) := by
  intro pins s σ H x y v u Q I rx ry h
  obtain ⟨d, e, b, hd, he, z, q⟩ := h
  exact (eqX_run I 4 X.A (by omega) hd he rx ry z).1.1 _ _ ⟨.bl b, H, I, rfl, q⟩
theorem op_nQ (hu : X.A.units + 69 < cLine) : OpR X (compareOp .NotEq) (rQ X.K true) := by
  intro pins s σ H x y v u Q I rx ry h
  obtain ⟨d, e, b, hd, he, z, q⟩ := h
  exact (eqX_run I 4 X.A (by omega) hd he rx ry z).1.2 _ _ ⟨.bl (!b), H, I, rfl, q⟩
def gQ (neg : Bool) (x y : RV) (h : FH) : Option Bool := match x.dv h, y.dv h with
  | some d, some e => (eqX 4 d e).map fun b => if neg = true then !b else b
  | _, _ => none
theorem q_ok {neg : Bool} : CmpOk X (rQ X.K neg) (gQ neg) := fun μ h H0 H x y u v Q z hr rx ry e k => by
  unfold gQ at e
  split at e
  · rename_i d d' e1 e2
    cases e3 : eqX 4 d d' with
    | none => rw [e3] at e; cases e
    | some b =>
      rw [e3] at e
      cases e
      exact ⟨d, d', b, dv_ok hr rx e1, dv_ok hr ry e2, e3, k H (Same.refl H)⟩
  · cases e
theorem units69 {k : Nat} {A : Around} (r : Room k A) : A.units + 70 < cLine := by have := r.un; omega
theorem jt_q (hr : Room k X.A) (ha : JE X W E Γ a fa) (hb : JE X W E Γ b fb) : JT X W E Γ (.Compare a [.Eq] [b] pos) (bnd fa fun x => bnd fb fun y => oC (gQ false) x y) := jt_cmp (op_Q (by have := units69 hr; omega)) q_ok ha hb (nomark _)
theorem jt_nq (hr : Room k X.A) (ha : JE X W E Γ a fa) (hb : JE X W E Γ b fb) : JT X W E Γ (.Compare a [.NotEq] [b] pos) (bnd fa fun x => bnd fb fun y => oC (gQ true) x y) := jt_cmp (op_nQ (by have := units69 hr; omega)) q_ok ha hb (nomark _)
theorem je_q (hr : Room k X.A) (ha : JE X W E Γ a fa) (hb : JE X W E Γ b fb) : JE X W E Γ (.Compare a [.Eq] [b] pos) (mB (bnd fa fun x => bnd fb fun y => oC (gQ false) x y)) := je_cmp (op_Q (by have := units69 hr; omega)) q_ok ha hb (nomark _)
/-! ### in: lists of data with dicts, else as before -/
def anyX (f : DV → Option Bool) : List DV → Option (List Bool)
  | [] => some []
  | x :: xs => match f x, anyX f xs with
    | some a, some b => some (a :: b)
    | _, _ => none
theorem anyX_at {f : DV → Option Bool} : ∀ {xs : List DV} {bs : List Bool}, anyX f xs = some bs → bs.length = xs.length ∧ ∀ (j : Nat) (x : DV), xs[j]? = some x → ∃ c, bs[j]? = some c ∧ f x = some c
  | [], bs, q => by cases q; exact ⟨rfl, fun j x e => by simp at e⟩
  | x :: xs, bs, q => by
    rw [anyX] at q
    split at q
    · rename_i a c q1 q2
      cases q
      obtain ⟨h1, h2⟩ := anyX_at q2
      refine ⟨congrArg (· + 1) h1, fun j u e => ?_⟩
      cases j with
      | zero => cases e; exact ⟨a, rfl, q1⟩
      | succ j => exact h2 j u (by simpa using e)
    · cases q
def rMx (K : PySem.W.Frag) (neg : Bool) : R2 := fun x y H Q => ∃ d a xs es bs, DpX K H x d ∧ y = .ref a ∧ SqL K H a xs ∧ DpXs K H xs es ∧ anyX (fun z => eqX 4 z d) es = some bs ∧ Q (.bl (if neg = true then !bs.any id else bs.any id)) H
theorem mx_run {neg : Bool} (hu : X.A.units + 70 < cLine) {pins : List (Addr × Obj)} {s : Shared} {σ : St} {H : Hp} {x y : V} {v u : Value} {Q : VK} (I : Inv X pins σ H s) (rx : RelV x v) (ry : RelV y u) (h : rMx X.K neg x y H Q) :
    wpAny (model X.prog X.w) X.A (compareOp (if neg = true then .NotIn else .In) v u) (EP X pins σ Q) X.xe s := by
  obtain ⟨d, a, xs, es, bs, hd, rfl, hl, hx, hb, q⟩ := h
  obtain rfl : u = Value.ref a := ry
  obtain ⟨its, r1, k1, _⟩ := I.list hl
  obtain ⟨b1, b2⟩ := anyX_at hb
  have z1 : its.length = es.length := by rw [← r1.length, hx.len]
  refine P.Q.has_in (e := fun j => bs.getD j false) k1.isList (fun j j1 => ?_) ?_
  · have j1' : j < its.length := by simpa using j1
    obtain ⟨x1, e1, f1⟩ := vals_get r1 (List.getElem?_eq_getElem j1')
    obtain ⟨d1, e3, f3⟩ := hx.get e1
    obtain ⟨cc, e5, f5⟩ := b2 j d1 e3
    have : bs.getD j false = cc := by rw [List.getD, e5]; rfl
    rw [this]
    have := (eqX_run I 4 X.A.in1 (by show X.A.units + 1 + 4 + 65 < cLine; omega) f3 hd f1 rx f5).2
    simpa using this
  · have e : (List.range its.toArray.size).any (fun j => bs.getD j false) = bs.any id := by rw [← range_any bs, List.size_toArray, z1, ← b1]
    rw [e]
    exact ⟨.bl _, H, I, rfl, q⟩
theorem op_nmx (hu : X.A.units + 70 < cLine) : OpR X (compareOp .NotIn) (rMx X.K true) := fun pins s σ H x y v u Q I rx ry h => mx_run (neg := true) hu I rx ry h
/-- a text within a text -/
def inS (w z : Str) : Bool := !(Builtin.Str.occurrences z w 0 z.length 1).isEmpty
def rInS (neg : Bool) : R2 := fun x y H Q => ∃ i j, x = .str i ∧ y = .str j ∧ Q (.bl (if neg = true then !inS i j else inS i j)) H
def gMx (neg : Bool) (x y : RV) (h : FH) : Option Bool := match gIn neg x y h with
  | some b => some b
  | none => match x, y with
    | .v (.str w), .v (.str z) => some (if neg = true then !inS w z else inS w z)
    | x, y => match x.dv h, y.seq h with
      | some d, some (false, ds) => match mapO (FV.dv h 3) ds with
        | some es => (anyX (fun z => eqX 4 z d) es).map fun bs => if neg = true then !bs.any id else bs.any id
        | none => none
      | _, _ => none
theorem mx_ok {neg : Bool} : CmpOk X (fun x y H Q => (rInH X.K neg x y H Q ∨ rInS neg x y H Q) ∨ rMx X.K neg x y H Q) (gMx neg) := fun μ h H0 H x y u v Q z hr rx ry e k => by
  unfold gMx at e
  split at e
  · rename_i b q
    cases e
    exact .inl (.inl (in_ok μ h H0 H x y u v Q _ hr rx ry q k))
  · split at e
    · cases e
      exact .inl (.inr ⟨_, _, rr_str rx, rr_str ry, k H (Same.refl H)⟩)
    split at e
    · rename_i d ds e1 e2
      split at e
      · rename_i es e3
        cases e4 : anyX (fun z => eqX 4 z d) es with
        | none => rw [e4] at e; cases e
        | some bs =>
          rw [e4] at e
          cases e
          obtain ⟨a, xs, rfl, h2, h3⟩ := seq_ok hr ry e2
          rw [if_neg (by decide)] at h3
          exact .inr ⟨d, a, xs, es, bs, dv_ok hr rx e1, rfl, h3, mapO_ok (FV.dv_ok hr 3) h2 e3, e4, k H (Same.refl H)⟩
      · cases e
    · cases e
theorem jt_nmx (hr : Room k X.A) (ha : JE X W E Γ a fa) (hb : JE X W E Γ b fb) (hm : behindInMarks .NotIn b = false := by rfl) : JT X W E Γ (.Compare a [.NotIn] [b] pos) (bnd fa fun x => bnd fb fun y => oC (gMx true) x y) := jt_cmp (OpR.or (OpR.or (op_notInH (units66' hr)) op_notIn_str) (op_nmx (units69 hr))) mx_ok ha hb hm
end
end P
/-! P: what a call made is frozen, through and through. -/
namespace P
open PySem PySem.Spec PyProof.Rows L2 G
/-- .. several things frozen, one after another -/
inductive Gs (Z : Hp → Prop) : Hp → Prop
  | here {H : Hp} : Z H → Gs Z H
  | more {H : Hp} {p : Addr} {u : HO} : H p = some u → Mut (some u) → (∀ od, Gs Z (upd H p (.frz od u))) → Gs Z H
/-- x with all objects from n on frozen -/
def FV.dz (n : Nat) (h : FH) : Nat → FV → Option FV
  | 0, x => if x.lowB n = true then some x else none
  | k + 1, x => if x.lowB n = true then some x else match x with
    | .ref i => match h[i]? with
      | some (.lst ds) => (mapO (FV.dz n h k) ds).map .fl
      | some (.dK kvs) => (mapO (FV.dz n h k) (kvs.map (·.2))).map (.fd (kvs.map (·.1)))
      | some (.dT kvs) => (mapO (FV.dz n h k) (kvs.map (·.2))).map (.ft (kvs.map (·.1)))
      | some (.ins c fs) => (mapO (FV.dz n h k) (fs.map (·.2))).map (.fo c (fs.map (·.1)))
      | _ => none
    | .tup xs => (mapO (FV.dz n h k) xs).map .tup
    | .fl xs => (mapO (FV.dz n h k) xs).map .fl
    | .fd ks xs => (mapO (FV.dz n h k) xs).map (.fd ks)
    | .ft ks xs => (mapO (FV.dz n h k) xs).map (.ft ks)
    | .fo c ks xs => (mapO (FV.dz n h k) xs).map (.fo c ks)
    | _ => none
def dzs (n : Nat) (h : FH) {κ : Type} (kvs : List (κ × FV)) : Option (List (κ × FV)) := (mapO (FV.dz n h 4) (kvs.map (·.2))).map fun vs => (kvs.map (·.1)).zip vs
def RV.dz (n : Nat) (h : FH) : RV → Option RV
  | .v x => (x.dz n h 5).map .v
  | .l ds => (mapO (FV.dz n h 4) ds).map .l
  | .d kvs => (dzs n h kvs).map .d
  | .t kvs => (dzs n h kvs).map .t
  | .o c fs => (dzs n h fs).map (.o c)
  | _ => none
def dzR (n : Nat) (r : RV) (h : FH) : Rs RV :=
  if n < h.length ∧ (h.take n).all (·.lowB n) = true then match r.dz n h with
    | some r' => .ok r' (h.take n)
    | none => .ok r h
  else .ok r h
def dF (m : M RV) : M RV := fun h => match m h with
  | .ok r h' => dzR h.length r h'
  | .ex x h' => .ex x h'
  | .no => .no
theorem dF_same {m : M RV} {h h' : FH} {r : RV} (e : m h = .ok r h') (l : h'.length ≤ h.length) : dF m h = .ok r h' := by
  unfold dF; rw [e]; show dzR h.length r h' = _; unfold dzR; rw [if_neg (fun z => absurd z.1 (Nat.not_lt_of_le l))]
theorem dF_pur (r : RV) : dF (pur r) = pur r := by
  funext h; exact dF_same rfl (Nat.le_refl _)
end P
/-! P: objects of own classes: fields, methods, making. -/
namespace P
open PySem PySem.Spec PyProof.Rows L2 G
abbrev CTab := List (Str × List Str)
/-- classes with plain objects, and fields that the class itself has not -/
structure CT (X : Cx) (tab : CTab) : Prop where
  ok : ∀ c fs, (c, fs) ∈ tab → ∃ C, X.mg c = some (.ref C) ∧ Cls X.K C ∧ ∀ f, f ∈ fs → NoAttr X.K C f
section
variable {α β γ δ : Type} {X : Cx} {W : WX} {E : Ent} {Γx : Option Sl} {eα : α → Sl} {eβ : β → Sl} {Γ Γ' : Sl} {e a b o i tg : Expr} {es : List Expr} {pos apos p0 : Pos} {fe fo fi fa fb : M RV} {rest : List Stmt} {n k : Nat}
/-! ### fields -/
/-! ### methods -/
/-- the class c has the method m, at level n; ds: the values of what is left out -/
structure HasM (P : Program) (w : World) (K : PySem.W.Frag) (mg : Str → Option Value) (base : Heap) (n : Nat) (c m : Str) (ps : List Str) (ds : List FV) (f : FDef) : Prop where
  ex : ∃ C a fd dvs us, FnOk P w K mg base (L2.CX P w) n a fd ps (spP ⟨K, mg⟩ f) ∧ mg c = some (.ref C) ∧ Cls K C ∧ Meth K C m a ∧ Binds K fd ps us ∧ Vals dvs us ∧ ∀ B H μ n, B.K = K → VRs B H μ n ds dvs
/-! ### a new object -/
structure HasK (P : Program) (w : World) (K : PySem.W.Frag) (mg : Str → Option Value) (base : Heap) (n : Nat) (c : Str) (ps : List Str) (ds : List FV) (f : FDef) : Prop where
  ex : ∃ C a fd dvs us, L2.Mk K C a ∧ FnOk P w K mg base (L2.CX P w) n a fd ps (spP ⟨K, mg⟩ f) ∧ mg c = some (.ref C) ∧ Binds K fd ps us ∧ Vals dvs us ∧ ∀ B H μ n, B.K = K → VRs B H μ n ds dvs
end
end P
/-! P19: sorted by a key that is a def. -/
namespace P
open PySem PySem.Spec PyProof.Rows L2 G
section
variable {prog : Program} {w : World} {A : Around} {E : Value → Shared → Prop} {s : Shared}
/-- the items of a list or a tuple -/
def SeqAt (h : Heap) (l : Addr) (vs : List Value) : Prop := ∃ (T : String) (o : Obj) (n : Nat), (T = "list" ∨ T = "tuple") ∧ h.get? l = some o ∧ o.cls = .type T ∧ o.data = .seq vs.toArray n
end
end P
/-! P20: insert. -/
namespace P
open PySem PySem.Spec PyProof.Rows L2 G
end P
/-! P21: errors raised and caught. -/
namespace P
open PySem PySem.Spec PyProof.Rows L2 G
/-- an error of one's own class, with a text alone -/
def thr {α : Type} (c : Str) : M α := fun h => .ex ⟨c, none⟩ h
/-- which class is a part of which: own classes of errors, and the classes asked for -/
abbrev ETab := List (Str × Str × Bool)
def isSub (tab : ETab) (c d : Str) : Option Bool := (tab.find? fun t => decide (t.1 = c) && decide (t.2.1 = d)).map (·.2.2)
structure EF (K : PySem.W.Frag) (mg : Str → Option Value) (c d : Str) (b : Bool) : Prop where
  ex : ∃ C v, mg c = some (.ref C) ∧ ExcC K C ∧ (mg d = some v ∨ (mg d = none ∧ bootBuiltins d = some v ∧ d ≠ "__name__")) ∧ PySem.W.subIn K (.ref C) v = some b ∧ PySem.W.kitOne K (.ref C) v = some b ∧ ((∃ D, v = .ref D) ∨ ∃ n, v = .type n)
structure ET (K : PySem.W.Frag) (mg : Str → Option Value) (tab : ETab) : Prop where
  ok : ∀ t, t ∈ tab → EF K mg t.1 t.2.1 t.2.2
theorem ET.sub {K : PySem.W.Frag} {mg : Str → Option Value} {tab : ETab} (T : ET K mg tab) {c d : Str} {b : Bool} (h : isSub tab c d = some b) : EF K mg c d b := by
  unfold isSub at h
  cases q : tab.find? fun t => decide (t.1 = c) && decide (t.2.1 = d) with
  | none => rw [q] at h; cases h
  | some t =>
    rw [q] at h
    cases h
    have h1 := List.find?_some q
    rw [Bool.and_eq_true] at h1
    have e1 : t.1 = c := of_decide_eq_true h1.1
    have e2 : t.2.1 = d := of_decide_eq_true h1.2
    have := T.ok t (List.mem_of_find?_eq_some q)
    rw [e1, e2] at this
    exact this
/-- try: body / except cl as n: handler -/
def tryN {α β : Type} (tab : ETab) (cl : Str) (fb : M (Fl α β)) (fo : α → M (Fl α β)) (fh : Str → M (Fl α β)) : M (Fl α β) := fun h => match fb h with
  | .ok (.nx a) h' => fo a h'
  | .ok a h' => .ok a h'
  | .ex ⟨c, none⟩ h' => if isSub tab c cl = some true then (match fh c h' with | .ok a h2 => .ok a h2 | _ => .no) else .no
  | _ => .no
theorem SR.junk {B : Bs} {E : Ent} {μ : Nat → Addr} {Γ : Sl} {h : FH} {σ : L2.St} {H : Hp} {i : Nat} (s : SR B E μ Γ h σ H) (hi : Γ[i]? = some none) (v : Option V) : SR B E μ Γ h (σ.set i v) H where
  st := s.st
  hr := s.hr
  len := by rw [List.length_set]; exact s.len
  sl j r q := by
    obtain ⟨u, h1, h2⟩ := s.sl j r q
    have : i ≠ j := fun z => by subst z; rw [hi] at q; cases q
    exact ⟨u, by rw [List.getElem?_set_ne this]; exact h1, h2⟩
  inj j k r r' p a b o o' e e' := by
    have n1 : i ≠ j := fun z => by subst z; rw [hi] at a; cases a
    have n2 : i ≠ k := fun z => by subst z; rw [hi] at b; cases b
    rw [List.getElem?_set_ne n1] at e
    rw [List.getElem?_set_ne n2] at e'
    exact s.inj j k r r' p a b o o' e e'
section
variable {α β γ : Type} {X : Cx} {W : WX} {E : Ent} {Γx : Option Sl} {eα : α → Sl} {eγ : γ → Sl} {eβ : β → Sl} {Γ Γ' : Sl} {rest body suite : List Stmt} {b₀ : Stmt} {pos p0 p p2 pos' np : Pos} {e : Expr} {fe : M RV}
theorem jb_raise {x m : Str} {j : Nat} (F : ∃ C, ExcF X.K X.mg x C) (hc : X.calm = true) (tk : Takes X W) (w : SubX Γx Γ) (hg : Gl X x := by rfl) (hdb : (x == ("__debug__" : Str)) = false := by decide) :
    JB X W E Γx eα eβ Γ (.Raise (some (.Call (.Name x p) [.Constant (.str m) j p2] [] pos')) none pos :: rest) (thr x) := fun μ h σ H D s q => by
  obtain ⟨C, F⟩ := F
  exact wS.of' (ps_raise hc tk (pmk_own PySem.F.excBase_ValueError F.q F.g F.k (raises_own F.b F.t) hg hdb)) (q μ σ H (.ref C) none (StW.refl _ _ _) (s.x w) ⟨F.g, rfl⟩)
/-- a handler: slot i holds the error at a -/
def JH (X : Cx) (i : Nat) (a : Addr) (E : Ent) (eα : α → Sl) (eβ : β → Sl) (Γ : Sl) (sts : List Stmt) (f : M (Fl α β)) : Prop :=
  ∀ μ h σ H D, SR (bs X) E μ Γ h σ H → σ[i]? = some (some (.ref a)) → PoN (bs X) E μ h.length H D wNo none eα eβ (f h) → wSs X sts D σ H
def JEa (X : Cx) (i : Nat) (a : Addr) (E : Ent) (Γ : Sl) (e : Expr) (fe : M RV) : Prop :=
  ∀ μ h σ H Q, SR (bs X) E μ Γ h σ H → σ[i]? = some (some (.ref a)) → Po (bs X) μ h.length H (fun r h' μ' H' => ∀ u, RR (bs X) H μ' h'.length H' r u → Q u H') (fun _ _ _ => False) (fe h) → wE X e σ H Q
theorem seq_nx {m : M (Fl α β)} {k : α → M (Fl γ β)} {h h' : FH} {a : α} (q : m h = .ok (.nx a) h') : seqN m k h = k a h' := by unfold seqN P.bnd; rw [q]; rfl
theorem seq_rt {m : M (Fl α β)} {k : α → M (Fl γ β)} {h h' : FH} {r : RV} (q : m h = .ok (.rt r) h') : seqN m k h = .ok (.rt r) h' := by unfold seqN P.bnd; rw [q]; rfl
theorem seq_bk {m : M (Fl α β)} {k : α → M (Fl γ β)} {h h' : FH} {b : β} (q : m h = .ok (.bk b) h') : seqN m k h = .ok (.bk b) h' := by unfold seqN P.bnd; rw [q]; rfl
theorem seq_ct {m : M (Fl α β)} {k : α → M (Fl γ β)} {h h' : FH} {b : β} (q : m h = .ok (.ct b) h') : seqN m k h = .ok (.ct b) h' := by unfold seqN P.bnd; rw [q]; rfl
theorem seq_no {m : M (Fl α β)} {k : α → M (Fl γ β)} {h : FH} (q : m h = .no) : seqN m k h = .no := by unfold seqN P.bnd; rw [q]; rfl
/-- try: body / except x as n: suite -/
theorem jb_tryA (i : Nat) {n x : Str} {tab : ETab} {fb : M (Fl α β)} {fo : α → M (Fl α β)} {fh : Str → M (Fl α β)} {k : α → M (Fl γ β)} {orelse : List Stmt} (T : ET X.K X.mg tab) (F : ∃ C, ExcF X.K X.mg x C) (hs : X.stack = X.env :: X.outer) (hf : X.env.frame = some X.env.locals) (hN : X.N.Nodup)
    (hΓ : Γ[i]? = some none) (hα : ∀ a, (eα a)[i]? = some none) (hβ : ∀ b, (eβ b)[i]? = some none)
    (hb : ∀ pn xe (W' : WX), Takes (X.tr pn xe) W' → PassesOwn (model X.prog X.w) X.A X.env xe → JB (X.tr pn xe) W' E (some Γ) eα eβ Γ body fb)
    (ho : ∀ a, JB X W E Γx eα eβ (eα a) orelse (fo a))
    (hh : ∀ (a : Addr) (oe : Obj) (pn : List (Addr × Obj)) (c : Str) (C : Addr), X.mg c = some (.ref C) → ExcC X.K C → isSub tab c x = some true → Zc (.ref C) none oe → (∃ vs, oe.data = .fields vs) → JH (X.suite a ((a, oe) :: pn)) i a E eα eβ Γ (b₀ :: suite) (fh c))
    (hk : ∀ a, JB X W E Γx eγ eβ (eα a) rest (k a))
    (hi : X.N[i]? = some n := by rfl) (hln : X.env.kindOf n = some .local := by rfl) (hgx : Gl X x := by rfl) (hdx : (x == ("__debug__" : Str)) = false := by decide) :
    JB X W E Γx eγ eβ Γ (.Try body [.ExceptHandler (some (.Name x np)) (some n) (b₀ :: suite) pos'] orelse [] p0 :: rest) (seqN (tryN tab x fb fo fh) k) := fun μ h σ H D s p => by
  obtain ⟨Cx, F⟩ := F
  refine wS.of' (ps_try_asE (i := i) (tb := fun W' D' σ H => ∀ pn xe, Takes (X.tr pn xe) W' → PassesOwn (model X.prog X.w) X.A X.env xe → wSs (X.tr pn xe) body D' σ H)
    (ts := fun u cls d D σ H => ∀ oe pn, Zc cls d oe → (∃ vs, oe.data = .fields vs) → wSs (X.suite u ((u, oe) :: pn)) (b₀ :: suite) D σ H) pss_w hs hf hN hi hln ⟨hgx, hdx, .inl F.g⟩ (fun W' pn xe tk hp => ⟨fun pins s σ H D I w => (w pn xe tk hp).go pins s I⟩)
    (fun u oe cls d pn z q => ⟨fun pins s σ H D I w => (w oe pn z q).go pins s I⟩)) ?_
  intro pn xe tk hp
  refine hb pn xe _ tk hp μ h σ H _ s ?_
  cases q : fb h with
  | no => rw [seq_no (by unfold tryN; rw [q])] at p; exact p.elim
  | ok f h' =>
    cases f with
    | nx a =>
      have e : seqN (tryN tab x fb fo fh) k h = seqN (fo a) k h' := by
        have : tryN tab x fb fo fh h = fo a h' := by unfold tryN; rw [q]
        unfold seqN P.bnd; rw [this]
      rw [e] at p
      exact fun μ' σ' H' sw sr => ho a μ' h' σ' H' _ sr (PoN.seq (PoN.at' p sw) fun b h2 μ2 σ2 H2 _ sr2 p2 => hk b μ2 h2 σ2 H2 D sr2 p2)
    | rt r => rw [seq_rt (by unfold tryN; rw [q])] at p; exact p
    | bk b => rw [seq_bk (by unfold tryN; rw [q])] at p; exact p
    | ct b => rw [seq_ct (by unfold tryN; rw [q])] at p; exact p
  | ex y h' =>
    obtain ⟨c, fs⟩ := y
    cases fs with
    | some fs => rw [seq_no (by unfold tryN; rw [q])] at p; exact p.elim
    | none =>
      by_cases hc : isSub tab c x = some true
      · have tq : tryN tab x fb fo fh h = (match fh c h' with | .ok a h2 => .ok a h2 | _ => .no) := by
          unfold tryN; rw [q]; dsimp only; rw [if_pos hc]
        intro μ' σ' H' cv d sw sr xr
        obtain ⟨x1, x2⟩ := xr
        have x2' : d = none := x2
        subst x2'
        obtain ⟨C, v, e1, e2, e3, e4, e5, _⟩ := T.sub hc
        have x1' : X.mg c = some cv := x1
        rw [e1] at x1'
        cases x1'
        have ev : v = .ref Cx := by
          rcases e3 with e3 | ⟨e3, _⟩
          · rw [F.g] at e3; exact (Option.some.inj e3).symm
          · rw [F.g] at e3; cases e3
        subst ev
        refine ⟨F.caught' e4, fun a na oe pn' z dd => ?_⟩
        have sr' : SR (bs X) E μ' Γ h' σ' H' := sr
        have li : i < σ'.length := by rw [← sr'.len]; exact (List.getElem?_eq_some_iff.mp hΓ).1
        refine hh a oe pn' c C e1 e2 hc z dd μ' h' _ H' _ (sr'.junk hΓ _) (by simp [li]) ?_
        cases q2 : fh c h' with
        | no => rw [seq_no (by rw [tq, q2])] at p; exact p.elim
        | ex y2 h2 => rw [seq_no (by rw [tq, q2])] at p; exact p.elim
        | ok f h2 =>
          cases f with
          | nx b =>
            rw [seq_nx (by rw [tq, q2])] at p
            exact fun μ2 σ2 H2 sw2 sr2 => hk b μ2 h2 _ H2 D (sr2.junk (hα b) none) (PoN.at' p (sw.trans sw2))
          | rt r => rw [seq_rt (by rw [tq, q2])] at p; exact fun μ2 H2 u sw2 => (show ∀ μ' H' u, _ → _ → _ → _ → D.rt u H' from p) μ2 H2 u (sw.trans sw2)
          | bk b => rw [seq_bk (by rw [tq, q2])] at p; exact fun μ2 σ2 H2 sw2 sr2 => (show ∀ μ' σ' H', _ → _ → D.bk σ' H' from p) μ2 _ H2 (sw.trans sw2) (sr2.junk (hβ b) none)
          | ct b => rw [seq_ct (by rw [tq, q2])] at p; exact fun μ2 σ2 H2 sw2 sr2 => (show ∀ μ' σ' H', _ → _ → D.ct σ' H' from p) μ2 _ H2 (sw.trans sw2) (sr2.junk (hβ b) none)
      · rw [seq_no (by unfold tryN; rw [q]; dsimp only; rw [if_neg hc])] at p; exact p.elim
/-! what a handler does -/
section
variable {i : Nat} {a : Addr} {es : List Expr} {e1 e2 : Expr} {f1' f2' fb : M RV} {kb : M (Fl α β)} {tb : M Bool}
theorem jh_of {f : M (Fl α β)} {sts : List Stmt} (h : JB X wNo E none eα eβ Γ sts f) : JH X i a E eα eβ Γ sts f := fun μ h0 σ H D s _ p => h μ h0 σ H D s p
theorem ja_of (h : JE X wNo E Γ e fe) : JEa X i a E Γ e fe := fun μ h0 σ H Q s _ p => h μ h0 σ H Q s p
theorem JEa.to {f g : M RV} (h : JEa X i a E Γ e f) (q : ∀ h, f h = g h) : JEa X i a E Γ e g := fun μ h0 σ H Q s hs p => h μ h0 σ H Q s hs (by rw [q]; exact p)
theorem jh_ret (he : JEa X i a E Γ e fe) : JH X i a E eα eβ Γ [.Return (some e) pos] (ret fe) := fun μ h σ H D s hs p =>
  wone (wS.of (ps_ret pe_w) (he μ h σ H _ s hs (Po.mono (PoN.bnd s SubX.none p) fun r h1 μ1 H1 _ s1 hr1 p1 u ru =>
    (show ∀ μ' H' u, _ → _ → _ → _ → D.rt u H' from p1.2) μ1 H1 u (StW.refl _ _ _) p1.1.st hr1 (ru.since s.st.th))))
end
section
variable {i : Nat} {a : Addr} {c : Expr} {tb : M Bool} {k : M (Fl α β)} {p1 : Pos}
def JTa (X : Cx) (i : Nat) (a : Addr) (E : Ent) (Γ : Sl) (e : Expr) (ft : M Bool) : Prop :=
  ∀ μ h σ H Q, SR (bs X) E μ Γ h σ H → σ[i]? = some (some (.ref a)) → Po (bs X) μ h.length H (fun b h' μ' H' => Q b H') (fun _ _ _ => False) (ft h) → wT X e σ H Q
theorem jta_val (ha : JEa X i a E Γ e fe) (he : ∀ whole, isTrue e X.env whole = (do let v ← whole; standAt e.pos; holding [v] (truthy v)) := by intro _; rfl) : JTa X i a E Γ e (bnd fe oT) := fun μ h σ H Q s hs p =>
  wT.of (pt_val pe_w he) (ha μ h σ H _ s hs (Po.mono (Po.bind p) fun x h1 μ1 H1 _ s1 hr1 p1 u ru => by
    unfold oT at p1
    split at p1
    · exact ⟨_, rr_bl ru, Po.last p1 hr1 (Same.refl _)⟩
    · exact p1.elim))
theorem jta_not {t : M Bool} (ha : JTa X i a E Γ e t) : JTa X i a E Γ (.UnaryOp .Not e pos) (mNot t) := fun μ h σ H Q s hs p => wT.of (pt_not pt_w) (ha μ h σ H _ s hs p.notb)
theorem jta_to {t u : M Bool} (h : JTa X i a E Γ e t) (q : ∀ h, t h = u h) : JTa X i a E Γ e u := fun μ h0 σ H Q s hs p => h μ h0 σ H Q s hs (by rw [q]; exact p)
theorem jh_ifR (hc : JTa X i a E Γ c tb) (he : JEa X i a E Γ e fe) (hk : JH X i a E eα eβ Γ rest k) :
    JH X i a E eα eβ Γ (.If c [.Return (some e) p1] [] pos :: rest) (bnd tb fun b => if b = true then ret fe else k) := fun μ h σ H D s hs p =>
  wcons (wS.of (ps_if pt_w pss_w pss_w) (hc μ h σ H _ s hs (Po.mono (PoN.bnd s SubX.none p) fun b h1 μ1 H1 _ s1 hr1 q1 => by
    obtain ⟨s2, p2⟩ := q1
    cases b with
    | true =>
      rw [if_pos rfl] at p2 ⊢
      exact wone (wS.of (ps_ret pe_w) (he μ1 h1 σ H1 _ s2 hs (Po.mono (PoN.bnd s2 SubX.none p2) fun r h2 μ2 H2 _ s3 hr3 p3 u ru =>
        (show ∀ μ' H' u, _ → _ → _ → _ → D.rt u H' from p3.2) μ2 H2 u (StW.refl _ _ _) p3.1.st hr3 (ru.since s2.st.th))))
    | false => rw [if_neg (by decide)] at p2 ⊢; exact wSs.of pss_nil (hk μ1 h1 σ H1 D s2 hs p2))))
end
/-- isinstance(error, d), the error of class c -/
def isN (tab : ETab) (c d : Str) : M RV := match isSub tab c d with
  | some b => pur (.v (.bl b))
  | none => fail
theorem ja_isE {i : Nat} {a : Addr} {oe : Obj} {pn : List (Addr × Obj)} {tab : ETab} {c d n : Str} {C : Addr} {px p1 p3 : Pos} (T : ET X.K X.mg tab) (hC : X.mg c = some (.ref C)) (hE : ExcC X.K C) (hz : Zc (.ref C) none oe) (hv : ∃ vs, oe.data = .fields vs) (hm : X.mg "isinstance" = none) (hgd : X.mg d ≠ none)
    (hN : X.N[i]? = some n := by rfl) (hvi : Vis X.env.scope n := by first | exact Or.inl rfl | exact Or.inr (Or.inl rfl) | exact Or.inr (Or.inr rfl)) (hd : (n == ("__debug__" : Str)) = false := by decide) (hcd : (n == ("__classdict__" : Str)) = false := by decide)
    (hg : Gl X "isinstance" := by rfl) (hgx : Gl X d := by rfl) (hdx : (d == ("__debug__" : Str)) = false := by decide)
    (h1 : starEach [.Name n px, .Name d p3] X.env = (false, eval (.Name n px) X.env) :: starEach [.Name d p3] X.env := by rfl) (h2 : starEach [.Name d p3] X.env = (false, eval (.Name d p3) X.env) :: starEach [] X.env := by rfl) (hpl : (backTo pos (starEach [.Name d p3] X.env)).any (·.1) = false := by rfl) :
    JEa (X.suite a ((a, oe) :: pn)) i a E Γ (.Call (.Name "isinstance" p1) [.Name n px, .Name d p3] [] pos) (isN tab c d) := fun μ h σ H Q s hs p => by
  unfold isN at p
  cases q : isSub tab c d with
  | none => rw [q] at p; exact p.elim
  | some b =>
    rw [q] at p
    obtain ⟨C', v, e1, e2, e3, e4, e5, e6⟩ := T.sub q
    rw [hC] at e1
    cases e1
    have e3' : X.mg d = some v := by
      rcases e3 with e3 | ⟨e3, _⟩
      · exact e3
      · exact absurd e3 hgd
    have fin := Po.last p s.hr (Same.refl H) (.bl b) (.v (.bl b))
    rcases e6 with ⟨D, rfl⟩ | ⟨m, rfl⟩
    · refine wE.of (pe_callB (call_isE hE hz hv) hg hm (by decide +kernel) (pa_cons (pe_var hN hvi hd hcd) (pa_cons (pe_glob (v := .ref D) hgx e3' rfl hdx) pa_nil h2) h1) (by decide) (by decide) h1 hpl) ⟨_, hs, ?_⟩
      exact ⟨.ref D, .ref D, b, rfl, fun u r => r, e5, fin⟩
    · refine wE.of (pe_callB (call_isE hE hz hv) hg hm (by decide +kernel) (pa_cons (pe_var hN hvi hd hcd) (pa_cons (pe_glob (v := .ty m) hgx e3' rfl hdx) pa_nil h2) h1) (by decide) (by decide) h1 hpl) ⟨_, hs, ?_⟩
      exact ⟨.ty m, .type m, b, rfl, fun u r => r, e5, fin⟩
end
theorem exg {K : PySem.W.Frag} {mg : Str → Option Value} {d : Str} (x : ∃ C, ExcF K mg d C) : mg d ≠ none := fun z => by
  obtain ⟨C, F⟩ := x
  rw [F.g] at z; cases z
end P
/-! P22: an error raised in a handler in place of another; defs whose errors have no context. -/
namespace P
open PySem PySem.Spec PyProof.Rows L2 G
/-! defs whose errors have no context -/
structure HasFN (P : Program) (w : World) (K : PySem.W.Frag) (mg : Str → Option Value) (base : Heap) (n : Nat) (x : Str) (ps : List Str) (f : FDef) : Prop where
  ex : ∃ a fd, FnOk P w K mg base (L2N.CX P w) n a fd ps (spP ⟨K, mg⟩ f) ∧ mg x = some (.ref a) ∧ PySem.W.keepIn K (.ref a) = true ∧ Binds K fd ps []
section
variable {P : Program} {w : World} {K : PySem.W.Frag} {mg : Str → Option Value} {base : Heap} {x qual : Str} {st : Stmt} {a : Addr} {fd : FuncData} {N ps : List Str} {k n : Nat} {f : FDef} {b : List FV → M (Fl Unit Empty)} {params : Arguments} {body : List Stmt} {scope : Scope}
theorem HasFN.mono (h : HasFN P w K mg base k x ps f) (l : k ≤ n) : HasFN P w K mg base n x ps f := by
  obtain ⟨a, fd, G, e⟩ := h.ex
  exact ⟨a, fd, G.mono l, e⟩
end
end P
/-! P23: classes: the facts at the end, one of several classes, append to a told list. -/
namespace P
open PySem PySem.Spec PyProof.Rows L2 G
theorem CT.tr {X : Cx} {tab : CTab} {pn : List (Addr × Obj)} {xe : Value → Shared → Prop} (c : CT X tab) : CT (X.tr pn xe) tab := ⟨c.ok⟩
theorem CT.of {X X' : Cx} {tab : CTab} (c : CT X tab) (h1 : X'.K = X.K) (h2 : X'.mg = X.mg) : CT X' tab := ⟨by rw [h1, h2]; exact c.ok⟩
section
variable {P : Program} {w : World} {K : PySem.W.Frag} {mg : Str → Option Value} {base : Heap} {c m : Str} {a C : Addr} {fd : FuncData} {ps : List Str} {n : Nat} {f : FDef}
theorem HasM.mono {k : Nat} {ds : List FV} (h : HasM P w K mg base k c m ps ds f) (l : k ≤ n) : HasM P w K mg base n c m ps ds f := by
  obtain ⟨C, a, fd, d, u, G, e⟩ := h.ex
  exact ⟨C, a, fd, d, u, G.mono l, e⟩
theorem HasK.mono {k : Nat} {ds : List FV} (h : HasK P w K mg base k c ps ds f) (l : k ≤ n) : HasK P w K mg base n c ps ds f := by
  obtain ⟨C, a, fd, d, u, M, G, e⟩ := h.ex
  exact ⟨C, a, fd, d, u, M, G.mono l, e⟩
end
section
variable {α β : Type} {X : Cx} {W : WX} {E : Ent} {Γ : Sl} {e o : Expr} {pos apos : Pos} {fe fo : M RV}
theorem Po.of_eq {α : Type} {B : Bs} {μ : Nat → Addr} {n : Nat} {H : Hp} {R : α → FH → (Nat → Addr) → Hp → Prop} {E : XK} {r r' : Rs α} (e : r = r') (p : Po B μ n H R E r) : Po B μ n H R E r' := e ▸ p
end
end P
/-! P24: texts' tests, str of a number, pop and extend of told lists. -/
namespace P
open PySem PySem.Spec PyProof.Rows L2 G
section
variable {α β : Type} {X : Cx} {W : WX} {E : Ent} {Γ : Sl} {e o : Expr} {pos apos p0 : Pos} {fe fo fa : M RV}
theorem VRs.dropLast {B : Bs} {H : Hp} {μ : Nat → Addr} {n : Nat} : ∀ {ds : List FV} {xs : List V}, VRs B H μ n ds xs → VRs B H μ n ds.dropLast xs.dropLast
  | [], _, r => by cases r; exact .nil
  | [d], _, r => by
    cases r with
    | cons a b => cases b; exact .nil
  | d :: d1 :: ds, _, r => by
    cases r with
    | cons a b =>
      cases b with
      | cons a1 b1 => exact .cons a (VRs.dropLast (.cons a1 b1))
end
end P
/-! P25: divmod, list(range(..)), or in a handler. -/
namespace P
open PySem PySem.Spec PyProof.Rows L2 G
end P
/-! P26: xs[::-1], max and min of a list of numbers, and of two. -/
namespace P
open PySem PySem.Spec PyProof.Rows L2 G
end P
/-! P27: xs.index(y) of lists of data. -/
namespace P
open PySem PySem.Spec PyProof.Rows L2 G
end P
/-! P28: t[::-1] and t[:k:-1] of tuples. -/
namespace L2
open PySem PySem.Spec PyProof.Rows HT
section
variable {prog : Program} {w : World} {A : Around} {E : Value → Shared → Prop} {s : Shared}
/-- where a slice that goes backward ends -/
def rCut : Option Int → Nat → Nat
  | none, _ => 0
  | some v, n => min (v.toNat + 1) n
theorem places_rev (n : Nat) (c : Nat) (h : c ≤ n) : Builtin.Slice.slicePlaces ((n : Int) - 1) ((c : Int) - 1) (-1) = n - c := by
  unfold Builtin.Slice.slicePlaces
  have h1 : ¬ ((-1 : Int) > 0) := by omega
  simp only [h1, if_false, Int.neg_neg, Int.ediv_one]
  split <;> omega
theorem adjust_rev (hi : Option Int) (h0 : ∀ v, hi = some v → 0 ≤ v) (n : Nat) : Builtin.Slice.sliceAdjust none hi (-1) (n : Int) = ((n : Int) - 1, ((rCut hi n : Nat) : Int) - 1) := by
  unfold Builtin.Slice.sliceAdjust
  have h1 : ((-1 : Int) < 0) := by omega
  cases hi with
  | none => simp only [h1, if_true, rCut]; simp
  | some v =>
    have := h0 v rfl
    have h2 : ¬ v < 0 := by omega
    simp only [h1, if_true, rCut, h2, if_false, Prod.mk.injEq, true_and]
    omega
theorem sliceApplied_rev {sl : Addr} {vu : Value} {hi : Option Int} {n : Nat} {t : Tok} {Q : Int × Int × Nat → Shared → Prop} (hs : s.heap.IsSliceOf sl .none vu (.int (-1) t)) (pu : IsPart vu hi) (h0 : ∀ v, hi = some v → 0 ≤ v)
    (h : Q ((n : Int) - 1, -1, n - rCut hi n) s) : wpAny (model prog w) A (Builtin.Slice.sliceApplied (.ref sl) (pure (n : Int))) Q E s := by
  obtain ⟨os, hos, hcs, hds⟩ := id hs
  unfold Builtin.Slice.sliceApplied Builtin.Slice.sliceFields
  refine wpAny_bind (wpAny_bind (wpAny_field hos hds (x := .none) rfl (wpAny_bind (wpAny_field hos hds (x := vu) rfl (wpAny_bind (wpAny_field hos hds (x := .int (-1) t) rfl (wpAny_pure ?_)))))))
  refine wpAny_bind (slicePart_int ?_)
  show wpAny _ _ (if ((-1 : Int) == 0) = true then _ else _) _ _ s
  rw [if_neg (by decide)]
  refine wpAny_bind (slicePart_none (wpAny_bind (HT.slicePart_ pu (wpAny_bind (wpAny_pure ?_)))))
  show wpAny _ _ (match Builtin.Slice.sliceAdjust none hi (-1) (n : Int) with | (lo, hi) => pure (lo, (-1 : Int), Builtin.Slice.slicePlaces lo hi (-1))) _ _ s
  rw [adjust_rev hi h0 n]
  show wpAny _ _ (pure (((n : Int) - 1), (-1 : Int), Builtin.Slice.slicePlaces ((n : Int) - 1) (((rCut hi n : Nat) : Int) - 1) (-1))) _ _ s
  rw [places_rev n _ (by unfold rCut; split <;> omega)]
  exact wpAny_pure h
theorem pick_rev (xs : Array Value) (c : Nat) : ((List.range (xs.size - c)).filterMap fun (m : Nat) => xs[(((xs.size : Int) - 1) + (m : Int) * (-1)).toNat]?) = (xs.toList.drop c).reverse := by
  have e : ∀ m, m < xs.size - c → xs[(((xs.size : Int) - 1) + (m : Int) * (-1)).toNat]? = some ((xs.toList.drop c).reverse[m]?.getD .none) := fun m hm => by
    have h1 : (((xs.size : Int) - 1) + (m : Int) * (-1)).toNat = xs.size - 1 - m := by omega
    have h2 : m < (xs.toList.drop c).reverse.length := by rw [List.length_reverse, List.length_drop, Array.length_toList]; exact hm
    rw [h1, List.getElem?_eq_getElem h2, Option.getD_some, List.getElem_reverse, List.getElem_drop, Array.getElem?_eq_getElem (by omega)]
    congr 1
    rw [Array.getElem_toList]
    congr 1
    rw [List.length_drop, Array.length_toList]; omega
  apply List.ext_getElem?
  intro i
  have key : ∀ k, k ≤ xs.size - c → ((List.range k).filterMap fun (m : Nat) => xs[(((xs.size : Int) - 1) + (m : Int) * (-1)).toNat]?) = (xs.toList.drop c).reverse.take k := fun k => by
    induction k with
    | zero => intro _; rfl
    | succ k ih =>
      intro hk
      have h2 : k < (xs.toList.drop c).reverse.length := by rw [List.length_reverse, List.length_drop, Array.length_toList]; omega
      rw [List.range_succ, List.filterMap_append, ih (by omega), List.filterMap_cons, e k (by omega), List.filterMap_nil, List.take_succ, List.getElem?_eq_getElem h2]
      rfl
  rw [key _ (Nat.le_refl _), List.take_of_length_le (by rw [List.length_reverse, List.length_drop, Array.length_toList]; omega)]
theorem getItem_tuple_rev {t sl : Addr} {items : Array Value} {vu : Value} {tk : Tok} {hi : Option Int} {Q : Value → Shared → Prop} (ht : IsTup s.heap t items) (hs : s.heap.IsSliceOf sl .none vu (.int (-1) tk)) (pu : IsPart vu hi) (h0 : ∀ v, hi = some v → 0 ≤ v)
    (h : Q (.ref s.heap.objs.size) { s with heap := s.heap.push { cls := .type "tuple", data := .seq ((items.toList.drop (rCut hi items.size)).reverse).toArray } })
    (hsz : items.size ≤ sizeLine) : wpAny (model prog w) A (getItem (.ref t) (.ref sl)) Q E s := by
  have htake : sizeOk (.seq ((items.toList.drop (rCut hi items.size)).reverse).toArray) := by
    show ((items.toList.drop (rCut hi items.size)).reverse).toArray.size ≤ sizeLine
    rw [List.size_toArray, List.length_reverse, List.length_drop, Array.length_toList]
    omega
  obtain ⟨os, hos, hcs, hds⟩ := id hs
  have hTs : s.TypeIs (.ref sl) "slice" := ⟨os, hos, hcs⟩
  unfold getItem
  try with_reducible refine wpAny_holding ?_
  first | refine wpAny_bind (wpAny_pure ?_) | skip
  refine wpAny_bind (wpAny_sequenceKey ht.typeIs (by decide) ?_)
  refine wpAny_bind (wpAny_callSpecial?_slot (name := Str.ofString "__getitem__") ht.typeIs PyProof.Rows.slot_tuple_getitem
    (wpAny_call_entry PyProof.Rows.slot_tuple_getitem ht.typeIs entry_tuple_getitem ?_ (args_tuple_getitem _ _)))
  show wpAny _ _ (Builtin.Tuple.tupleItemsOf (.ref t) >>= _) _ _ s
  refine wpAny_bind (tupleItemsOf_ ht ?_)
  refine wpAny_bind (wpAny_typeOf hTs ?_)
  rw [if_pos (by decide)]
  refine wpAny_bind (sliceApplied_rev hs pu h0 ?_)
  have hno : ¬ ((((items.size : Int) - 1) == 0 && (-1 : Int) == 1 && (items.size - rCut hi items.size) == items.size) = true) := by
    intro q
    rw [Bool.and_eq_true, Bool.and_eq_true] at q
    exact absurd (eq_of_beq q.1.2) (by decide)
  show wpAny _ _ (if ((((items.size : Int) - 1) == 0 && (-1 : Int) == 1 && (items.size - rCut hi items.size) == items.size)) = true then _ else _) _ _ s
  rw [if_neg hno, pick_rev]
  first
    | exact wpAny_bind (m := Builtin.Tuple.tupleExact _) (wpAny_newObj_type (wpAny_pure ⟨_, rfl, wpAny_pure h⟩) htake)
    | exact wpAny_bind (m := Builtin.Tuple.tupleExact _) (wpAny_newObj_type (wpAny_bind (wpAny_pure (wpAny_pure ⟨_, rfl, wpAny_pure h⟩))) htake)
    | exact wpAny_bind (wpAny_bind (m := Builtin.Tuple.tupleExact _) (wpAny_newObj_type (wpAny_pure (wpAny_pure ⟨_, rfl, wpAny_pure h⟩)) htake))
    | exact wpAny_bind (wpAny_bind (m := Builtin.Tuple.tupleExact _) (wpAny_newObj_type (wpAny_pure ⟨_, rfl, wpAny_pure h⟩) htake))
end
section
variable {X : Cx}
def tRevA (K : PySem.W.Frag) (hi : Option Int) (te : TE) : TE := fun σ H Q => te σ H fun x H1 => ∃ a xs, x = .ref a ∧
  ((SqL K H1 a xs ∧ hi = none ∧ ∀ p, H1 p = none → Q (.ref p) (upd H1 p (.lst xs.reverse))) ∨
   (SqT K H1 a xs ∧ ∀ p, H1 p = none → Q (.ref p) (upd H1 p (.tup (xs.drop (rCut hi xs.length)).reverse))))
theorem Vals.drop' {xs : List V} {us : List Value} (k : Nat) (r : Vals xs us) : Vals (xs.drop k).reverse (us.drop k).reverse := (r.drop k).reverse
theorem pe_revA {e : Expr} {te : TE} {k : Nat} {p1 p2 p3 pos : Pos} {he' : Option Expr} {hi : Option Int} (h0 : ∀ v, hi = some v → 0 ≤ v) (hh : PO X he' (fun σ H Q => Q hi H)) (he : PE X e te) :
    PE X (.Subscript e (.Slice none he' (some (.UnaryOp .USub (.Constant (.int 1) k p1) p2)) p3) pos) (tRevA X.K hi te) := by
  refine ⟨fun pins s σ H Q I h => ?_⟩
  refine Subscript_ (thn (he.run pins s σ H _ I h) fun v s1 ⟨x, H1, I1, r1, q1⟩ => ?_)
  obtain ⟨a, xs, ex, q⟩ := q1
  subst ex
  cases r1
  have hst : PO X (some (.UnaryOp .USub (.Constant (.int 1) k p1) p2)) (tPart (tUn (rU fun i => .int (-i)) (tC (.int 1)))) := po_some (pe_un un_neg pe_int)
  refine wpAny_Slice (thn (po_none.run pins s1 σ H1 (fun o H2 => o = none ∧ H2 = H1) I1 ⟨rfl, rfl⟩) fun vl s2 ⟨l, H2, I2, pl, el, e2⟩ => ?_)
  subst el e2
  refine thn (hh.run pins s2 σ H2 (fun o H3 => o = hi ∧ H3 = H2) I2 ⟨rfl, rfl⟩) fun vu s3 ⟨u, H3, I3, pu, eu, e3⟩ => ?_
  subst eu e3
  refine thn (hst.run pins s3 σ H3 (fun o H4 => o = some (-1) ∧ H4 = H3) I3 ⟨1, rfl, -1, rfl, rfl, rfl⟩) fun vs s4 ⟨o, H4, I4, ps, eo, e4⟩ => ?_
  subst eo e4
  have I5 : Inv X pins σ H4 { s4 with heap := s4.heap.push { cls := .type "slice", data := .fields #[vl, vu, vs] } } := I4.kept (t' := s4.toks) fun b ob q => Heap.get?_push_of_some _ q
  rcases q with ⟨hx, hn, q⟩ | ⟨hx, q⟩
  · subst hn
    obtain ⟨its, r, ht, hz⟩ := I5.list hx
    have hlen := r.length
    show wpAny (model X.prog X.w) X.A (subscriptTail e (.Slice none he' (some (.UnaryOp .USub (.Constant (.int 1) k p1) p2)) p3) (.ref a) (.ref s4.heap.objs.size)) (EP X pins σ Q) X.xe { s4 with heap := s4.heap.push { cls := .type "slice", data := .fields #[vl, vu, vs] } }
    refine tail_any (ops := [.ref a, .ref s4.heap.objs.size]) ht.isList.typeIs (PySem.slot_list_getitem.lookup) ?_ (by with_unfolding_all rfl)
    refine wpAny_getItem_list_slice ht.isList (Heap.IsSliceOf.new _ vl vu vs) pl pu ps (by decide) ?_ (by rw [List.size_toArray]; omega)
    rw [PySem.W.krv_pick]
    refine ⟨.ref _, _, I5.laid (t' := s4.toks) (o := .lst xs.reverse) (fun b ob q => Heap.get?_push_of_some _ q) (Nat.le_refl _) ?_, rfl, q _ (I5.hok.fresh (Nat.le_refl _))⟩
    exact ⟨by rw [List.length_reverse]; exact hz, _, 0, r.reverse, Heap.get?_push_size _ rfl⟩
  · obtain ⟨its, r, ht, hz⟩ := I5.tuple hx
    have hlen := r.length
    cases pl
    cases ps with
    | int i tk =>
    show wpAny (model X.prog X.w) X.A (subscriptTail e (.Slice none he' (some (.UnaryOp .USub (.Constant (.int 1) k p1) p2)) p3) (.ref a) (.ref s4.heap.objs.size)) (EP X pins σ Q) X.xe { s4 with heap := s4.heap.push { cls := .type "slice", data := .fields #[.none, vu, .int (-1) tk] } }
    refine tail_any (ops := [.ref a, .ref s4.heap.objs.size]) ht.typeIs (PyProof.Rows.slot_tuple_getitem.lookup) ?_ (by with_unfolding_all rfl)
    have es : its.toArray.size = xs.length := by rw [List.size_toArray]; exact hlen.symm
    refine getItem_tuple_rev ht (Heap.IsSliceOf.new _ .none vu (.int (-1) tk)) pu h0 ?_ (by rw [es]; exact hz)
    rw [es]
    refine ⟨.ref _, _, I5.laid (t' := s4.toks) (o := .tup (xs.drop (rCut _ xs.length)).reverse) (fun b ob q => Heap.get?_push_of_some _ q) (Nat.le_refl _) ?_, rfl, q _ (I5.hok.fresh (Nat.le_refl _))⟩
    exact ⟨by rw [List.length_reverse, List.length_drop]; omega, _, r.drop' _, IsTup.new _ _⟩
end
end L2
namespace P
open PySem PySem.Spec PyProof.Rows L2 G
section
variable {X : Cx} {W : WX} {E : Ent} {Γ : Sl} {e : Expr} {pos p0 p1' p2 p3 : Pos} {fe : M RV}
def gRevS (hi : Option Nat) (x : RV) (h : FH) : Option RV := match x.seq h with
  | some (false, ds) => match hi with
    | none => some (.l ds.reverse)
    | some _ => none
  | some (true, ds) => match hi with
    | none => some (.v (.tup ds.reverse))
    | some k => some (.v (.tup (ds.drop (k + 1)).reverse))
  | none => none
def ofN : Option Nat → Option Int
  | none => none
  | some k => some (k : Int)
theorem rCut_drop {α : Type} (xs : List α) (k : Nat) : xs.drop (L2.rCut (some (k : Int)) xs.length) = xs.drop (k + 1) := by
  show xs.drop (min ((k : Int).toNat + 1) xs.length) = _
  rw [Int.toNat_natCast]
  by_cases h : k + 1 ≤ xs.length
  · rw [Nat.min_eq_left h]
  · rw [Nat.min_eq_right (by omega), List.drop_length, List.drop_eq_nil_of_le (by omega)]
theorem je_rev_aux {j : Nat} {hi : Option Nat} {he' : Option Expr} (hh : PO X he' (fun _ H Q => Q (ofN hi) H)) (he : JE X W E Γ e fe) :
    JE X W E Γ (.Subscript e (.Slice none he' (some (.UnaryOp .USub (.Constant (.int 1) j p1') p2)) p3) pos) (bnd fe fun x => oU (gRevS hi) x) := fun μ h σ H Q s p =>
  wE.of (pe_revA (fun v hv => by cases hi with
    | none => cases hv
    | some k => cases hv; exact Int.natCast_nonneg k) hh pe_w) (he μ h σ H _ s (Po.mono (Po.bind p) fun x h1 μ1 H1 _ s1 hr1 p1 u ru => by
    obtain ⟨z, hz, p2⟩ := p1.lift
    unfold gRevS at hz
    split at hz
    · rename_i ds e1
      split at hz
      · cases hz
        obtain ⟨a, xs, rfl, h4, h5⟩ := seqL_ok hr1 ru e1
        exact ⟨a, xs, rfl, .inl ⟨h5, rfl, fun q hq => p2.last hr1 (same_new hq) _ (rr_lst hr1 s1.th hq h4.rev)⟩⟩
      · cases hz
    · rename_i ds e1
      obtain ⟨a, xs, rfl, h4, h5⟩ := seqT_ok hr1 ru e1
      split at hz
      · cases hz
        refine ⟨a, xs, rfl, .inr ⟨h5, fun q hq => p2.last hr1 (same_new hq) _ ?_⟩⟩
        exact rr_tup hq (h4.drop 0).rev
      · rename_i k
        cases hz
        refine ⟨a, xs, rfl, .inr ⟨h5, fun q hq => p2.last hr1 (same_new hq) _ ?_⟩⟩
        rw [show ofN (some k) = some (k : Int) from rfl, rCut_drop]
        exact rr_tup hq (h4.drop (k + 1)).rev
    · cases hz))
theorem je_revS {j : Nat} (he : JE X W E Γ e fe) : JE X W E Γ (.Subscript e (.Slice none none (some (.UnaryOp .USub (.Constant (.int 1) j p1') p2)) p3) pos) (bnd fe fun x => oU (gRevS none) x) :=
  je_rev_aux (hi := none) ⟨fun pins s σ H Q I h => po_none.run pins s σ H Q I h⟩ he
end
end P
/-! P29: padding, f-strings, max with a default, += of texts. -/
namespace P
open PySem PySem.Spec PyProof.Rows L2 G
end P
/-! P30: a dict spread into a display, one pair behind it. -/
namespace L2
open PySem PySem.Spec PyProof.Rows
end L2
namespace L2
open PySem PySem.Spec PyProof.Rows
end L2
namespace P
open PySem PySem.Spec PyProof.Rows L2 G
end P
/-! P32: the truth of values. -/
namespace P
open PySem PySem.Spec PyProof.Rows L2 G
def gTru (x : RV) (h : FH) : Option Bool := match x with
  | .v (.bl b) => some b
  | .v (.int i) => some (i != 0)
  | .v (.str y) => if y.length ≤ LIM then some ((y.length : Int) != 0) else none
  | .v .non => some false
  | x => match x.seq h with
    | some (_, ds) => some (!ds.isEmpty)
    | none => none
def oTru (x : RV) : M Bool := lift (gTru x)
end P
/-! P33: enumerate(xs, start=k), reversed(range(n)), split, count, rfind, += of fields, own.pop(). -/
namespace P
open PySem PySem.Spec PyProof.Rows L2 G
/-! ### enumerate(list, start=k) -/
/-! ### an empty tuple as the value of what is left out -/
/-! ### own.pop() -/
def oPopO (ds : List FV) : M (FV × List FV) := match ds.getLast? with
  | some d => pur (d, ds.dropLast)
  | none => fail
section
variable {X : Cx} {W : WX} {E : Ent} {Γ : Sl} {Γx : Option Sl} {α β : Type} {eα : α → Sl} {eβ : β → Sl} {rest : List Stmt} {px py p0 apos pos : Pos}
theorem jb_popV (i j : Nat) {ds : List FV} {x y : Str} {Γ' : FV → List FV → Sl} {kk : FV → List FV → M (Fl α β)} (w : SubX Γx Γ) (hNd : X.N.Nodup) (hk : ∀ d l, JB X W E Γx eα eβ (Γ' d l) rest (kk d l)) (q : sg Γ j = some (.l ds) := by rfl)
    (hΓ : ∀ d l, (Γ.set j (some (.l l))).set i (some (.v d)) = Γ' d l := by intro _ _; rfl)
    (hN : X.N[j]? = some x := by rfl) (hi : X.N[i]? = some y := by rfl) (hy : Loc X.env.scope y := by first | exact Or.inl rfl | exact Or.inr rfl) (hv : Vis X.env.scope x := by first | exact Or.inl rfl | exact Or.inr (Or.inl rfl) | exact Or.inr (Or.inr rfl)) (hd : (x == ("__debug__" : Str)) = false := by decide) (hcd : (x == ("__classdict__" : Str)) = false := by decide)
    (pe : ∀ {to : TE}, PE X (.Name x px) to → PE X (.Call (.Attribute (.Name x px) "pop" apos) [] [] p0) (tBM0 X.K "list" rPop to) := by intro to h1; exact pe_bm0 PySem.F.plainAttrs_list PySem.F.slot_list_pop PySem.F.type_list_pop mt_pop h1)
    (hs : swapsWith (.Call (.Attribute (.Name x px) "pop" apos) [] [] p0) (some (.Name y py)) pos.line X.env = pure false := by rfl) (hf : X.fn y = true ∨ X.env.scope.names.lookup y = some .local := by first | exact .inl rfl | exact .inr rfl | assumption) :
    JB X W E Γx eα eβ Γ (.Assign [.Name y py] (.Call (.Attribute (.Name x px) "pop" apos) [] [] p0) pos :: rest) (bnd (oPopO ds) fun r => kk r.1 r.2) := fun μ h σ H D s p => by
  have eq := sg_get q
  obtain ⟨u, h1', h2⟩ := s.sl j _ eq
  obtain ⟨p', xs, rfl, f, a, b⟩ := own_l h2
  unfold oPopO at p
  cases ql : ds.getLast? with
  | none => rw [ql] at p; exact p.elim
  | some d =>
    rw [ql] at p
    have hd' : ds[ds.length - 1]? = some d := by rw [← List.getLast?_eq_getElem?]; exact ql
    obtain ⟨v, v1, v2⟩ := b.get hd'
    refine wcons (wS.of (ps_set hNd hi hy (pe (pe_var hN hv hd hcd)) hs hf) ⟨.ref p', h1', .inl ⟨rfl, xs, SqL.of a⟩, p', xs, v, rfl, rfl, a, by rw [b.len]; exact v1, ?_⟩)
    have mu : Mut (H p') := by rw [a]; trivial
    have g := gw_mut (o := .lst xs.dropLast) mu
    have s4 := s.chg (o := .lst xs.dropLast) (r' := .l ds.dropLast) rfl eq h1' f.1 f.2 mu (.l f upd_same (VRs.mono g (fun _ _ => rfl) (Nat.le_refl _) _ _ b.dropLast))
    have s5 := s4.putV (i := i) (VR.mono g (fun _ _ => rfl) (Nat.le_refl _) _ _ v2)
    rw [hΓ] at s5
    exact hk d ds.dropLast μ h _ _ D s5 (PoN.at' p (StW.of g))
/-! ### self.f += j -/
end
end P
/-! P34: errors with fields: super().__init__(..) in an own error class. -/
namespace P
open PySem PySem.Spec PyProof.Rows L2 G
/-! ### the __init__ as a def -/
/-! ### two fields that are the two arguments -/
def small (i : Int) : Prop := i.natAbs.log2 < 1900 ∧ (Str.ofString (toString i)).length ≤ 100000
instance (i : Int) : Decidable (small i) := by unfold small; infer_instance
/-! ### raise x(e1, e2) -/
end P
/-! P35: errors with fields caught. -/
namespace P
open PySem PySem.Spec PyProof.Rows L2 G
/-- the fields of an error, in the heap -/
def XAt (B : Bs) (μ : Nat → Addr) (n : Nat) (H : Hp) (fs : Option (List (Str × FV))) (d : Option Addr) : Prop := match fs with
  | none => d = none
  | some fs => ∃ a ws, d = some a ∧ H a = some (.xd ws) ∧ KvR B H μ n fs ws
theorem XAt.step {B : Bs} {μ μ' : Nat → Addr} {h : FH} {n' : Nat} {H H' : Hp} {fs : Option (List (Str × FV))} {d : Option Addr} (x : XAt B μ h.length H fs d) (hr : HR B μ h H) (s : Step μ h.length H μ' n' H') : XAt B μ' n' H' fs d := by
  cases fs with
  | none => exact x
  | some fs =>
    obtain ⟨a, ws, h1, h2, h3⟩ := x
    refine ⟨a, ws, h1, s.fr _ _ h2 fun i hi z => ?_, h3.mono s.gw s.ext s.le⟩
    have q := hr.at' i h[i] (List.getElem?_eq_getElem hi)
    rw [z] at q
    cases hh : h[i] with
    | lst ds => rw [hh] at q; obtain ⟨xs, q1, _⟩ := q; rw [h2] at q1; cases q1
    | dK ds => rw [hh] at q; obtain ⟨xs, q1, _⟩ := q; rw [h2] at q1; cases q1
    | dT ds => rw [hh] at q; obtain ⟨xs, q1, _⟩ := q; rw [h2] at q1; cases q1
    | ins c ds => rw [hh] at q; obtain ⟨C, dx, xs, _, q1, _⟩ := q; rw [h2] at q1; cases q1
    | lk ds => rw [hh] at q; obtain ⟨xs, od, q1, _⟩ := q; rw [h2] at q1; cases q1
section
variable {α β γ : Type} {X : Cx} {W : WX} {E : Ent} {Γx : Option Sl} {eα : α → Sl} {eγ : γ → Sl} {eβ : β → Sl} {Γ Γ' : Sl} {rest body suite : List Stmt} {b₀ : Stmt} {pos p0 p p2 pos' np : Pos} {e : Expr} {fe : M RV}
def JEx (X : Cx) (i : Nat) (a : Addr) (fs : Option (List (Str × FV))) (d : Option Addr) (E : Ent) (Γ : Sl) (e : Expr) (fe : M RV) : Prop :=
  ∀ μ h σ H Q, SR (bs X) E μ Γ h σ H → σ[i]? = some (some (.ref a)) → XAt (bs X) μ h.length H fs d → Po (bs X) μ h.length H (fun r h' μ' H' => ∀ u, RR (bs X) H μ' h'.length H' r u → Q u H') (fun _ _ _ => False) (fe h) → wE X e σ H Q
/-! what a handler does -/
section
variable {i : Nat} {a : Addr} {fs : Option (List (Str × FV))} {d : Option Addr} {es : List Expr} {e1 e2 c : Expr} {f1' f2' fb : M RV} {tb t u : M Bool} {k : M (Fl α β)} {p1 : Pos}
theorem JEx.to {f g : M RV} (h : JEx X i a fs d E Γ e f) (q : ∀ h, f h = g h) : JEx X i a fs d E Γ e g := fun μ h0 σ H Q s hs hx p => h μ h0 σ H Q s hs hx (by rw [q]; exact p)
theorem XAt.xd {B : Bs} {μ : Nat → Addr} {n : Nat} {H : Hp} {fs : Option (List (Str × FV))} {d : Option Addr} (x : XAt B μ n H fs d) : ∀ dd, d = some dd → ∃ ws, H dd = some (.xd ws) := fun dd e => by
  subst e
  cases fs with
  | none => cases x
  | some fs =>
    obtain ⟨a, ws, h1, h2, _⟩ := x
    cases h1
    exact ⟨ws, h2⟩
/-- classes of errors whose fields may be read -/
structure XT (K : PySem.W.Frag) (mg : Str → Option Value) (tab : CTab) : Prop where
  ok : ∀ c fs, (c, fs) ∈ tab → ∃ C, mg c = some (.ref C) ∧ XfC K C ∧ ∀ f, f ∈ fs → PySem.W.findIn K (.ref C) f = some none
theorem JEx.val {i : Nat} {a : Addr} {fs : Option (List (Str × FV))} {d : Option Addr} {σ : L2.St} {Q : VK} {μ : Nat → Addr} {h : FH} {H : Hp} (ha : JEx X i a fs d E Γ e fe) (s : SR (bs X) E μ Γ h σ H) (hs : σ[i]? = some (some (.ref a))) (hx : XAt (bs X) μ h.length H fs d)
    (p : Po (bs X) μ h.length H (fun d h' μ' H' => ∀ u, VR (bs X) H' μ' h'.length d u → Q u H') (fun _ _ _ => False) (mV fe h)) : wE X e σ H Q :=
  wE.gh (ha μ h σ H _ s hs hx (Po.mono (Po.vF p) fun x h1 μ1 H1 _ s1 hr1 p1 u ru => by
    obtain ⟨d, _, g⟩ := p1 u ru
    exact g.mono fun H2 z => z.2.2.2.2.2 u z.2.2.1))
end
end
end P
/-! P36: for over a list that is told (looked at anew at each turn: it must be the same). -/
namespace P
open PySem PySem.Spec PyProof.Rows L2 G
end P
/-! P37: y = own.pop(), for a continuation that takes the pair. -/
namespace P
open PySem PySem.Spec PyProof.Rows L2 G
section
variable {X : Cx} {W : WX} {E : Ent} {Γ : Sl} {Γx : Option Sl} {α β : Type} {eα : α → Sl} {eβ : β → Sl} {rest : List Stmt} {px py p0 apos pos : Pos}
theorem jb_popW (i j : Nat) {ds : List FV} {x y : Str} (Γ' : FV × List FV → Sl) {kk : FV × List FV → M (Fl α β)} (w : SubX Γx Γ) (hNd : X.N.Nodup) (hk : ∀ r, JB X W E Γx eα eβ (Γ' r) rest (kk r)) (q : sg Γ j = some (.l ds) := by rfl)
    (hΓ : ∀ d l, (Γ.set j (some (.l l))).set i (some (.v d)) = Γ' (d, l) := by intro _ _; rfl)
    (hN : X.N[j]? = some x := by rfl) (hi : X.N[i]? = some y := by rfl) (hy : Loc X.env.scope y := by first | exact Or.inl rfl | exact Or.inr rfl) (hv : Vis X.env.scope x := by first | exact Or.inl rfl | exact Or.inr (Or.inl rfl) | exact Or.inr (Or.inr rfl)) (hd : (x == ("__debug__" : Str)) = false := by decide) (hcd : (x == ("__classdict__" : Str)) = false := by decide)
    (pe : ∀ {to : TE}, PE X (.Name x px) to → PE X (.Call (.Attribute (.Name x px) "pop" apos) [] [] p0) (tBM0 X.K "list" rPop to) := by intro to h1; exact pe_bm0 PySem.F.plainAttrs_list PySem.F.slot_list_pop PySem.F.type_list_pop mt_pop h1)
    (hs : swapsWith (.Call (.Attribute (.Name x px) "pop" apos) [] [] p0) (some (.Name y py)) pos.line X.env = pure false := by rfl) (hf : X.fn y = true ∨ X.env.scope.names.lookup y = some .local := by first | exact .inl rfl | exact .inr rfl | assumption) :
    JB X W E Γx eα eβ Γ (.Assign [.Name y py] (.Call (.Attribute (.Name x px) "pop" apos) [] [] p0) pos :: rest) (bnd (oPopO ds) kk) :=
  jb_popV (kk := fun d l => kk (d, l)) (Γ' := fun d l => Γ' (d, l)) i j w hNd (fun d l => hk (d, l)) q hΓ hN hi hy hv hd hcd pe hs hf
end
end P
/-! P38: a def that is given the error that its caller handles. -/
namespace P
open PySem PySem.Spec PyProof.Rows L2 G
/-- what a def promises whose first argument is the handled error q -/
structure FnX (P : Program) (w : World) (K : PySem.W.Frag) (mg : Str → Option Value) (base : Heap) (k : Nat) (f : Addr) (fd : FuncData) (ps : List Str) (sp : Addr × Obj → List V → Hp → VK → Prop) : Prop where
  len : ∀ q vs H Q, sp q vs H Q → vs.length = ps.length
  run : ∀ (A : Around) (outer : List Env) (s : Shared) (H : Hp) (args : Args) (us : List Value) (vs : List V) (Q : VK) (q : Addr × Obj), L2H.RoomH k A → A.handled = some (.ref q.1) → L2H.PinOk outer H s q → Env0 P w K mg base A outer s H → BindsTo s fd args (ps.zip us) → Vals vs us → sp q vs H Q →
    codeAny (model P w) A (.call (.ref f) args) (CR (L2.CX P w) outer P w H s Q E0) s
section
variable {P : Program} {w : World} {K : PySem.W.Frag} {mg : Str → Option Value} {base : Heap}
theorem FnX.mono {j k : Nat} {f : Addr} {fd : FuncData} {ps : List Str} {sp : Addr × Obj → List V → Hp → VK → Prop} (F : FnX P w K mg base j f fd ps sp) (h : j ≤ k) : FnX P w K mg base k f fd ps sp :=
  ⟨F.len, fun A outer s H args us vs Q q r => F.run A outer s H args us vs Q q (r.mono h)⟩
/-- what is said of such a def: the error's class and fields, the other arguments -/
def spX (B : Bs) (mg : Str → Option Value) (f : Exn → FDef) : Addr × Obj → List V → Hp → VK → Prop := fun q vs H Q => ∃ μ h ds us z C d, vs = .ref q.1 :: us ∧ mg z.cls = some (.ref C) ∧ ExcC B.K C ∧ Zc (.ref C) d q.2 ∧ (∃ ws, q.2.data = .fields ws) ∧
  HR B μ h H ∧ XAt B μ h.length H z.fs d ∧ VRs B H μ h.length ds us ∧ Po B μ h.length H (fun r h' μ' H' => ∀ u, RR B H μ' h'.length H' r u → Q u H') (fun _ _ _ => False) (f z ds h)
structure HasX (P : Program) (w : World) (K : PySem.W.Frag) (mg : Str → Option Value) (base : Heap) (n : Nat) (x : Str) (ps : List Str) (f : Exn → FDef) : Prop where
  ex : ∃ a fd, FnX P w K mg base n a fd ps (spX ⟨K, mg⟩ mg f) ∧ mg x = some (.ref a) ∧ PySem.W.keepIn K (.ref a) = true ∧ Binds K fd ps []
theorem FnX.imp {n : Nat} {a : Addr} {fd : FuncData} {ps : List Str} {f g : Exn → FDef} (G : FnX P w K mg base n a fd ps (spX ⟨K, mg⟩ mg f)) (e : ∀ z ds, f z ds = g z ds) : FnX P w K mg base n a fd ps (spX ⟨K, mg⟩ mg g) := by
  have : f = g := funext fun z => funext (e z)
  rwa [← this]
end
/-! ### the call in the handler -/
/-! ### own.pop(i) -/
/-! ### a[b] where an error is handled -/
/-! ### a def with default values, called in the body of a try -/
theorem JB.sub {α β : Type} {X : Cx} {W : WX} {E : Ent} {Γx : Option Sl} {eα : α → Sl} {eβ : β → Sl} {Γ Γ' : Sl} {sts : List Stmt} {f : M (Fl α β)} (h : JB X W E Γx eα eβ Γ sts f) (w : Sub Γ Γ') : JB X W E Γx eα eβ Γ' sts f := fun μ h0 σ H D s p => h μ h0 σ H D (s.sub w) p
/-! ### a new object that gets a number where it stands -/
end P
/-! P39: a list extended by a tuple. -/
namespace P
open PySem PySem.Spec PyProof.Rows L2 G
theorem list_extend_tup (l : Addr) (items : Array Value) (n : Nat) (b : Addr) (o2 : Obj) (items2 : Array Value) (n2 : Nat) (hc : o2.cls = .type "tuple") (hd : o2.data = .seq items2 n2) (hs0 : ¬(!items.isEmpty && Builtin.List.listTooLong (items.size + items2.size)) = true) (hs1 : items.size ≤ sizeLine) (hs2 : items.size + items2.size ≤ sizeLine + 1) :
    Meets (Builtin.«list.extend» ⟨[.ref l, .ref b], []⟩) (fun _ R s => s.heap.get? l = some { cls := .type "list", dict := none, data := .seq items n, slots := #[] } ∧ s.heap.get? b = some o2 ∧ R (.ok (.ret Value.none)) { s with heap := s.heap.update l (Obj.mapSeq fun x => x ++ items2), toks := s.toks }) :=
  .of_wp fun prog w A R s h => by
    obtain ⟨cls, dict, data, slots⟩ := o2
    dsimp only at hc hd
    subst hc; subst hd
    obtain ⟨hp, g, d, tk, os⟩ := s; obtain ⟨hl, hb, h⟩ := h; have f1 := PySem.AutoSeq1.idx_int; have f2 := PySem.AutoSeq1.sub_tuple_tuple; have f3 := PySem.AutoSeq1.sub_list_list; have f4 := PySem.AutoSeq1.sub_tuple_list; have f5 := PySem.AutoSeq1.sub_list_tuple;
    have hz' : (items ++ items2).size ≤ sizeLine + 1 := by rw [Array.size_append]; exact hs2
    wp_walk using (PySem.wpAny_updateSeq hl rfl (hz := hs1) (_hz' := hz')), PySem.AutoSeq1.wpAny_loadPart' hl, PySem.AutoSeq1.wpAny_loadPart' hb; exact ⟨_, rfl, h⟩
/-- a list or a tuple is put behind -/
def rExtU (K : PySem.W.Frag) : V → List V → Hp → VK → Prop := fun x vs H Q => ∃ l b xs zs, x = .ref l ∧ vs = [.ref b] ∧ H l = some (.lst xs) ∧ (Rd H b (.lst zs) ∨ SqT K H b zs) ∧ xs.length + zs.length ≤ sizeLine ∧ Q .non (upd H l (.lst (xs ++ zs)))
section
variable {X : Cx}
theorem mt_extU : MtM X "list.extend" (rExtU X.K) := by
  rintro pins s σ H x0 v0 v us Q I rx rv ⟨l, b, xs, zs, rfl, rfl, hH, hB | hB, hz, q⟩
  · exact mt_extR pins s σ H _ _ v us Q I rx rv ⟨l, b, xs, zs, rfl, rfl, hH, hB, hz, q⟩
  · obtain rfl : v = .ref l := rx
    obtain ⟨u, rfl, ru⟩ := rv.one
    obtain rfl : u = .ref b := ru
    obtain ⟨_, ia, na, wa, ea⟩ := (Rd.of hH).ok I.hok
    obtain ⟨ib, wb, ⟨o2, eb, hc, nb, hd⟩, _⟩ := I.tuple hB
    have l1 := wa.length
    have l2 := wb.length
    have small : ia.toArray.size + ib.toArray.size ≤ sizeLine := by simp only [List.size_toArray]; omega
    have room : ¬ (!ia.toArray.isEmpty && Builtin.List.listTooLong (ia.toArray.size + ib.toArray.size)) = true := by
      rw [notLongL small, Bool.and_false]; decide
    have one : ia.toArray.size ≤ sizeLine := by omega
    have two : ia.toArray.size + ib.toArray.size ≤ sizeLine + 1 := by omega
    refine call_meets PySem.F.slot_list_extend ⟨_, ea, rfl⟩ PySem.F.entry_list_extend (PySem.F.args_list_extend_2 _ _) (list_extend_tup l ia.toArray na b o2 ib.toArray nb hc hd room one two) ⟨ea, eb, ?_⟩
    have len : (xs ++ zs).length ≤ sizeLine := by rw [List.length_append]; exact hz
    exact ⟨.non, _, I.lset (its' := ia ++ ib) hH ea (by simp) (wa.append wb) len, rfl, q⟩
end
def oLu (d : FV) : M (List FV) := match d with | .fl ds => pur ds | .tup ds => pur ds | _ => fail
section
variable {α β γ δ : Type} {X : Cx} {W : WX} {E : Ent} {Γx : Option Sl} {eα : α → Sl} {eβ : β → Sl} {Γ Γ' : Sl} {e a b c o i tg iter elt : Expr} {es : List Expr} {pos apos p0 p1 p2 px : Pos} {fe fo fi fa fb fc : M RV} {rest body : List Stmt} {os : List Nat} {n k : Nat} {scope : Scope} {src : M (List FV)}
theorem jb_extendU (j : Nat) {ds : List FV} {x : Str} {Γ' : List FV → Sl} {kk : List FV → M (Fl α β)} (w : SubX Γx Γ) (he : JE X W E Γ e fe) (hk : ∀ d, JB X W E Γx eα eβ (Γ' d) rest (kk d)) (q : sg Γ j = some (.l ds) := by rfl) (hΓ : ∀ d, Γ.set j (some (.l d)) = Γ' d := by intro _; rfl)
    (hN : X.N[j]? = some x := by rfl) (hv : Vis X.env.scope x := by first | exact Or.inl rfl | exact Or.inr (Or.inl rfl) | exact Or.inr (Or.inr rfl)) (hd : (x == ("__debug__" : Str)) = false := by decide) (hcd : (x == ("__classdict__" : Str)) = false := by decide)
    (pe : ∀ {to : TE} {t : TA}, PE X (.Name x px) to → PA X [e] t → PE X (.Call (.Attribute (.Name x px) "extend" apos) [e] [] p0) (tBM X.K "list" (rExtU X.K) to t) := by intro to t h1 h2; exact pe_bm PySem.F.plainAttrs_list PySem.F.slot_list_extend PySem.F.type_list_extend mt_extU h1 h2)
    (hs : swapsWith (.Call (.Attribute (.Name x px) "extend" apos) [e] [] p0) none pos.line X.env = pure false := by rfl) (h1 : starEach (e :: []) X.env = (false, eval e X.env) :: starEach [] X.env := by exact star1 rfl) :
    JB X W E Γx eα eβ Γ (.Expr (.Call (.Attribute (.Name x px) "extend" apos) [e] [] p0) pos :: rest) (bnd (mV fe) fun d => bnd (oLu d) fun es => bnd (oExt ds es) kk) := fun μ h σ H D s p => by
  have eq := sg_get q
  obtain ⟨u, h1', h2⟩ := s.sl j _ eq
  obtain ⟨p', xs, rfl, f, a, b⟩ := own_l h2
  refine wcons (wS.of (ps_expr (pe (pe_var hN hv hd hcd) (pa_cons pe_w pa_nil h1)) hs) ⟨.ref p', h1', .inl ⟨rfl, xs, SqL.of a⟩, PoN.val he s w p fun d h3 μ3 H3 u3 sw s3 v3 p3 => ?_⟩)
  obtain ⟨u', k1, k2⟩ := s3.sl j _ eq
  rw [h1'] at k1; cases k1
  obtain ⟨p'', ys, e', f', a', b'⟩ := own_l k2
  cases e'
  unfold oLu at p3
  split at p3
  · rename_i es
    cases v3 with
    | fl z1 z2 =>
      rename_i pa zs
      have p4 : PoN (bs X) E μ3 h3.length H3 D W Γx eα eβ (bnd (oExt ds es) kk h3) := p3
      unfold oExt at p4
      by_cases hl : ds.length + es.length ≤ LIM
      · rw [if_pos hl] at p4
        refine ⟨p', _, ys, _, rfl, rfl, a', .inl z1.rd, by rw [b'.len, z2.len]; exact lim_le hl, ?_⟩
        have mu : Mut (H3 p') := by rw [a']; trivial
        have g := gw_mut (o := .lst (ys ++ zs)) mu
        have s4 := s3.chg (o := .lst (ys ++ zs)) (r' := .l (ds ++ es)) rfl eq h1' f'.1 f'.2 mu (.l f' upd_same (VRs.mono g (fun _ _ => rfl) (Nat.le_refl _) _ _ (b'.append z2)))
        rw [hΓ] at s4
        exact hk (ds ++ es) μ3 h3 σ _ D s4 (PoN.at' p4 (StW.of g))
      · rw [if_neg hl] at p4; exact p4.elim
  · rename_i es
    cases v3 with
    | tup z1 z2 =>
      rename_i pa zs
      have p4 : PoN (bs X) E μ3 h3.length H3 D W Γx eα eβ (bnd (oExt ds es) kk h3) := p3
      unfold oExt at p4
      by_cases hl : ds.length + es.length ≤ LIM
      · rw [if_pos hl] at p4
        refine ⟨p', _, ys, _, rfl, rfl, a', .inr z1, by rw [b'.len, z2.len]; exact lim_le hl, ?_⟩
        have mu : Mut (H3 p') := by rw [a']; trivial
        have g := gw_mut (o := .lst (ys ++ zs)) mu
        have s4 := s3.chg (o := .lst (ys ++ zs)) (r' := .l (ds ++ es)) rfl eq h1' f'.1 f'.2 mu (.l f' upd_same (VRs.mono g (fun _ _ => rfl) (Nat.le_refl _) _ _ (b'.append z2)))
        rw [hΓ] at s4
        exact hk (ds ++ es) μ3 h3 σ _ D s4 (PoN.at' p4 (StW.of g))
      · rw [if_neg hl] at p4; exact p4.elim
  · exact p3.elim
end
end P
namespace P
open PySem PySem.Spec PyProof.Rows L2 G
end P
namespace P
open PySem PySem.Spec PyProof.Rows L2 G
end P
/-! P40: a def at a level stands at every higher one. -/
namespace P
open PySem PySem.Spec PyProof.Rows L2 G
section
variable {Q : Program} {w : World} {K : PySem.W.Frag} {mg : PySem.Str → Option Value} {base : Heap} {j k : Nat} {x c m : PySem.Str} {ps : List PySem.Str} {ds : List FV} {f : FDef}
theorem HasF.up (h : HasF Q w K mg base j x ps f) (l : j ≤ k) : HasF Q w K mg base k x ps f := by
  obtain ⟨a, fd, F, r⟩ := h.ex
  exact ⟨⟨a, fd, F.mono l, r⟩⟩
theorem HasFN.up (h : HasFN Q w K mg base j x ps f) (l : j ≤ k) : HasFN Q w K mg base k x ps f := by
  obtain ⟨a, fd, F, r⟩ := h.ex
  exact ⟨⟨a, fd, F.mono l, r⟩⟩
theorem HasM.up (h : HasM Q w K mg base j c m ps ds f) (l : j ≤ k) : HasM Q w K mg base k c m ps ds f := by
  obtain ⟨C, a, fd, dvs, us, F, r⟩ := h.ex
  exact ⟨⟨C, a, fd, dvs, us, F.mono l, r⟩⟩
theorem HasK.up (h : HasK Q w K mg base j c ps ds f) (l : j ≤ k) : HasK Q w K mg base k c ps ds f := by
  obtain ⟨C, a, fd, dvs, us, m, F, r⟩ := h.ex
  exact ⟨⟨C, a, fd, dvs, us, m, F.mono l, r⟩⟩
theorem HasD.up (h : HasD Q w K mg base j x ps ds f) (l : j ≤ k) : HasD Q w K mg base k x ps ds f := by
  obtain ⟨a, fd, dvs, us, F, r⟩ := h.ex
  exact ⟨⟨a, fd, dvs, us, F.mono l, r⟩⟩
theorem HasX.up {f : Exn → FDef} (h : HasX Q w K mg base j x ps f) (l : j ≤ k) : HasX Q w K mg base k x ps f := by
  obtain ⟨a, fd, F, r⟩ := h.ex
  exact ⟨⟨a, fd, F.mono l, r⟩⟩
end
end P
/-! P41: list(zip(a, b)), a a tuple, b a list: the tuples stay out while the zip goes on. -/
namespace LZ
open PySem
open PySem.Sem (wp)
section
variable {prog : Program} {w : World} {A : Around} {E : Value → Shared → Prop} {s : Shared} {z TI TO i1 i2 T S : Addr} {f : Bool} {oT : Obj} {fp1 fp2 : List Addr} {n1 n2 i : Nat} {P1 P2 : Nat → Value → Prop} {St1 St2 : Nat → Heap → Prop} {a1 a2 : Value}
theorem nx_held {Q : Value → Shared → Prop} (Z : ZipSep2 z TI TO i1 i2 fp1 fp2) (D1 : Draws prog w A i1 fp1 n1 P1 St1) (D2 : Draws prog w A i2 fp2 n2 P2 St2)
    (hz : IsZipHeld s.heap z TI TO T f) (hT : s.heap.get? T = some oT) (hTI : IsTupOf2 s.heap TI (.ref i1) (.ref i2)) (st1 : St1 i s.heap) (st2 : St2 i s.heap) (hlt1 : i < n1) (hlt2 : i < n2)
    (hQ : ∀ x1 x2 h' tk, P1 i x1 → P2 i x2 → IsZipHeld h' z TI TO T true → St1 (i + 1) h' → St2 (i + 1) h' → IsTupOf2 h' s.heap.objs.size x1 x2 → h'.objs.size = s.heap.objs.size + 1 →
      (∀ c o, c ≠ z → c ≠ i1 → c ≠ i2 → s.heap.get? c = some o → h'.get? c = some o) → Q (.ref s.heap.objs.size) { s with heap := h', toks := tk }) :
    wpAny (model prog w) A (Builtin.«zip.__next__» ⟨[.ref z], []⟩) (fun fin s' => ∃ v, fin = .done (.ret v) ∧ Q v s') E s := by
  obtain ⟨hp, g, d, tk0, os⟩ := s
  show wpAny _ _ (field (.ref z) 2 >>= _) _ _ _
  refine wpAny_bind (wpAny_field hz rfl (x := .bool false) rfl ?_)
  show wpAny _ _ (field (.ref z) 3 >>= _) _ _ _
  refine wpAny_bind (wpAny_field hz rfl (x := .ref TI) rfl ?_)
  refine wpAny_bind (wpAny_seqItems hTI rfl ?_)
  show wpAny _ _ (Builtin.SmallTypes.ownedTupleIsFree (.ref z) >>= _) _ _ _
  refine wpAny_bind (PySem.wpAny_tupleHeld_zip hz hT fun h₁ hz₁ hs₁ => ?_)
  simp only [Bool.false_eq_true, if_false]
  replace hs₁ : Heap.SameBut z hp h₁ := hs₁
  refine wpAny_bind ?_
  rw [← Array.forIn_toList]
  simp only [List.forIn_cons, List.forIn_nil]
  refine wpAny_bind (wpAny_bind (wpAny_holding ?_))
  show wpAny _ _ (Builtin.SmallTypes.nextOf (.ref i1) >>= _) _ _ ⟨h₁, g, d, tk0, os⟩
  refine wpAny_bind (D1.item i _ _ _ hlt1 (D1.over st1 hs₁ Z.zf1) fun x1 p1 tk1 hx1 sn1 hp1 => wpAny_pure ?_)
  replace hp1 : Heap.SameBut i1 h₁ p1 := hp1
  refine wpAny_pure ?_
  refine wpAny_bind (wpAny_bind (wpAny_holding ?_))
  show wpAny _ _ (Builtin.SmallTypes.nextOf (.ref i2) >>= _) _ _ ⟨p1, g, d, tk1, os⟩
  refine wpAny_bind (D2.item i _ _ _ hlt2 (D2.over (D2.over st2 hs₁ Z.zf2) hp1 Z.sep1_2) fun x2 p2 tk2 hx2 sn2 hp2 => wpAny_pure ?_)
  replace hp2 : Heap.SameBut i2 p1 p2 := hp2
  refine wpAny_pure (wpAny_pure ?_)
  show wpAny _ _ (newTuple [x1, x2] >>= _) _ _ ⟨p2, g, d, tk2, os⟩
  refine wpAny_bind (wpAny_newTuple ?_)
  have hsz : p2.objs.size = hp.objs.size := by rw [hp2.1, hp1.1, hs₁.1]
  have hzz : IsZipHeld p2 z TI TO T true := hp2.extBut _ _ Z.zi2 (hp1.extBut _ _ Z.zi1 hz₁)
  have hk : ∀ c o, c ≠ z → c ≠ i1 → c ≠ i2 → hp.get? c = some o → p2.get? c = some o := fun c o c1 c2 c3 e => hp2.extBut _ _ c3 (hp1.extBut _ _ c2 (hs₁.extBut _ _ c1 e))
  have j1 : St1 (i + 1) p2 := D1.over sn1 hp2 Z.sep2_1
  have j2 : St2 (i + 1) p2 := sn2
  refine wpAny_pure ⟨_, rfl, ?_⟩
  show Q (.ref p2.objs.size) ⟨p2.push { cls := .type "tuple", data := .seq #[x1, x2] }, g, d, tk2, os⟩
  have hp : IsTupOf2 (p2.push { cls := .type "tuple", data := .seq #[x1, x2] }) p2.objs.size x1 x2 := Heap.get?_push_size _ rfl
  have hz4 : (p2.push { cls := .type "tuple", data := .seq #[x1, x2] }).objs.size = p2.objs.size + 1 := Heap.size_push ..
  rw [hsz] at hp hz4 ⊢
  exact hQ x1 x2 _ tk2 hx1 hx2 (Heap.get?_push_of_some _ hzz) (D1.frame _ _ _ j1 fun b _ o e => Heap.get?_push_of_some _ e) (D2.frame _ _ _ j2 fun b _ o e => Heap.get?_push_of_some _ e) hp hz4 fun c o c1 c2 c3 e => Heap.get?_push_of_some _ (hk c o c1 c2 c3 e)
theorem nx_end {Q : Fin → Shared → Prop} (Z : ZipSep2 z TI TO i1 i2 fp1 fp2) (D1 : Draws prog w A i1 fp1 n1 P1 St1) (D2 : Draws prog w A i2 fp2 n2 P2 St2)
    (hz : IsZipHeld s.heap z TI TO T f) (hT : s.heap.get? T = some oT) (hTI : IsTupOf2 s.heap TI (.ref i1) (.ref i2)) (st1 : St1 i s.heap) (st2 : St2 i s.heap) (hle1 : i ≤ n1) (hle2 : i ≤ n2) (hend : i = n1 ∨ i = n2)
    (hE : ∀ h' tk e, (∀ c o, c ≠ z → c ≠ i1 → c ≠ i2 → s.heap.get? c = some o → h'.get? c = some o) → (∃ o, h'.get? e = some o ∧ o.cls = .type "StopIteration") → E (.ref e) { s with heap := h', toks := tk }) :
    wpAny (model prog w) A (Builtin.«zip.__next__» ⟨[.ref z], []⟩) Q E s := by
  obtain ⟨hp, g, d, tk0, os⟩ := s
  show wpAny _ _ (field (.ref z) 2 >>= _) _ _ _
  refine wpAny_bind (wpAny_field hz rfl (x := .bool false) rfl ?_)
  show wpAny _ _ (field (.ref z) 3 >>= _) _ _ _
  refine wpAny_bind (wpAny_field hz rfl (x := .ref TI) rfl ?_)
  refine wpAny_bind (wpAny_seqItems hTI rfl ?_)
  show wpAny _ _ (Builtin.SmallTypes.ownedTupleIsFree (.ref z) >>= _) _ _ _
  refine wpAny_bind (PySem.wpAny_tupleHeld_zip hz hT fun h₁ hz₁ hs₁ => ?_)
  simp only [Bool.false_eq_true, if_false]
  replace hs₁ : Heap.SameBut z hp h₁ := hs₁
  refine wpAny_bind ?_
  rw [← Array.forIn_toList]
  simp only [List.forIn_cons, List.forIn_nil]
  refine wpAny_bind (wpAny_bind (wpAny_holding ?_))
  show wpAny _ _ (Builtin.SmallTypes.nextOf (.ref i1) >>= _) _ _ ⟨h₁, g, d, tk0, os⟩
  by_cases hlt1 : i < n1
  · refine wpAny_bind (D1.item i _ _ _ hlt1 (D1.over st1 hs₁ Z.zf1) fun x1 p1 tk1 hx1 sn1 hp1 => wpAny_pure ?_)
    replace hp1 : Heap.SameBut i1 h₁ p1 := hp1
    refine wpAny_pure ?_
    have hi2 : i = n2 := by omega
    refine wpAny_bind (wpAny_bind (wpAny_holding ?_))
    show wpAny _ _ (Builtin.SmallTypes.nextOf (.ref i2) >>= _) _ _ ⟨p1, g, d, tk1, os⟩
    refine wpAny_bind (D2.done ⟨p1, g, d, tk1, os⟩ _ _ (by rw [← hi2]; exact D2.over (D2.over st2 hs₁ Z.zf2) hp1 Z.sep1_2) fun q e hq he => ?_)
    exact hE q tk1 e (fun c o c1 c2 c3 x => hq _ _ c3 (hp1.extBut _ _ c2 (hs₁.extBut _ _ c1 x))) he
  · have hi1 : i = n1 := by omega
    refine wpAny_bind (D1.done ⟨h₁, g, d, tk0, os⟩ _ _ (by rw [← hi1]; exact D1.over st1 hs₁ Z.zf1) fun q e hq he => ?_)
    exact hE q tk0 e (fun c o c1 c2 _ x => hq _ _ c2 (hs₁.extBut _ _ c1 x)) he
theorem py_held {Q : Option Value → Shared → Prop} (Z : ZipSep2 z TI TO i1 i2 fp1 fp2) (D1 : Draws prog w A.in1 i1 fp1 n1 P1 St1) (D2 : Draws prog w A.in1 i2 fp2 n2 P2 St2)
    (hz : IsZipHeld s.heap z TI TO T f) (hT : s.heap.get? T = some oT) (hTI : IsTupOf2 s.heap TI (.ref i1) (.ref i2)) (st1 : St1 i s.heap) (st2 : St2 i s.heap) (hlt1 : i < n1) (hlt2 : i < n2)
    (hQ : ∀ x1 x2 h' tk, P1 i x1 → P2 i x2 → IsZipHeld h' z TI TO T true → St1 (i + 1) h' → St2 (i + 1) h' → IsTupOf2 h' s.heap.objs.size x1 x2 → h'.objs.size = s.heap.objs.size + 1 →
      (∀ c o, c ≠ z → c ≠ i1 → c ≠ i2 → s.heap.get? c = some o → h'.get? c = some o) → Q (some (.ref s.heap.objs.size)) { s with heap := h', toks := tk }) :
    wpAny (model prog w) A (pyNext (.ref z)) Q E s := by
  have hTy : s.TypeIs (.ref z) "zip" := ⟨_, hz, rfl⟩
  unfold pyNext
  exact wpAny_bind (wpAny_attempt (wpAny_callSpecial?_slot (name := Str.ofString "__next__") hTy F.slot_zip_next
    (wpAny_call_entry F.slot_zip_next hTy F.entry_zip_next
      (nx_held Z D1 D2 hz hT hTI st1 st2 hlt1 hlt2 fun x1 x2 h' tk y1 y2 b1 d1 d2 b5 b6 b7 => wpAny_pure (hQ x1 x2 h' tk y1 y2 b1 d1 d2 b5 b6 b7)) (F.args_zip_next_1 _))))
theorem py_end {Q : Option Value → Shared → Prop} (Z : ZipSep2 z TI TO i1 i2 fp1 fp2) (D1 : Draws prog w A.in1 i1 fp1 n1 P1 St1) (D2 : Draws prog w A.in1 i2 fp2 n2 P2 St2)
    (hz : IsZipHeld s.heap z TI TO T f) (hT : s.heap.get? T = some oT) (hTI : IsTupOf2 s.heap TI (.ref i1) (.ref i2)) (st1 : St1 i s.heap) (st2 : St2 i s.heap) (hle1 : i ≤ n1) (hle2 : i ≤ n2) (hend : i = n1 ∨ i = n2)
    (hQ : ∀ h' tk, (∀ c o, c ≠ z → c ≠ i1 → c ≠ i2 → s.heap.get? c = some o → h'.get? c = some o) → Q none { s with heap := h', toks := tk }) : wpAny (model prog w) A (pyNext (.ref z)) Q E s := by
  have hTy : s.TypeIs (.ref z) "zip" := ⟨_, hz, rfl⟩
  unfold pyNext
  refine wpAny_bind (wpAny_attempt (wpAny_callSpecial?_slot (name := Str.ofString "__next__") hTy F.slot_zip_next
    (wpAny_call_entry F.slot_zip_next hTy F.entry_zip_next (nx_end Z D1 D2 hz hT hTI st1 st2 hle1 hle2 hend fun h' tk e hk he => ?_) (F.args_zip_next_1 _))))
  obtain ⟨o, ho, hc⟩ := he
  refine wpAny_bind (wpAny_isInstance (T := "StopIteration") (b := true) ⟨o, ho, hc⟩ isSubtype_stop ?_)
  exact wpAny_pure (hQ _ _ hk)
/-! ### the zip while its tuples are kept in a list at S -/
def ZS (z TI TO i1 i2 S : Addr) (St1 St2 : Nat → Heap → Prop) (i : Nat) (h : Heap) : Prop :=
  IsTupOf2 h TI (.ref i1) (.ref i2) ∧ (∃ a1 a2, IsTupOf2 h TO a1 a2) ∧ St1 i h ∧ St2 i h ∧ (IsZip h z TI TO .none ∨ ∃ T f oT, IsZipHeld h z TI TO T f ∧ h.get? T = some oT ∧ S < T)
/-- its cells lie below S -/
structure ZL (z TI TO i1 i2 S : Addr) (fp1 fp2 : List Addr) : Prop where
  z : z < S
  I : TI < S
  O : TO < S
  f1 : ∀ b ∈ fp1, b < S
  f2 : ∀ b ∈ fp2, b < S
theorem ZS.keep {h h' : Heap} (L : ZL z TI TO i1 i2 S fp1 fp2) (D1 : Draws prog w A i1 fp1 n1 P1 St1) (D2 : Draws prog w A i2 fp2 n2 P2 St2) (x : ZS z TI TO i1 i2 S St1 St2 i h) (hk : ∀ b o, b ≠ S → h.get? b = some o → h'.get? b = some o) : ZS z TI TO i1 i2 S St1 St2 i h' := by
  obtain ⟨x1, ⟨a1, a2, x2⟩, x3, x4, x5⟩ := x
  refine ⟨hk _ _ (Nat.ne_of_lt L.I) x1, ⟨a1, a2, hk _ _ (Nat.ne_of_lt L.O) x2⟩, D1.frame _ _ _ x3 fun b hb o e => hk b o (Nat.ne_of_lt (L.f1 b hb)) e, D2.frame _ _ _ x4 fun b hb o e => hk b o (Nat.ne_of_lt (L.f2 b hb)) e, ?_⟩
  rcases x5 with x5 | ⟨T, f, oT, y1, y2, y3⟩
  · exact .inl (hk _ _ (Nat.ne_of_lt L.z) x5)
  · exact .inr ⟨T, f, oT, hk _ _ (Nat.ne_of_lt L.z) y1, hk _ _ (Nat.ne_of_gt y3) y2, y3⟩
theorem zs_item {Q : Option Value → Shared → Prop} (Z : ZipSep2 z TI TO i1 i2 fp1 fp2) (L : ZL z TI TO i1 i2 S fp1 fp2) (D1 : Draws prog w A.in1 i1 fp1 n1 P1 St1) (D2 : Draws prog w A.in1 i2 fp2 n2 P2 St2)
    (x : ZS z TI TO i1 i2 S St1 St2 i s.heap) (hS : S < s.heap.objs.size) (hlt1 : i < n1) (hlt2 : i < n2)
    (hQ : ∀ x1 x2 h' tk, P1 i x1 → P2 i x2 → ZS z TI TO i1 i2 S St1 St2 (i + 1) h' → IsTupOf2 h' s.heap.objs.size x1 x2 → h'.objs.size = s.heap.objs.size + 1 →
      (∀ c o, c ≠ z → c ≠ TO → c ≠ i1 → c ≠ i2 → s.heap.get? c = some o → h'.get? c = some o) → Q (some (.ref s.heap.objs.size)) { s with heap := h', toks := tk }) :
    wpAny (model prog w) A (pyNext (.ref z)) Q E s := by
  obtain ⟨x1, ⟨a1, a2, x2⟩, x3, x4, x5⟩ := x
  rcases x5 with x5 | ⟨T, f, oT, y1, y2, y3⟩
  · exact wpAny_pyNext_zipD2_item Z D1 D2 x5 x1 x2 x3 x4 hlt1 hlt2 fun u1 u2 h' tk p1 p2 b1 b2 d1 d2 b5 b6 hk =>
      hQ u1 u2 h' tk p1 p2 ⟨hk _ _ Z.TIz Z.TITO Z.TIi1 Z.TIi2 x1, ⟨_, _, b2⟩, d1, d2, .inr ⟨_, false, _, b1, b5, hS⟩⟩ b5 b6 hk
  · have ti1 : T ≠ i1 := Nat.ne_of_gt (Nat.lt_trans (L.f1 _ Z.mem1) y3)
    have ti2 : T ≠ i2 := Nat.ne_of_gt (Nat.lt_trans (L.f2 _ Z.mem2) y3)
    have tz : T ≠ z := Nat.ne_of_gt (Nat.lt_trans L.z y3)
    exact py_held Z D1 D2 y1 y2 x1 x3 x4 hlt1 hlt2 fun u1 u2 h' tk p1 p2 b1 d1 d2 b5 b6 hk =>
      hQ u1 u2 h' tk p1 p2 ⟨hk _ _ Z.TIz Z.TIi1 Z.TIi2 x1, ⟨_, _, hk _ _ Z.TOz Z.Ti1 Z.Ti2 x2⟩, d1, d2, .inr ⟨T, true, oT, b1, hk _ _ tz ti1 ti2 y2, y3⟩⟩ b5 b6 fun c o c1 _ c3 c4 e => hk c o c1 c3 c4 e
theorem zs_done {Q : Option Value → Shared → Prop} (Z : ZipSep2 z TI TO i1 i2 fp1 fp2) (D1 : Draws prog w A.in1 i1 fp1 n1 P1 St1) (D2 : Draws prog w A.in1 i2 fp2 n2 P2 St2)
    (x : ZS z TI TO i1 i2 S St1 St2 i s.heap) (hle1 : i ≤ n1) (hle2 : i ≤ n2) (hend : i = n1 ∨ i = n2)
    (hQ : ∀ h' tk, (∀ c o, c ≠ z → c ≠ TO → c ≠ i1 → c ≠ i2 → s.heap.get? c = some o → h'.get? c = some o) → Q none { s with heap := h', toks := tk }) : wpAny (model prog w) A (pyNext (.ref z)) Q E s := by
  obtain ⟨x1, ⟨a1, a2, x2⟩, x3, x4, x5⟩ := x
  rcases x5 with x5 | ⟨T, f, oT, y1, y2, y3⟩
  · exact wpAny_pyNext_zipD2_end Z D1 D2 x5 x1 x2 x3 x4 hle1 hle2 hend hQ
  · exact py_end Z D1 D2 y1 y2 x1 x3 x4 hle1 hle2 hend fun h' tk hk => hQ h' tk fun c o c1 _ c3 c4 e => hk c o c1 c3 c4 e
/-- the tuples so far -/
structure ZG (P1 P2 : Nat → Value → Prop) (lo : Addr) (h : Heap) (as : List Addr) : Prop where
  rise : as.Pairwise (· < ·)
  above : ∀ a ∈ as, lo < a
  pairs : ∀ (j : Nat) (a : Addr), as[j]? = some a → ∃ x1 x2, P1 j x1 ∧ P2 j x2 ∧ h.get? a = some { cls := .type "tuple", data := .seq #[x1, x2] }
theorem ZG.there {lo : Addr} {h : Heap} {as : List Addr} (g : ZG P1 P2 lo h as) {a : Addr} (ha : a ∈ as) : a < h.objs.size := by
  obtain ⟨j, hj⟩ := List.mem_iff_getElem?.mp ha
  obtain ⟨_, _, _, _, e⟩ := g.pairs j a hj
  exact Heap.lt_size e
end
section
variable {prog : Program} {w : World} {A : Around} {s : Shared} {R : Result → Shared → Prop} {z TI TO i1 i2 S : Addr} {fp1 fp2 : List Addr} {n1 n2 n : Nat} {P1 P2 : Nat → Value → Prop} {St1 St2 : Nat → Heap → Prop}
theorem z_loop (Z : ZipSep2 z TI TO i1 i2 fp1 fp2) (L : ZL z TI TO i1 i2 S fp1 fp2) (D1 : Draws prog w A.in1.in1 i1 fp1 n1 P1 St1) (D2 : Draws prog w A.in1.in1 i2 fp2 n2 P2 St2) (en : n = min n1 n2) (hn : n ≤ sizeLine) (res : Value) {h₁ : Heap}
    (hR : ∀ h' tk acc c as, (∀ b o, b < S → b ≠ z → b ≠ TO → b ≠ i1 → b ≠ i2 → h₁.get? b = some o → h'.get? b = some o) → h'.get? S = some { cls := .type "list", dict := none, data := .seq acc c, slots := #[] } → as.length = n → ZG P1 P2 S h' as →
      acc.toList = as.map Value.ref → R (.ok (.ret res)) { s with heap := h', toks := tk }) :
    ∀ (k i : Nat) (h : Heap) (tk c : Nat) (acc : Array Value) (as : List Addr), n - i = k → i ≤ n → ZS z TI TO i1 i2 S St1 St2 i h → (∀ b o, b < S → b ≠ z → b ≠ TO → b ≠ i1 → b ≠ i2 → h₁.get? b = some o → h.get? b = some o) →
      h.get? S = some { cls := .type "list", dict := none, data := .seq acc c, slots := #[] } → acc.toList = as.map Value.ref → as.length = i → ZG P1 P2 S h as →
      codeAny (model prog w) A (.builtin "list.extend.loop" ⟨[.ref S, .ref z, res], []⟩) R { s with heap := h, toks := tk } := by
  have Sz : S ≠ z := Nat.ne_of_gt L.z
  have SO : S ≠ TO := Nat.ne_of_gt L.O
  have S1 : S ≠ i1 := Nat.ne_of_gt (L.f1 _ Z.mem1)
  have S2 : S ≠ i2 := Nat.ne_of_gt (L.f2 _ Z.mem2)
  have up4 : ∀ {b : Addr}, S < b → b ≠ z ∧ b ≠ TO ∧ b ≠ i1 ∧ b ≠ i2 := fun {b} h => ⟨Nat.ne_of_gt (Nat.lt_trans L.z h), Nat.ne_of_gt (Nat.lt_trans L.O h), Nat.ne_of_gt (Nat.lt_trans (L.f1 _ Z.mem1) h), Nat.ne_of_gt (Nat.lt_trans (L.f2 _ Z.mem2) h)⟩
  intro k
  induction k with
  | zero =>
    intro i h tk c acc as hk hi hst hkeep hS hacc hal hG
    have hin : i = n := by omega
    refine codeAny_builtin PySem.F.entry_extend_loop ?_
    rw [Around.under_plainId PySem.F.plain_extend_loop _]
    show wpAny _ A.in1 (pyNext (.ref z) >>= _) _ _ _
    refine wpAny_bind (zs_done (s := { s with heap := h, toks := tk }) (A := A.in1) Z D1 D2 hst (by omega) (by omega) (by omega) fun h' tk' he => ?_)
    refine wpAny_pure (hR h' tk' acc c as (fun b o h0 h1 h2 h3 h4 e => he b o h1 h2 h3 h4 (hkeep b o h0 h1 h2 h3 h4 e)) (he S _ Sz SO S1 S2 hS) (by omega) ⟨hG.rise, hG.above, fun j a hj => ?_⟩ hacc)
    obtain ⟨u1, u2, e1, e2, e3⟩ := hG.pairs j a hj
    obtain ⟨q1, q2, q3, q4⟩ := up4 (hG.above a (List.mem_of_getElem? hj))
    exact ⟨u1, u2, e1, e2, he a _ q1 q2 q3 q4 e3⟩
  | succ k ih =>
    intro i h tk c acc as hk hi hst hkeep hS hacc hal hG
    have hlt : i < n := by omega
    have hsz : acc.size = i := by rw [← Array.length_toList, hacc, List.length_map, hal]
    refine codeAny_builtin PySem.F.entry_extend_loop ?_
    rw [Around.under_plainId PySem.F.plain_extend_loop _]
    show wpAny _ A.in1 (pyNext (.ref z) >>= _) _ _ _
    have hSl : S < h.objs.size := Heap.lt_size hS
    refine wpAny_bind (zs_item (s := { s with heap := h, toks := tk }) (S := S) Z L D1 D2 hst hSl (by omega) (by omega) fun u1 u2 h' tk' p1 p2 hst' ht hz hkp => ?_)
    dsimp only at ht hz hkp ⊢
    have hS' := hkp S _ Sz SO S1 S2 hS
    have up : ∀ b o, b ≠ S → h'.get? b = some o → (h'.update S (Obj.mapSeq (·.push (Value.ref h.objs.size)))).get? b = some o := fun b o hb e => (Heap.get?_update_other _ _ (Ne.symm hb)).trans e
    show wpAny _ A.in1 (updateSeq S (·.push (Value.ref h.objs.size)) >>= _) _ _ _
    refine wpAny_bind ?_
    refine wpAny_updateSeq hS' rfl (wpAny_pure ⟨plainId_quiet PySem.F.plain_extend_loop _, ih (i + 1) _ tk' _ (acc.push (Value.ref h.objs.size)) (as ++ [h.objs.size]) (by omega) hlt (hst'.keep L D1 D2 up)
      (fun b o h0 h1 h2 h3 h4 e => up b o (Nat.ne_of_lt h0) (hkp b o h1 h2 h3 h4 (hkeep b o h0 h1 h2 h3 h4 e))) (Heap.get?_update_self _ hS' rfl) (by rw [Array.toList_push, hacc, List.map_append]; rfl) (by rw [List.length_append, hal]; rfl) ⟨?_, ?_, ?_⟩⟩) (by rw [hsz]; omega) (by show (acc.push (Value.ref h.objs.size)).size ≤ sizeLine + 1; rw [Array.size_push, hsz]; omega)
    · refine List.pairwise_append.mpr ⟨hG.rise, List.pairwise_singleton _ _, fun a ha b hb => ?_⟩
      rw [List.mem_singleton.mp hb]
      exact hG.there ha
    · intro a ha
      rcases List.mem_append.mp ha with ha | ha
      · exact hG.above a ha
      · rw [List.mem_singleton.mp ha]; exact hSl
    · intro j b hj
      rcases Nat.lt_trichotomy j as.length with h1 | h1 | h1
      · rw [List.getElem?_append_left h1] at hj
        obtain ⟨v1, v2, e1, e2, e3⟩ := hG.pairs j b hj
        have hb := hG.above b (List.mem_of_getElem? hj)
        obtain ⟨q1, q2, q3, q4⟩ := up4 hb
        exact ⟨v1, v2, e1, e2, up b _ (Nat.ne_of_gt hb) (hkp b _ q1 q2 q3 q4 e3)⟩
      · subst h1
        have hb : h.objs.size = b := by simpa using hj
        subst hb
        exact ⟨u1, u2, by rw [hal]; exact p1, by rw [hal]; exact p2, up _ _ (Nat.ne_of_gt hSl) ht⟩
      · have hnone : (as ++ [h.objs.size])[j]? = none := List.getElem?_eq_none (by rw [List.length_append, List.length_singleton]; omega)
        rw [hnone] at hj; cases hj
end
theorem no_len : typeLookup (.type "zip") "__len__" = pure none := by rw [typeLookup_type, builtinLookup_eq_fast]; kernel_rfl
theorem no_hint : typeLookup (.type "zip") "__length_hint__" = pure none := by rw [typeLookup_type, builtinLookup_eq_fast]; kernel_rfl
section
variable {prog : Program} {w : World} {A : Around} {E : Value → Shared → Prop} {s : Shared} {z TI TO i1 i2 S : Addr} {fp1 fp2 : List Addr} {n1 n2 n : Nat} {P1 P2 : Nat → Value → Prop} {St1 St2 : Nat → Heap → Prop} {a1 a2 : Value}
theorem ZS0.typ {h : Heap} {i : Nat} (x : ZS z TI TO i1 i2 S St1 St2 i h) {g d tk os} : Shared.TypeIs ⟨h, g, d, tk, os⟩ (.ref z) "zip" := by
  rcases x.2.2.2.2 with q | ⟨T, f, oT, q, _⟩
  · exact ⟨_, q, rfl⟩
  · exact ⟨_, q, rfl⟩
theorem z_extend {R : Result → Shared → Prop} (Z : ZipSep2 z TI TO i1 i2 fp1 fp2) (L : ZL z TI TO i1 i2 S fp1 fp2) (D1 : Draws prog w A.in1.in1 i1 fp1 n1 P1 St1) (D2 : Draws prog w A.in1.in1 i2 fp2 n2 P2 St2) (en : n = min n1 n2) (hn : n ≤ sizeLine) (res : Value) (c₀ : Nat)
    (hz : IsZip s.heap z TI TO .none) (hx : ZS z TI TO i1 i2 S St1 St2 0 s.heap) (hS : s.heap.get? S = some { cls := .type "list", data := .seq #[] c₀ })
    (hR : ∀ h' tk acc c as, (∀ b o, b < S → b ≠ z → b ≠ TO → b ≠ i1 → b ≠ i2 → s.heap.get? b = some o → h'.get? b = some o) → h'.get? S = some { cls := .type "list", dict := none, data := .seq acc c, slots := #[] } → as.length = n → ZG P1 P2 S h' as →
      acc.toList = as.map Value.ref → R (.ok (.ret res)) { s with heap := h', toks := tk }) :
    wpAny (model prog w) A.in1 (Builtin.List.listExtendWith (.ref S) (.ref z) res)
      (fun fin s' => match fin with | .done f => R (.ok f) s' | .again c' => c'.quiet = true ∧ codeAny (model prog w) A c' R s') (fun e s' => R (.error e) s') s := by
  obtain ⟨hp, g, d, tk, os⟩ := s
  have hTy : ∀ (h : Heap) (tk' : Nat), ZS z TI TO i1 i2 S St1 St2 0 h → Shared.TypeIs ⟨h, g, d, tk', os⟩ (.ref z) "zip" := fun h tk' x => ZS0.typ x
  have zS : z ≠ S := Nat.ne_of_lt L.z
  unfold Builtin.List.listExtendWith
  refine wpAny_bind (wpAny_typeOf (T := "zip") (hTy _ _ hx) ?_)
  have h1 : Builtin.List.listSameRef (.ref S) (.ref z) = false := by simp [Builtin.List.listSameRef, zS.symm]
  have h2 : (Value.type "zip" == Value.type "list") = false := by decide
  have h3 : (Value.type "zip" == Value.type "tuple") = false := by decide
  simp only [h1, h2, h3, Bool.or_false, Bool.false_eq_true, if_false]
  refine wpAny_bind (wpAny_pyIter_zip hz ?_)
  refine wpAny_bind (wpAny_holding ?_)
  unfold Builtin.List.listLengthHint
  refine wpAny_bind (wpAny_specialOf (hTy _ _ hx) no_len ?_)
  show wpAny _ A.in1 (specialOf (Value.ref z) (Str.ofString "__length_hint__") >>= _) _ _ _
  refine wpAny_bind (wpAny_specialOf (hTy _ _ hx) no_hint ?_)
  refine wpAny_pure ?_
  show wpAny _ A.in1 (rule "list.extend.makes-room" >>= fun _ => Builtin.List.listTouch (.ref S) >>= fun _ =>
    again (.builtin "list.extend.loop" ⟨[.ref S, .ref z, res], []⟩)) _ _ _
  refine wpAny_bind (wpAny_rule ?_)
  refine wpAny_bind ?_
  show wpAny _ A.in1 (updateSeq S (·.push .none) >>= fun _ => updateSeq S (·.pop)) _ _ _
  refine wpAny_bind (wpAny_updateSeq hS rfl ?_)
  have hS₂ := Heap.get?_update_self (Obj.mapSeq (·.push Value.none)) hS rfl
  refine wpAny_updateSeq (hz := by seq_fits) hS₂ rfl ?_
  have hS₃ := Heap.get?_update_self (Obj.mapSeq (·.pop)) hS₂ rfl
  have oth : ∀ b o, b ≠ S → hp.get? b = some o → ((hp.update S (Obj.mapSeq (·.push Value.none))).update S (Obj.mapSeq (·.pop))).get? b = some o :=
    fun b o hb e => (Heap.get?_update_other _ _ (Ne.symm hb)).trans ((Heap.get?_update_other _ _ (Ne.symm hb)).trans e)
  refine wpAny_pure ⟨plainId_quiet PySem.F.plain_extend_loop _, z_loop (s := ⟨hp, g, d, tk, os⟩) (h₁ := hp) Z L D1 D2 en hn res (fun h' tk' acc c as hk hS' hl hG hacc => hR h' tk' acc c as hk hS' hl hG hacc)
    n 0 _ tk _ #[] [] (Nat.sub_zero _) (Nat.zero_le _) (hx.keep L D1 D2 oth) (fun b o h0 _ _ _ _ e => oth b o (Nat.ne_of_lt h0) e) hS₃ rfl rfl ⟨List.Pairwise.nil, (fun _ ha => nomatch ha), (fun j a hj => by simp at hj)⟩⟩
theorem z_init {R : Result → Shared → Prop} (Z : ZipSep2 z TI TO i1 i2 fp1 fp2) (L : ZL z TI TO i1 i2 S fp1 fp2) (D1 : Draws prog w A.in1.in1 i1 fp1 n1 P1 St1) (D2 : Draws prog w A.in1.in1 i2 fp2 n2 P2 St2) (en : n = min n1 n2) (hn : n ≤ sizeLine)
    (hz : IsZip s.heap z TI TO .none) (hx : ZS z TI TO i1 i2 S St1 St2 0 s.heap) (hS : s.heap.get? S = some { cls := .type "list", data := .seq #[] })
    (hR : ∀ h' tk acc c as, (∀ b o, b < S → b ≠ z → b ≠ TO → b ≠ i1 → b ≠ i2 → s.heap.get? b = some o → h'.get? b = some o) → h'.get? S = some { cls := .type "list", dict := none, data := .seq acc c, slots := #[] } → as.length = n → ZG P1 P2 S h' as →
      acc.toList = as.map Value.ref → R (.ok (.ret .none)) { s with heap := h', toks := tk }) :
    wpAny (model prog w) A.in1 (Builtin.«list.__init__» ⟨[.ref S, .ref z], []⟩)
      (fun fin s' => match fin with | .done f => R (.ok f) s' | .again c' => c'.quiet = true ∧ codeAny (model prog w) A c' R s') (fun e s' => R (.error e) s') s := by
  show wpAny _ _ (do let old ← Builtin.List.listItems (.ref S); Builtin.List.listUpdate (.ref S) (fun _ => #[]); letGo old.toList.reverse; Builtin.List.listExtendWith (.ref S) (.ref z) .none) _ _ s
  refine wpAny_bind ?_
  unfold Builtin.List.listItems
  refine wpAny_bind (wpAny_seqItems hS rfl (wpAny_pure ?_))
  show wpAny _ _ (updateSeq S (fun _ => #[]) >>= fun _ => letGo (#[] : Array Value).toList.reverse >>= fun _ => Builtin.List.listExtendWith (.ref S) (.ref z) .none) _ _ s
  refine wpAny_bind (wpAny_updateSeq hS rfl ?_)
  have hS₂ := Heap.get?_update_self (Obj.mapSeq (fun _ => (#[] : Array Value))) hS rfl
  have oth : ∀ b o, b ≠ S → s.heap.get? b = some o → (s.heap.update S (Obj.mapSeq (fun _ => (#[] : Array Value)))).get? b = some o :=
    fun b o hb e => (Heap.get?_update_other _ _ (Ne.symm hb)).trans e
  refine wpAny_bind (wpAny_letGo ?_)
  refine z_extend Z L D1 D2 en hn .none _ (oth _ _ (Nat.ne_of_lt L.z) hz) (hx.keep L D1 D2 oth) hS₂ fun h' tk acc c as hk hS' hl hG hacc => ?_
  exact hR h' tk acc c as (fun b o h0 h1 h2 h3 h4 e => hk b o h0 h1 h2 h3 h4 (oth b o (Nat.ne_of_lt h0) e)) hS' hl hG hacc
theorem z_call {Q : Value → Shared → Prop} (Z : ZipSep2 z TI TO i1 i2 fp1 fp2) (L : ZL z TI TO i1 i2 s.heap.objs.size fp1 fp2) (D1 : ∀ A : Around, A.handled = none → Draws prog w A i1 fp1 n1 P1 St1) (D2 : ∀ A : Around, A.handled = none → Draws prog w A i2 fp2 n2 P2 St2) (hh : A.handled = none) (en : n = min n1 n2) (hn : n ≤ sizeLine)
    (hz : IsZip s.heap z TI TO .none) (hTI : IsTupOf2 s.heap TI (.ref i1) (.ref i2)) (hTO : IsTupOf2 s.heap TO a1 a2) (st1 : St1 0 s.heap) (st2 : St2 0 s.heap)
    (hQ : ∀ h' tk acc c as, (∀ b o, b < s.heap.objs.size → b ≠ z → b ≠ TO → b ≠ i1 → b ≠ i2 → s.heap.get? b = some o → h'.get? b = some o) → h'.get? s.heap.objs.size = some { cls := .type "list", dict := none, data := .seq acc c, slots := #[] } → as.length = n → ZG P1 P2 s.heap.objs.size h' as →
      acc.toList = as.map Value.ref → Q (.ref s.heap.objs.size) { s with heap := h', toks := tk }) :
    wpAny (model prog w) A (call (.type "list") [.ref z]) Q E s := by
  refine callType_codes (Q₁ := fun obj s₁ => obj = .ref s.heap.objs.size ∧ s₁ = { s with heap := s.heap.push { cls := .type "list", data := .seq #[] } }) PySem.F.called_list (PySem.F.typeCall_list_1 _) PySem.F.entry_list_init
    (code_list_new _ ⟨rfl, rfl⟩) fun obj s₁ h₁ => ?_
  obtain ⟨rfl, rfl⟩ := h₁
  have hS : (s.heap.push { cls := .type "list", data := .seq #[] }).get? s.heap.objs.size = some { cls := .type "list", data := .seq #[] } := Heap.get?_push_size _ rfl
  have pu : ∀ b o, s.heap.get? b = some o → (s.heap.push { cls := .type "list", data := .seq #[] }).get? b = some o := fun b o e => Heap.get?_push_of_some _ e
  have x : ZS z TI TO i1 i2 s.heap.objs.size St1 St2 0 (s.heap.push { cls := .type "list", data := .seq #[] }) :=
    ⟨pu _ _ hTI, ⟨_, _, pu _ _ hTO⟩, (D1 A hh).frame _ _ _ st1 fun b _ o e => pu b o e, (D2 A hh).frame _ _ _ st2 fun b _ o e => pu b o e, .inl (pu _ _ hz)⟩
  refine ⟨⟨_, hS, rfl⟩, PySem.F.args_list_init_2 _ _, z_init (A := A.in1) Z L (D1 _ hh) (D2 _ hh) en hn (pu _ _ hz) x hS fun h' tk acc c as hk hS' hl hG hacc => ?_⟩
  exact ⟨rfl, hQ h' tk acc c as (fun b o h0 h1 h2 h3 h4 e => hk b o h0 h1 h2 h3 h4 (pu b o e)) hS' hl hG hacc⟩
end
end LZ
/-! P42: list(zip(a, b)) as an expression. -/
namespace LZ
open PySem PySem.Spec PyProof.Rows L2
def putP : Hp → List Addr → List (V × V) → Hp
  | H, a :: as, p :: kvs => putP (upd H a (.tup [p.1, p.2])) as kvs
  | H, _, _ => H
theorem putP_off {b : Addr} : ∀ (as : List Addr) (kvs : List (V × V)) (H : Hp), b ∉ as → putP H as kvs b = H b
  | [], _, _, _ => rfl
  | _ :: _, [], _, _ => rfl
  | a :: as, p :: kvs, H, h => by
    show putP (upd H a (.tup [p.1, p.2])) as kvs b = H b
    rw [putP_off as kvs _ (fun z => h (List.mem_cons_of_mem _ z)), upd_ne (fun z => h (by rw [z]; exact List.mem_cons_self))]
theorem putP_at : ∀ (as : List Addr) (kvs : List (V × V)) (H : Hp), as.length = kvs.length → as.Nodup → Paired (fun (t : Addr) (p : V × V) => putP H as kvs t = some (.tup [p.1, p.2])) as kvs
  | [], [], _, _, _ => .nil
  | [], _ :: _, _, h, _ => by cases h
  | _ :: _, [], _, h, _ => by cases h
  | a :: as, p :: kvs, H, h, hn => by
    have hn' := List.nodup_cons.mp hn
    have ih := putP_at as kvs (upd H a (.tup [p.1, p.2])) (Nat.succ.inj h) hn'.2
    refine .cons ?_ ih
    show putP (upd H a (.tup [p.1, p.2])) as kvs a = some (.tup [p.1, p.2])
    rw [putP_off as kvs _ hn'.1, upd_same]
section
variable {X : Cx} {e e2 : Expr} {ta : TA} {p p2 cpos pos : Pos}
theorem laid {pins : List (Addr × Obj)} {σ : L2.St} {H : Hp} {s : Shared} {h' : Heap} {tk : Nat} {ps : List (V × V)} {acc : Array Value} {c : Nat} {as : List Addr} {S : Addr} (I : Inv X pins σ H s) (lS : s.heap.objs.size ≤ S) (hz : ps.length ≤ sizeLine)
    (hk : ∀ b o, s.heap.get? b = some o → h'.get? b = some o) (hS : h'.get? S = some { cls := .type "list", dict := none, data := .seq acc c, slots := #[] }) (hl : as.length = ps.length) (rise : as.Pairwise (· < ·)) (above : ∀ a ∈ as, S < a)
    (pairs : ∀ (j : Nat) (a : Addr), as[j]? = some a → ∃ q x1 x2, ps[j]? = some q ∧ RelV q.1 x1 ∧ RelV q.2 x2 ∧ h'.get? a = some { cls := .type "tuple", data := .seq #[x1, x2] }) (hacc : acc.toList = as.map Value.ref) :
    ∃ H' : Hp, (∀ b o, H b = some o → H' b = some o) ∧ H S = none ∧ (∀ t ∈ as, H t = none) ∧ S ∉ as ∧ H' S = some (.lst (as.map V.ref)) ∧ Paired (fun (t : Addr) (q : V × V) => H' t = some (.tup [q.1, q.2])) as ps ∧ Inv X pins σ H' { s with heap := h', toks := tk } := by
  have hSn : S ∉ as := fun z => Nat.lt_irrefl _ (above _ z)
  have nd : as.Nodup := List.Pairwise.imp (fun {a b} (h : a < b) => Nat.ne_of_lt h) rise
  have new : ∀ t ∈ as, H t = none := fun t ht => I.hok.fresh (Nat.le_trans lS (Nat.le_of_lt (above t ht)))
  have newS : H S = none := I.hok.fresh lS
  have atP := putP_at as ps (upd H S (.lst (as.map V.ref))) hl nd
  have off : ∀ b, b ∉ as → b ≠ S → putP (upd H S (.lst (as.map V.ref))) as ps b = H b := fun b h1 h2 => by rw [putP_off as ps _ h1, upd_ne h2]
  have low : ∀ b o, s.heap.get? b = some o → b ∉ as ∧ b ≠ S := fun b o e => ⟨fun z => absurd (Heap.lt_size e) (Nat.not_lt.mpr (Nat.le_trans lS (Nat.le_of_lt (above b z)))), Nat.ne_of_lt (Nat.lt_of_lt_of_le (Heap.lt_size e) lS)⟩
  have kp : ∀ b u, H b = some u → (putP (upd H S (.lst (as.map V.ref))) as ps) b = some u := fun b u e => by
    rw [off b (fun z => by rw [new b z] at e; cases e) (fun z => by rw [z, newS] at e; cases e)]
    exact e
  have eS : putP (upd H S (.lst (as.map V.ref))) as ps S = some (.lst (as.map V.ref)) := by rw [putP_off as ps _ hSn, upd_same]
  refine ⟨putP (upd H S (.lst (as.map V.ref))) as ps, kp, newS, new, hSn, eS, atP, ?_⟩
  refine I.call' (ch := []) rfl ⟨fun b o q _ _ _ => hk b o q, fun b o q _ _ _ => ⟨o.slots, hk b o q⟩, fun b o q n _ => ?_, fun b o q _ => ⟨o, hk b o q⟩, fun b xs q => kp b _ q, fun b o u q => kp b _ q, fun b ps q => ⟨#[], by rw [kp b _ q]; simp⟩⟩ (fun b u q => ?_) I.bare fun b z => by simp at z
  · obtain ⟨z1, z2⟩ := low b o q
    rw [off b z1 z2]
    exact n
  · by_cases hb : b ∈ as
    · obtain ⟨j, pk, e1, e2, e3⟩ := LiI.paired_ix atP hb
      rw [e3] at q
      cases q
      obtain ⟨q', x1, x2, f1, f2, f3, f4⟩ := pairs j b e1
      rw [e2] at f1
      cases f1
      exact ⟨by show 2 ≤ sizeLine; decide, [x1, x2], .cons f2 (.cons f3 .nil), ⟨_, f4, rfl, _, rfl⟩⟩
    · by_cases hb2 : b = S
      · rw [hb2] at q ⊢
        rw [eS] at q
        cases q
        refine ⟨by rw [List.length_map]; omega, acc.toList, c, by rw [hacc]; exact LiI.vals_refs as, ?_⟩
        rw [Array.toArray_toList]
        exact hS
      · rw [off b hb hb2] at q
        exact (I.hok b u q).stay (fun d v _ y => hk d v y) (fun d y => kp d _ y) fun d xs y => kp d _ y
def tListZip (K : PySem.W.Frag) (ta : TA) : TE := fun σ H Q => ta σ H fun vs H1 => ∃ a b xs ys, vs = [.ref a, .ref b] ∧ SqT K H1 a xs ∧ SqL K H1 b ys ∧
  ∀ (H' : Hp) (p : Addr) (ts : List Addr), (∀ b o, H1 b = some o → H' b = some o) → H1 p = none → H' p = some (.lst (ts.map V.ref)) → Paired (fun (t : Addr) (q : V × V) => H' t = some (.tup [q.1, q.2])) ts (xs.zip ys) → Q (.ref p) H'
theorem vals_zip {xs : List V} {us : List Value} (r : Vals xs us) {ys : List V} {vs : List Value} (r2 : Vals ys vs) {j : Nat} {u v : Value} (h1 : us[j]? = some u) (h2 : vs[j]? = some v) : ∃ q, (xs.zip ys)[j]? = some q ∧ RelV q.1 u ∧ RelV q.2 v := by
  have get : ∀ {xs : List V} {us : List Value}, Vals xs us → ∀ {j : Nat} {u : Value}, us[j]? = some u → ∃ x, xs[j]? = some x ∧ RelV x u := by
    intro xs us r
    induction r with
    | nil => intro j u h; cases h
    | cons a _ ih =>
      intro j u h
      cases j with
      | zero =>
        have := Option.some.inj h
        subst this
        exact ⟨_, rfl, a⟩
      | succ j => exact ih h
  obtain ⟨x, e1, e2⟩ := get r h1
  obtain ⟨y, e3, e4⟩ := get r2 h2
  exact ⟨(x, y), by rw [List.getElem?_zip_eq_some]; exact ⟨e1, e3⟩, e2, e4⟩
theorem pe_listZip (hc : X.calm = true) (ha : PA X [e, e2] ta) (hg : Gl X "list") (hm : X.mg "list" = none) (hv : bootBuiltins "list" = some (.type "list")) (hg2 : Gl X "zip") (hm2 : X.mg "zip" = none)
    (hs : starEach [.Call (.Name "zip" p2) [e, e2] [] cpos] X.env = (false, eval (.Call (.Name "zip" p2) [e, e2] [] cpos) X.env) :: starEach [] X.env)
    (hs2 : starEach [e, e2] X.env = (false, eval e X.env) :: starEach [e2] X.env) (hpl : (backTo cpos (starEach [e2] X.env)).any (·.1) = false) :
    PE X (.Call (.Name "list" p) [.Call (.Name "zip" p2) [e, e2] [] cpos] [] pos) (tListZip X.K ta) := by
  refine ⟨fun pins s σ H Q I hq => ?_⟩
  refine wpAny_Call_Name_kw (ld_blt I hg hm hv ?_)
  refine PyProof.Rows.callWith_type1 ?_ hs rfl
  rw [hs]
  show wpAny _ _ (spliced ((false, eval (.Call (.Name "zip" p2) [e, e2] [] cpos) X.env) :: backTo pos (starEach [] X.env))) _ _ s
  refine Calls.spliced_cons ?_
  refine Call_ (ld_blt I hg2 hm2 PyProof.Rows.boot_zip (PyProof.Rows.callWith_type1 (thn (ha.run cpos pins s σ H _ I hq) fun us s1 ⟨vs, H1, I1, r1, q1⟩ => ?_) hs2 hpl))
  obtain ⟨a, b, xs, ys, ex, hqx, hqy, q⟩ := q1
  subst ex
  cases r1 with
  | cons r rr =>
    cases rr with
    | cons r' rr =>
      cases rr
      cases r
      cases r'
      obtain ⟨its, rv, t1, z1⟩ := I1.tuple hqx
      obtain ⟨its2, rv2, t2, z2⟩ := I1.list hqy
      have T1 : s1.heap.IsTuple a its.toArray := t1
      obtain ⟨o1, ho1, _⟩ := id T1
      have la : a < s1.heap.objs.size := Heap.lt_size ho1
      have lb : b < s1.heap.objs.size := t2.lt
      refine zip_begins2 (begins_tuple a its.toArray) (begins_list b its2.toArray) T1 t2.isList fun h' hz hTI hTO h1 h2 hsz hk => ?_
      refine Calls.spliced_nil ?_
      have L : ZL (s1.heap.objs.size + 4) (s1.heap.objs.size + 2) (s1.heap.objs.size + 3) s1.heap.objs.size (s1.heap.objs.size + 1) (h'.objs.size) [s1.heap.objs.size, a] [s1.heap.objs.size + 1, b] := by
        rw [hsz]
        refine ⟨Nat.lt_succ_self _, ?_, ?_, fun c hc => ?_, fun c hc => ?_⟩
        · exact Nat.add_lt_add_left (by decide) _
        · exact Nat.add_lt_add_left (by decide) _
        · rcases List.mem_cons.mp hc with e | hc
          · rw [e]; exact Nat.lt_add_of_pos_right (by decide)
          · rw [List.mem_singleton.mp hc]; exact Nat.lt_of_lt_of_le la (Nat.le_add_right _ _)
        · rcases List.mem_cons.mp hc with e | hc
          · rw [e]; exact Nat.add_lt_add_left (by decide) _
          · rw [List.mem_singleton.mp hc]; exact Nat.lt_of_lt_of_le lb (Nat.le_add_right _ _)
      have zs := zip_sep2 (N := s1.heap.objs.size) (fp1 := [a]) (fp2 := [b]) (fun c hc => by rw [List.mem_singleton.mp hc]; exact la) (fun c hc => by rw [List.mem_singleton.mp hc]; exact lb)
      have e1 : xs.length = its.length := rv.length
      have e2 : ys.length = its2.length := rv2.length
      have mz : min its.toArray.size its2.toArray.size ≤ sizeLine := by rw [List.size_toArray, ← e1]; exact Nat.le_trans (Nat.min_le_left _ _) z1
      have lz : (xs.zip ys).length = min its.toArray.size its2.toArray.size := by rw [List.length_zip, List.size_toArray, List.size_toArray, e1, e2]
      refine z_call (s := { s1 with heap := h' }) zs L (fun A hA => Draws.tuple hA _ _ (Nat.ne_of_lt la) its.toArray) (fun A hA => Draws.list hA _ _ (Nat.ne_of_lt (Nat.lt_succ_of_lt lb)) its2.toArray) (I1.ok.hd hc) rfl mz hz hTI hTO ⟨⟨_, h1, rfl, rfl⟩, T1.at fun o e => hk _ _ e⟩ ⟨⟨_, h2, rfl, rfl⟩, t2.isList.at fun o e => hk _ _ e⟩ fun h'' tk acc c as hk' hS hl hG hacc => ?_
      obtain ⟨H', k1, k2, k3, k4, k5, k6, J⟩ := laid (tk := tk) (ps := xs.zip ys) I1 (S := h'.objs.size) (by rw [hsz]; exact Nat.le_add_right _ _) (by rw [lz]; exact mz) (fun d o e => by
        have ld : d < s1.heap.objs.size := Heap.lt_size e
        exact hk' d o (by show d < h'.objs.size; rw [hsz]; exact Nat.lt_of_lt_of_le ld (Nat.le_add_right _ _)) (Nat.ne_of_lt (Nat.lt_of_lt_of_le ld (Nat.le_add_right _ _))) (Nat.ne_of_lt (Nat.lt_of_lt_of_le ld (Nat.le_add_right _ _))) (Nat.ne_of_lt ld) (Nat.ne_of_lt (Nat.lt_of_lt_of_le ld (Nat.le_add_right _ _))) (hk d o e)) hS (by rw [lz]; exact hl) hG.rise hG.above (fun j d hj => by
        obtain ⟨x1, x2, g1, g2, g3⟩ := hG.pairs j d hj
        obtain ⟨q', e1, e2, e3⟩ := vals_zip rv rv2 (j := j) (u := x1) (v := x2) (by simpa using g1) (by simpa using g2)
        exact ⟨q', x1, x2, e1, e2, e3, g3⟩) hacc
      exact ⟨.ref _, H', J, rfl, q H' _ as k1 k2 k5 k6⟩
end
end LZ
/-! P43: list(zip(a, b)) of a tuple and a list, told. -/
namespace P
open PySem PySem.Spec PyProof.Rows L2 G
def oZipTL (d e : FV) : M RV := match d, e with
  | .tup ds, .fl es => pur (.l (zipF ds es))
  | _, _ => fail
section
variable {X : Cx} {W : WX} {E : Ent} {Γ : Sl} {e f : Expr} {p p0 p2 cpos pos : Pos} {fe ff : M RV}
theorem zip_vrs {B : Bs} {μ : Nat → Addr} {n : Nat} {H H' : Hp} (e : Same H H') : ∀ {ds es : List FV} {xs ys : List V} {ts : List Addr}, VRs B H μ n ds xs → VRs B H μ n es ys → Paired (fun (t : Addr) (q : V × V) => H' t = some (.tup [q.1, q.2])) ts (xs.zip ys) → VRs B H' μ n (zipF ds es) (ts.map V.ref)
  | [], es, _, ys, ts, a, b, c => by
    cases a
    cases c
    exact .nil
  | d :: ds, [], _, _, ts, a, b, c => by
    cases a
    cases b
    cases c
    exact .nil
  | d :: ds, d2 :: es, _, _, ts, a, b, c => by
    cases a with
    | cons a1 a2 =>
      cases b with
      | cons b1 b2 =>
        cases c with
        | cons c1 c2 =>
          exact .cons (.tup (.inl (.inl c1)) (.cons (a1.same e) (.cons (b1.same e) .nil))) (zip_vrs e a2 b2 c2)
theorem je_listZip (hc : X.calm = true) (hm : X.mg "list" = none) (hm2 : X.mg "zip" = none) (ha : JE X W E Γ e fe) (hb : JE X W E Γ f ff) (hg : Gl X "list" := by rfl) (hg2 : Gl X "zip" := by rfl)
    (hs : starEach [.Call (.Name "zip" p2) [e, f] [] cpos] X.env = (false, eval (.Call (.Name "zip" p2) [e, f] [] cpos) X.env) :: starEach [] X.env := by exact star1 rfl)
    (hs2 : starEach [e, f] X.env = (false, eval e X.env) :: starEach [f] X.env := by exact star1 rfl) (hs3 : starEach [f] X.env = (false, eval f X.env) :: starEach [] X.env := by exact star1 rfl) (hpl : (backTo cpos (starEach [f] X.env)).any (·.1) = false := by rfl) :
    JE X W E Γ (.Call (.Name "list" p0) [.Call (.Name "zip" p2) [e, f] [] cpos] [] pos) (bnd (mV fe) fun x => bnd (mV ff) fun y => oZipTL x y) := fun μ h σ H Q s p => by
  refine wE.of (LZ.pe_listZip hc (pa_cons pe_w (pa_cons pe_w pa_nil hs3) hs2) hg hm rfl hg2 hm2 hs hs2 hpl) ?_
  refine ha.val s (Po.mono (Po.bind p) fun d h1 μ1 H1 _ s1 hr1 p1 u vu => hb.val (s.step s1 hr1) (Po.mono (Po.bind p1) fun d2 h2 μ2 H2 _ s2 hr2 p2 v vv => ?_))
  have vu2 := s2.vr vu
  have th : ∀ a, H a ≠ none → H2 a ≠ none := fun a z => s2.th a (s1.th a z)
  unfold oZipTL at p2
  split at p2
  · cases vu2 with
    | tup a b =>
      cases vv with
      | fl a2 b2 =>
        refine ⟨_, _, _, _, rfl, a, .inl a2.rd, fun H' q ts k1 k2 k3 k4 => ?_⟩
        have sm : Same H2 H' := fun b o z => k1 b o z
        exact Po.last p2 hr2 sm _ (.l (fre_new hr2 th k2) k3 (zip_vrs sm b b2 k4))
  · exact p2.elim
end
end P
/-! R1: how natives reckon. -/
namespace P
open PySem PySem.Spec PyProof.Rows L2 G
section
variable {α β γ δ : Type}
@[simp] theorem bnd_pur (a : α) (k : α → M β) : bnd (pur a) k = k a := id rfl
@[simp] theorem bnd_fail (k : α → M β) : bnd fail k = fail := id rfl
@[simp] theorem bnd_bnd (m : M α) (k : α → M β) (l : β → M γ) : bnd (bnd m k) l = bnd m fun a => bnd (k a) l := by
  funext h; show ((m h).bind k).bind l = (m h).bind _; cases m h <;> rfl
theorem bnd_ok {m : M α} {k : α → M β} {h h' : FH} {a : α} (e : m h = .ok a h') : bnd m k h = k a h' := by
  show (m h).bind k = _; rw [e]; rfl
@[simp] theorem lift_some (a : α) : lift (fun _ => some a) = pur a := id rfl
/-! ends of blocks -/
@[simp] theorem ret_pur (r : RV) : (ret (pur r) : M (Fl α β)) = pur (.rt r) := id rfl
@[simp] theorem ret_fail : (ret fail : M (Fl α β)) = fail := id rfl
@[simp] theorem ret_bnd (m : M α) (k : α → M RV) : (ret (bnd m k) : M (Fl β γ)) = bnd m fun a => ret (k a) := bnd_bnd _ _ _
@[simp] theorem toF_rt (r : RV) : toF (pur (.rt r)) = pur r := id rfl
@[simp] theorem toF_nx (u : Unit) : toF (pur (.nx u)) = pur (.v .non) := id rfl
@[simp] theorem toF_fail : toF fail = fail := id rfl
@[simp] theorem toF_bnd (m : M α) (k : α → M (Fl Unit Empty)) : toF (bnd m k) = bnd m fun a => toF (k a) := bnd_bnd _ _ _
@[simp] theorem seqN_nx (a : α) (k : α → M (Fl γ β)) : seqN (pur (.nx a)) k = k a := id rfl
@[simp] theorem seqN_rt (r : RV) (k : α → M (Fl γ β)) : seqN (pur (.rt r)) k = pur (.rt r) := id rfl
@[simp] theorem seqN_bk (b : β) (k : α → M (Fl γ β)) : seqN (pur (.bk b)) k = pur (.bk b) := id rfl
@[simp] theorem seqN_ct (b : β) (k : α → M (Fl γ β)) : seqN (pur (.ct b)) k = pur (.ct b) := id rfl
@[simp] theorem seqN_fail (k : α → M (Fl γ β)) : seqN fail k = fail := id rfl
@[simp] theorem seqN_bnd (m : M δ) (f : δ → M (Fl α β)) (k : α → M (Fl γ β)) : seqN (bnd m f) k = bnd m fun a => seqN (f a) k := bnd_bnd _ _ _
@[simp] theorem up_rt (r : RV) : (up (pur (.rt r)) : M (Fl α β)) = pur (.rt r) := id rfl
@[simp] theorem up_bk (b : β) : (up (pur (.bk b)) : M (Fl α β)) = pur (.bk b) := id rfl
@[simp] theorem up_ct (b : β) : (up (pur (.ct b)) : M (Fl α β)) = pur (.ct b) := id rfl
@[simp] theorem up_fail : (up fail : M (Fl α β)) = fail := id rfl
@[simp] theorem up_bnd (m : M δ) (f : δ → M (Fl Empty β)) : (up (bnd m f) : M (Fl α β)) = bnd m fun a => up (f a) := bnd_bnd _ _ _
/-! values -/
@[simp] theorem mV_v (x : FV) : mV (pur (.v x)) = pur x := id rfl
@[simp] theorem mV_l (x : List FV) : mV (pur (.l x)) = pur (.fl x) := id rfl
@[simp] theorem mV_d (x : List (Key × FV)) : mV (pur (.d x)) = pur (.fd (x.map (·.1)) (x.map (·.2))) := id rfl
@[simp] theorem mV_t (x : List (List Key × FV)) : mV (pur (.t x)) = pur (.ft (x.map (·.1)) (x.map (·.2))) := id rfl
@[simp] theorem mV_o (c : Str) (x : List (Str × FV)) : mV (pur (.o c x)) = pur (.fo c (x.map (·.1)) (x.map (·.2))) := id rfl
@[simp] theorem mV_fail : mV fail = fail := id rfl
@[simp] theorem mV_bnd (m : M α) (k : α → M RV) : mV (bnd m k) = bnd m fun a => mV (k a) := by
  funext h; show vF ((m h).bind k) = (m h).bind _; cases m h <;> rfl
@[simp] theorem mL_l (x : List FV) : mL (pur (.l x)) = pur x := id rfl
@[simp] theorem mL_fail : mL fail = fail := id rfl
@[simp] theorem mL_bnd (m : M α) (k : α → M RV) : mL (bnd m k) = bnd m fun a => mL (k a) := bnd_bnd _ _ _
@[simp] theorem mD_d (x : List (Key × FV)) : mD (pur (.d x)) = pur x := id rfl
@[simp] theorem mD_fail : mD fail = fail := id rfl
@[simp] theorem mD_bnd (m : M α) (k : α → M RV) : mD (bnd m k) = bnd m fun a => mD (k a) := bnd_bnd _ _ _
@[simp] theorem mT_v (x : FV) : mT (pur (.v x)) = pur x := id rfl
@[simp] theorem mT_fail : mT fail = fail := id rfl
@[simp] theorem mT_bnd (m : M α) (k : α → M RV) : mT (bnd m k) = bnd m fun a => mT (k a) := by
  funext h; show vT ((m h).bind k) = (m h).bind _; cases m h <;> rfl
/-! calls -/
@[simp] theorem gcM_pur' (r : RV) : gcM (pur r) = pur r := gcM_pur r
@[simp] theorem gcM_fail' : gcM fail = fail := id rfl
@[simp] theorem dF_pur' (r : RV) : dF (pur r) = pur r := dF_pur r
theorem gcM_same {m : M RV} {h h' : FH} {r : RV} (e : m h = .ok r h') (l : h'.length ≤ h.length) : gcM m h = .ok r h' := by
  unfold gcM; rw [e]; show cutR h.length r h' = _; unfold cutR; rw [if_neg (fun z => absurd z.1 (Nat.not_lt_of_le l))]
theorem gcM_cut {m : M RV} {h h' : FH} {r r' : RV} (e : m h = .ok r h') (l : h.length < h'.length) (lo : (h'.take h.length).all (·.lowB h.length) = true) (c : r.cut h.length h' = some r') : gcM m h = .ok r' (h'.take h.length) := by
  unfold gcM; rw [e]; show cutR h.length r h' = _; unfold cutR; rw [if_pos ⟨l, lo⟩, c]
/-! tests -/
@[simp] theorem oT_bl (b : Bool) : oT (.v (.bl b)) = pur b := id rfl
@[simp] theorem mB_pur (b : Bool) : mB (pur b) = pur (.v (.bl b)) := id rfl
@[simp] theorem mB_fail : mB fail = fail := id rfl
@[simp] theorem mB_bnd (m : M α) (k : α → M Bool) : mB (bnd m k) = bnd m fun a => mB (k a) := bnd_bnd _ _ _
@[simp] theorem mNot_pur (b : Bool) : mNot (pur b) = pur (!b) := id rfl
@[simp] theorem mNot_bnd (m : M α) (k : α → M Bool) : mNot (bnd m k) = bnd m fun a => mNot (k a) := bnd_bnd _ _ _
@[simp] theorem mAnd_t (u : M Bool) : mAnd (pur true) u = u := id rfl
@[simp] theorem mAnd_f (u : M Bool) : mAnd (pur false) u = pur false := id rfl
@[simp] theorem mAnd_bnd (m : M α) (k : α → M Bool) (u : M Bool) : mAnd (bnd m k) u = bnd m fun a => mAnd (k a) u := bnd_bnd _ _ _
@[simp] theorem mOr_t (u : M Bool) : mOr (pur true) u = pur true := id rfl
@[simp] theorem mOr_f (u : M Bool) : mOr (pur false) u = u := id rfl
@[simp] theorem mOr_bnd (m : M α) (k : α → M Bool) (u : M Bool) : mOr (bnd m k) u = bnd m fun a => mOr (k a) u := bnd_bnd _ _ _
@[simp] theorem mAnd_pp (a b : Bool) : mAnd (pur a) (pur b) = pur (a && b) := by cases a <;> rfl
@[simp] theorem mOr_pp (a b : Bool) : mOr (pur a) (pur b) = pur (a || b) := by cases a <;> rfl
@[simp] theorem oAndV_t (f : M RV) : oAndV (.v (.bl true)) f = f := id rfl
@[simp] theorem oAndV_f (f : M RV) : oAndV (.v (.bl false)) f = pur (.v (.bl false)) := id rfl
@[simp] theorem oAndV_pp (a b : Bool) : oAndV (.v (.bl a)) (pur (.v (.bl b))) = pur (.v (.bl (a && b))) := by cases a <;> rfl
@[simp] theorem oOrV_t (f : M RV) : oOrV (.v (.bl true)) f = pur (.v (.bl true)) := id rfl
@[simp] theorem oOrV_f (f : M RV) : oOrV (.v (.bl false)) f = f := id rfl
@[simp] theorem oOrV_pp (a b : Bool) : oOrV (.v (.bl a)) (pur (.v (.bl b))) = pur (.v (.bl (a || b))) := by cases a <;> rfl
@[simp] theorem oNotV_bl (b : Bool) : oNotV (.v (.bl b)) = pur (.v (.bl (!b))) := id rfl
/-! targets -/
@[simp] theorem bindT_some (d : FV) (k : FV → M γ) : bindT some d k = k d := id rfl
@[simp] theorem bindT_tup (g : List FV → Option δ) (ds : List FV) (k : δ → M γ) : bindT (bTup g) (.tup ds) k = match g ds with | some x => k x | none => fail := id rfl
@[simp] theorem bindT_fl (g : List FV → Option δ) (ds : List FV) (k : δ → M γ) : bindT (bTup g) (.fl ds) k = match g ds with | some x => k x | none => fail := id rfl
@[simp] theorem bCons_cons {δ' : Type} (f : FV → Option δ) (g : List FV → Option δ') (d : FV) (ds : List FV) : bCons f g (d :: ds) = match f d with
    | some x => match g ds with
      | some y => some (x, y)
      | none => none
    | none => none := rfl
@[simp] theorem bNil_nil : bNil [] = some () := id rfl
end
end P
/-! R2: how operations reckon. -/
namespace P
open PySem PySem.Spec PyProof.Rows L2 G
theorem lift_ok {α : Type} {o : FH → Option α} {a : α} (h : ∀ s, o s = some a) : lift o = pur a := by
  funext s; show lift o s = _; unfold lift; rw [h s]; rfl
/-! ints -/
@[simp] theorem add_ii (i j : Int) : oB gAdd (.v (.int i)) (.v (.int j)) = pur (.v (.int (i + j))) := id rfl
@[simp] theorem sub_ii (i j : Int) : oB gMns (.v (.int i)) (.v (.int j)) = pur (.v (.int (i - j))) := id rfl
theorem mul_ii {i j : Int} (h : CMul i j) : oB gMul (.v (.int i)) (.v (.int j)) = pur (.v (.int (i * j))) := by
  funext s; show lift (gMul _ _) s = _; unfold lift gMul cMul; dsimp only; rw [if_pos h]; rfl
theorem mod_ii {i j : Int} (h : 0 < j) : oB gMod (.v (.int i)) (.v (.int j)) = pur (.v (.int (i % j))) := by
  funext s; show lift (gMod _ _) s = _; unfold lift gMod gI cMod; dsimp only; rw [if_pos h]; rfl
theorem div_ii {i j : Int} (h : CDiv i j) : oB gDiv (.v (.int i)) (.v (.int j)) = pur (.v (.int (i / j))) := by
  funext s; show lift (gDiv _ _) s = _; unfold lift gDiv gI cDiv; dsimp only; rw [if_pos h]; rfl
@[simp] theorem neg_i (i : Int) : oU gNeg (.v (.int i)) = pur (.v (.int (-i))) := id rfl
@[simp] theorem abs_i (i : Int) : oU gAbs (.v (.int i)) = pur (.v (.int (if i < 0 then -i else i))) := id rfl
@[simp] theorem int_b (b : Bool) : oU gInt (.v (.bl b)) = pur (.v (.int (if b = true then 1 else 0))) := id rfl
@[simp] theorem int_i (i : Int) : oU gInt (.v (.int i)) = pur (.v (.int i)) := id rfl
@[simp] theorem lt_ii (i j : Int) : oC gLt (.v (.int i)) (.v (.int j)) = pur (decide (i < j)) := id rfl
@[simp] theorem le_ii (i j : Int) : oC gLe (.v (.int i)) (.v (.int j)) = pur (decide (i ≤ j)) := id rfl
@[simp] theorem gt_ii (i j : Int) : oC gGt (.v (.int i)) (.v (.int j)) = pur (decide (j < i)) := id rfl
@[simp] theorem ge_ii (i j : Int) : oC gGe (.v (.int i)) (.v (.int j)) = pur (decide (j ≤ i)) := id rfl
@[simp] theorem lt_ss (i j : Str) : oC gLt (.v (.str i)) (.v (.str j)) = pur (decide (i.cps.toList < j.cps.toList)) := id rfl
@[simp] theorem le_ss (i j : Str) : oC gLe (.v (.str i)) (.v (.str j)) = pur (!decide (j.cps.toList < i.cps.toList)) := id rfl
/-! texts -/
/-! tuples, lists -/
theorem add_tt {i j : List FV} (h : i.length + j.length ≤ 16000000) : oB gAdd (.v (.tup i)) (.v (.tup j)) = pur (.v (.tup (i ++ j))) := by
  funext s; show lift (gAdd _ _) s = _; unfold lift gAdd; dsimp only; rw [if_pos h]; rfl
theorem add_ll {x y : RV} {i j : List FV} (hx : ∀ h, x.lst h = some i) (hy : ∀ h, y.lst h = some j) (nx : ∀ z, x ≠ .v (.str z)) (ni : ∀ z, x ≠ .v (.int z)) (nt : ∀ z, x ≠ .v (.tup z)) (h : i.length + j.length ≤ 16000000) : oB gAdd x y = pur (.l (i ++ j)) := by
  funext s
  show lift (gAdd _ _) s = _
  unfold lift gAdd
  split
  · rename_i a q
    split at q
    · exact absurd rfl (ni _)
    · exact absurd rfl (ni _)
    · exact absurd rfl (nx _)
    · exact absurd rfl (nt _)
    · rw [hx, hy] at q
      dsimp only at q
      rw [if_pos h] at q
      cases q; rfl
  · rename_i q
    split at q
    · exact absurd rfl (ni _)
    · exact absurd rfl (ni _)
    · exact absurd rfl (nx _)
    · exact absurd rfl (nt _)
    · rw [hx, hy] at q
      dsimp only at q
      rw [if_pos h] at q
      cases q
theorem add_f_l {i j : List FV} (h : i.length + j.length ≤ 16000000) : oB gAdd (.v (.fl i)) (.l j) = pur (.l (i ++ j)) := add_ll (fun _ => rfl) (fun _ => rfl) (fun _ z => nomatch z) (fun _ z => nomatch z) (fun _ z => nomatch z) h
theorem tup_le {vs : List FV} (h : vs.length ≤ 16000000) : oTup vs = pur (.v (.tup vs)) := if_pos h
theorem app_lt {ds : List FV} {d : FV} (h : ds.length < 16000000) : oApp ds d = pur (ds ++ [d]) := if_pos h
theorem ext_le {ds es : List FV} (h : ds.length + es.length ≤ 16000000) : oExt ds es = pur (ds ++ es) := if_pos h
@[simp] theorem tup_nil : oTup [] = pur (.v (.tup [])) := id rfl
@[simp] theorem tup_1 (a : FV) : oTup [a] = pur (.v (.tup [a])) := id rfl
@[simp] theorem tup_2 (a b : FV) : oTup [a, b] = pur (.v (.tup [a, b])) := id rfl
@[simp] theorem tup_3 (a b c : FV) : oTup [a, b, c] = pur (.v (.tup [a, b, c])) := id rfl
@[simp] theorem tup_4 (a b c d : FV) : oTup [a, b, c, d] = pur (.v (.tup [a, b, c, d])) := id rfl
@[simp] theorem tup_5 (a b c d e : FV) : oTup [a, b, c, d, e] = pur (.v (.tup [a, b, c, d, e])) := id rfl
@[simp] theorem lst_nil : oLst [] = pur (.l []) := id rfl
@[simp] theorem lst_1 (a : FV) : oLst [a] = pur (.l [a]) := id rfl
@[simp] theorem lst_2 (a b : FV) : oLst [a, b] = pur (.l [a, b]) := id rfl
@[simp] theorem lst_3 (a b c : FV) : oLst [a, b, c] = pur (.l [a, b, c]) := id rfl
@[simp] theorem lst_4 (a b c d : FV) : oLst [a, b, c, d] = pur (.l [a, b, c, d]) := id rfl
@[simp] theorem lst_5 (a b c d e : FV) : oLst [a, b, c, d, e] = pur (.l [a, b, c, d, e]) := id rfl
@[simp] theorem lst_6 (a b c d e f : FV) : oLst [a, b, c, d, e, f] = pur (.l [a, b, c, d, e, f]) := id rfl
@[simp] theorem oW_tup (ds : List FV) : oW (.tup ds) = pur ds := id rfl
@[simp] theorem oW_fl (ds : List FV) : oW (.fl ds) = pur ds := id rfl
@[simp] theorem oW_sl (ds : List FV) : oW (.sl ds) = pur ds := id rfl
@[simp] theorem oW_str (x : Str) : oW (.str x) = pur (chars x) := id rfl
@[simp] theorem oW_fd (ks : List Key) (vs : List FV) : oW (.fd ks vs) = pur (keysF keyF (ks.zip vs)) := id rfl
@[simp] theorem oL_fl (ds : List FV) : oL (.fl ds) = pur ds := id rfl
@[simp] theorem oSq_tup (ds : List FV) : oSq (.tup ds) = pur ds := id rfl
@[simp] theorem oSq_fl (ds : List FV) : oSq (.fl ds) = pur ds := id rfl
@[simp] theorem oLs_fl (ds : List FV) : oLs (.fl ds) = pur ds := id rfl
@[simp] theorem oZip_tt (a b : List FV) : oZip (.tup a) (.tup b) = pur (zipF a b) := id rfl
@[simp] theorem oZip_ff (a b : List FV) : oZip (.fl a) (.fl b) = pur (zipF a b) := id rfl
@[simp] theorem zipF_cons (a b : FV) (x y : List FV) : zipF (a :: x) (b :: y) = .tup [a, b] :: zipF x y := id rfl
@[simp] theorem zipF_nil (y : List FV) : zipF [] y = [] := id rfl
/-! subscripts -/
theorem atI_nat {α : Type} {xs : List α} {i : Nat} {d : α} (h : xs[i]? = some d) : atI xs (i : Int) = some d := by
  have l : i < xs.length := (List.getElem?_eq_some_iff.mp h).1
  unfold atI ixN
  rw [if_pos (Int.natCast_nonneg _), if_pos (by omega)]
  simpa using h
@[simp] theorem atI_0 {α : Type} (x : α) (xs : List α) : atI (x :: xs) 0 = some x := atI_nat (i := 0) rfl
@[simp] theorem atI_1 {α : Type} (x y : α) (xs : List α) : atI (x :: y :: xs) 1 = some y := atI_nat (i := 1) rfl
@[simp] theorem atI_2 {α : Type} (x y z : α) (xs : List α) : atI (x :: y :: z :: xs) 2 = some z := atI_nat (i := 2) rfl
@[simp] theorem atI_3 {α : Type} (x y z u : α) (xs : List α) : atI (x :: y :: z :: u :: xs) 3 = some u := atI_nat (i := 3) rfl
theorem atI_neg1 {α : Type} {xs : List α} (x : α) : atI (xs ++ [x]) (-1) = some x := by
  unfold atI ixN
  rw [if_neg (by decide), if_pos (by rw [List.length_append]; simp; omega)]
  simp only [Option.bind_some, List.length_append, List.length_singleton]
  rw [show ((-1 : Int) + ((xs.length + 1 : Nat) : Int)).toNat = xs.length by omega]
  simp
theorem ix_t {ds : List FV} {i : Int} {d : FV} (h : atI ds i = some d) : oB gIx (.v (.tup ds)) (.v (.int i)) = pur (.v d) := lift_ok fun s => by show (atI ds i).map RV.v = _; rw [h]; rfl
theorem ix_f {ds : List FV} {i : Int} {d : FV} (h : atI ds i = some d) : oB gIx (.v (.fl ds)) (.v (.int i)) = pur (.v d) := lift_ok fun s => by show (atI ds i).map RV.v = _; rw [h]; rfl
theorem ix_s {ds : List FV} {i : Int} {d : FV} (h : atI ds i = some d) : oB gIx (.v (.sl ds)) (.v (.int i)) = pur (.v d) := lift_ok fun s => by show (atI ds i).map RV.v = _; rw [h]; rfl
theorem ix_bl {ds : List FV} {i : Int} {d : FV} (h : atI ds i = some d) : oB gIx (.bl ds) (.v (.int i)) = pur (.v d) := lift_ok fun s => by show (atI ds i).map RV.v = _; rw [h]; rfl
@[simp] theorem ix_t0 (x : FV) (xs : List FV) : oB gIx (.v (.tup (x :: xs))) (.v (.int 0)) = pur (.v x) := ix_t (atI_0 _ _)
@[simp] theorem ix_t1 (x y : FV) (xs : List FV) : oB gIx (.v (.tup (x :: y :: xs))) (.v (.int 1)) = pur (.v y) := ix_t (atI_1 _ _ _)
@[simp] theorem ix_t2 (x y z : FV) (xs : List FV) : oB gIx (.v (.tup (x :: y :: z :: xs))) (.v (.int 2)) = pur (.v z) := ix_t (atI_2 _ _ _ _)
@[simp] theorem ix_t3 (x y z u : FV) (xs : List FV) : oB gIx (.v (.tup (x :: y :: z :: u :: xs))) (.v (.int 3)) = pur (.v u) := ix_t (atI_3 _ _ _ _ _)
@[simp] theorem ix_f0 (x : FV) (xs : List FV) : oB gIx (.v (.fl (x :: xs))) (.v (.int 0)) = pur (.v x) := ix_f (atI_0 _ _)
@[simp] theorem ix_f1 (x y : FV) (xs : List FV) : oB gIx (.v (.fl (x :: y :: xs))) (.v (.int 1)) = pur (.v y) := ix_f (atI_1 _ _ _)
@[simp] theorem ix_f2 (x y z : FV) (xs : List FV) : oB gIx (.v (.fl (x :: y :: z :: xs))) (.v (.int 2)) = pur (.v z) := ix_f (atI_2 _ _ _ _)
/-! slices -/
@[simp] theorem sl_t1 (x : FV) (xs : List FV) : oSl (.v (.tup (x :: xs))) (some 1) none = pur (.v (.tup xs)) := by
  have : cutF (x :: xs) (some 1) none = xs := by
    unfold cutF
    rw [show (some (1 : Int)) = some ((1 : Nat) : Int) from rfl, HT.sIx_nat, HT.sIx_none]
    have : min 1 (x :: xs).length = 1 := by rw [List.length_cons]; omega
    rw [this]
    simp
  funext s
  show Rs.ok (RV.v (.tup (cutF (x :: xs) (some 1) none))) s = _
  rw [this]; rfl
theorem sl_t {ds : List FV} {l u : Option Int} : oSl (.v (.tup ds)) l u = pur (.v (.tup (cutF ds l u))) := id rfl
/-! built-ins -/
@[simp] theorem len_t (ds : List FV) : oU gLen (.v (.tup ds)) = pur (.v (.int ds.length)) := id rfl
@[simp] theorem len_f (ds : List FV) : oU gLen (.v (.fl ds)) = pur (.v (.int ds.length)) := id rfl
@[simp] theorem len_sl (ds : List FV) : oU gLen (.v (.sl ds)) = pur (.v (.int ds.length)) := id rfl
@[simp] theorem len_l (ds : List FV) : oU gLen (.l ds) = pur (.v (.int ds.length)) := id rfl
@[simp] theorem len_bl (ds : List FV) : oU gLen (.bl ds) = pur (.v (.int ds.length)) := id rfl
theorem len_s {z : Str} (h : z.length ≤ 16000000) : oU gLen (.v (.str z)) = pur (.v (.int z.length)) := by
  funext s; show lift (gLen _) s = _; unfold lift gLen; dsimp only; rw [if_pos h]; rfl
@[simp] theorem list_t (ds : List FV) : oU gList (.v (.tup ds)) = pur (.l ds) := id rfl
@[simp] theorem list_f (ds : List FV) : oU gList (.v (.fl ds)) = pur (.l ds) := id rfl
@[simp] theorem list_l (ds : List FV) : oU gList (.l ds) = pur (.l ds) := id rfl
@[simp] theorem tup_l (ds : List FV) : oU gTup (.l ds) = pur (.v (.tup ds)) := id rfl
@[simp] theorem tup_bl (ds : List FV) : oU gTup (.bl ds) = pur (.v (.tup ds)) := id rfl
@[simp] theorem tup_f (ds : List FV) : oU gTup (.v (.fl ds)) = pur (.v (.tup ds)) := id rfl
@[simp] theorem tup_t (ds : List FV) : oU gTup (.v (.tup ds)) = pur (.v (.tup ds)) := id rfl
@[simp] theorem dict_fd (ks : List Key) (vs : List FV) : oU gDict (.v (.fd ks vs)) = pur (.d (ks.zip vs)) := id rfl
@[simp] theorem dict_d (kvs : List (Key × FV)) : oU gDict (.d kvs) = pur (.d kvs) := id rfl
@[simp] theorem oDk_fd (ks : List Key) (vs : List FV) : oDk (.v (.fd ks vs)) = pur () := id rfl
@[simp] theorem oStr_s (z : Str) : oStr (.v (.str z)) = pur () := id rfl
@[simp] theorem keyOf_s {β : Type} (z : Str) (k : Key → M β) : keyOf (.str z) k = k (.inr z) := id rfl
@[simp] theorem keyOf_i {β : Type} (z : Int) (k : Key → M β) : keyOf (.int z) k = k (.inl z) := id rfl
theorem get_fd {ks : List Key} {vs : List FV} {k d : FV} {kk : Key} (hk : k.key = some kk) : oGet (.v (.fd ks vs)) k d = pur (.v ((lookK (ks.zip vs) kk).getD d)) := by
  refine lift_ok fun s => ?_
  show (gGet _ _ _ s).map RV.v = _
  unfold gGet
  rw [show (RV.v (.fd ks vs)).dict s = some (ks.zip vs) from rfl, hk]; rfl
@[simp] theorem get_s (ks : List Key) (vs : List FV) (z : Str) (d : FV) : oGet (.v (.fd ks vs)) (.str z) d = pur (.v ((lookK (ks.zip vs) (.inr z)).getD d)) := get_fd rfl
@[simp] theorem get_i (ks : List Key) (vs : List FV) (z : Int) (d : FV) : oGet (.v (.fd ks vs)) (.int z) d = pur (.v ((lookK (ks.zip vs) (.inl z)).getD d)) := get_fd rfl
@[simp] theorem dis_1 (k : Key) (a : FV) : oDis [(k, a)] = pur (.d [(k, a)]) := id rfl
/-! isinstance -/
theorem is_mk {T : String} {x : RV} {t : String} {k : Bool} (h : ∀ s, tyR x s = some t) (e : kitB t T = some k) : oU (gIs T) x = pur (.v (.bl k)) := by
  funext s
  show lift (gIs T x) s = _
  unfold lift gIs
  rw [h s]; dsimp only; rw [e]; rfl
@[simp] theorem is_ss (x : Str) : oU (gIs "str") (.v (.str x)) = pur (.v (.bl true)) := is_mk (fun _ => rfl) (by decide +kernel)
@[simp] theorem is_st (x : List FV) : oU (gIs "str") (.v (.tup x)) = pur (.v (.bl false)) := is_mk (fun _ => rfl) (by decide +kernel)
@[simp] theorem is_sn : oU (gIs "str") (.v .non) = pur (.v (.bl false)) := is_mk (fun _ => rfl) (by decide +kernel)
@[simp] theorem is_si (x : Int) : oU (gIs "str") (.v (.int x)) = pur (.v (.bl false)) := is_mk (fun _ => rfl) (by decide +kernel)
@[simp] theorem is_sb (x : Bool) : oU (gIs "str") (.v (.bl x)) = pur (.v (.bl false)) := is_mk (fun _ => rfl) (by decide +kernel)
@[simp] theorem is_ts (x : Str) : oU (gIs "tuple") (.v (.str x)) = pur (.v (.bl false)) := is_mk (fun _ => rfl) (by decide +kernel)
@[simp] theorem is_tt (x : List FV) : oU (gIs "tuple") (.v (.tup x)) = pur (.v (.bl true)) := is_mk (fun _ => rfl) (by decide +kernel)
@[simp] theorem is_tf (x : List FV) : oU (gIs "tuple") (.v (.fl x)) = pur (.v (.bl false)) := is_mk (fun _ => rfl) (by decide +kernel)
@[simp] theorem is_ti (x : Int) : oU (gIs "tuple") (.v (.int x)) = pur (.v (.bl false)) := is_mk (fun _ => rfl) (by decide +kernel)
@[simp] theorem is_lf (x : List FV) : oU (gIs "list") (.v (.fl x)) = pur (.v (.bl true)) := is_mk (fun _ => rfl) (by decide +kernel)
@[simp] theorem is_ll (x : List FV) : oU (gIs "list") (.l x) = pur (.v (.bl true)) := is_mk (fun _ => rfl) (by decide +kernel)
@[simp] theorem is_df (x : List Key) (y : List FV) : oU (gIs "dict") (.v (.fd x y)) = pur (.v (.bl true)) := is_mk (fun _ => rfl) (by decide +kernel)
@[simp] theorem is_dd (x : List (Key × FV)) : oU (gIs "dict") (.d x) = pur (.v (.bl true)) := is_mk (fun _ => rfl) (by decide +kernel)
@[simp] theorem is_dn : oU (gIs "dict") (.v .non) = pur (.v (.bl false)) := is_mk (fun _ => rfl) (by decide +kernel)
@[simp] theorem is_ln : oU (gIs "list") (.v .non) = pur (.v (.bl false)) := is_mk (fun _ => rfl) (by decide +kernel)
@[simp] theorem is_ii (x : Int) : oU (gIs "int") (.v (.int x)) = pur (.v (.bl true)) := is_mk (fun _ => rfl) (by decide +kernel)
@[simp] theorem is_ib (x : Bool) : oU (gIs "int") (.v (.bl x)) = pur (.v (.bl true)) := is_mk (fun _ => rfl) (by decide +kernel)
@[simp] theorem is_bi (x : Int) : oU (gIs "bool") (.v (.int x)) = pur (.v (.bl false)) := is_mk (fun _ => rfl) (by decide +kernel)
@[simp] theorem is_bb (x : Bool) : oU (gIs "bool") (.v (.bl x)) = pur (.v (.bl true)) := is_mk (fun _ => rfl) (by decide +kernel)
/-! None -/
@[simp] theorem isN_non (b : Bool) : oC (gIsN b) (.v .non) (.v .non) = pur (!b) := id rfl
@[simp] theorem isN_str (b : Bool) (x : Str) : oC (gIsN b) (.v (.str x)) (.v .non) = pur b := id rfl
@[simp] theorem isN_int (b : Bool) (x : Int) : oC (gIsN b) (.v (.int x)) (.v .non) = pur b := id rfl
@[simp] theorem isN_bl (b : Bool) (x : Bool) : oC (gIsN b) (.v (.bl x)) (.v .non) = pur b := id rfl
@[simp] theorem isN_tup (b : Bool) (x : List FV) : oC (gIsN b) (.v (.tup x)) (.v .non) = pur b := id rfl
@[simp] theorem isN_fl (b : Bool) (x : List FV) : oC (gIsN b) (.v (.fl x)) (.v .non) = pur b := id rfl
@[simp] theorem isN_fd (b : Bool) (x : List Key) (y : List FV) : oC (gIsN b) (.v (.fd x y)) (.v .non) = pur b := id rfl
@[simp] theorem isN_fo (b : Bool) (c : Str) (x : List Str) (y : List FV) : oC (gIsN b) (.v (.fo c x y)) (.v .non) = pur b := id rfl
@[simp] theorem isN_ref (b : Bool) (x : Nat) : oC (gIsN b) (.v (.ref x)) (.v .non) = pur b := id rfl
@[simp] theorem isN_l (b : Bool) (x : List FV) : oC (gIsN b) (.l x) (.v .non) = pur b := id rfl
@[simp] theorem isN_d (b : Bool) (x : List (Key × FV)) : oC (gIsN b) (.d x) (.v .non) = pur b := id rfl
/-! == -/
theorem q_vv {neg : Bool} {x y : FV} (hx : x.pure = true) (hy : y.pure = true) (h : min x.py.depth y.py.depth ≤ 64) : oC (gQ neg) (.v x) (.v y) = pur (if neg = true then !PyData.eqv x.py y.py else PyData.eqv x.py y.py) := by
  have e : ∀ (s : FH) (z : FV), z.pure = true → (RV.v z).dv s = some (.p z.py) := fun s z hz => by
    show z.dv s 3 = _; unfold FV.dv; rw [if_pos hz]
  funext s
  show lift (gQ neg _ _) s = _
  unfold lift gQ
  rw [e s x hx, e s y hy]
  dsimp only
  rw [eqX, if_pos h]; rfl
@[simp] theorem q_ii (neg : Bool) (i j : Int) : oC (gQ neg) (.v (.int i)) (.v (.int j)) = pur (if neg = true then !decide (i = j) else decide (i = j)) := by
  rw [q_vv (by simp [FV.pure]) (by simp [FV.pure]) (by simp [FV.py, PyData.depth])]
  simp only [FV.py, PyData.eqv]
  rfl
@[simp] theorem q_ss (neg : Bool) (i j : Str) : oC (gQ neg) (.v (.str i)) (.v (.str j)) = pur (if neg = true then !decide (i = j) else decide (i = j)) := by
  rw [q_vv (by simp [FV.pure]) (by simp [FV.pure]) (by simp [FV.py, PyData.depth])]
  simp only [FV.py, PyData.eqv]
  congr 2
@[simp] theorem q_bb (neg : Bool) (i j : Bool) : oC (gQ neg) (.v (.bl i)) (.v (.bl j)) = pur (if neg = true then !decide (i = j) else decide (i = j)) := by
  rw [q_vv (by simp [FV.pure]) (by simp [FV.pure]) (by simp [FV.py, PyData.depth])]
  cases i <;> cases j <;> cases neg <;> rfl
/-! in: texts -/
def inT (w z : Str) : Bool := match w.cps.toList with | [c] => decide (c ∈ z.cps.toList) | _ => inS w z
@[simp] theorem mx_ss (neg : Bool) (w z : Str) : oC (gMx neg) (.v (.str w)) (.v (.str z)) = pur (if neg = true then !inT w z else inT w z) := by
  refine lift_ok fun s => ?_
  show gMx neg _ _ s = _
  unfold gMx gIn inT
  rw [show (RV.v (.str z)).seq s = none from rfl, show (RV.v (.str z)).dict s = none from rfl]
  dsimp only
  generalize w.cps.toList = l
  cases l with
  | nil => rfl
  | cons c r =>
    cases r with
    | nil => rfl
    | cons d r => rfl
/-! ranges -/
theorem r1_i {n : Int} (h0 : -4611686018427387904 ≤ n) (h1 : n < 4611686018427387904) : oR1 (.v (.int n)) = pur (rngL 0 n.toNat) := by
  unfold oR1; dsimp only; rw [if_pos ⟨h0, h1⟩]
theorem r2_i {m n : Int} (h0 : -4611686018427387904 ≤ m) (h1 : m < 4611686018427387904) (h2 : -4611686018427387904 ≤ n) (h3 : n < 4611686018427387904) : oR2 (.v (.int m)) (.v (.int n)) = pur (rngL m (n - m).toNat) := by
  unfold oR2; dsimp only; rw [if_pos ⟨h0, h1, h2, h3⟩]
/-! loops -/
theorem forN_nil {A β : Type} (F : A → FV → M (Fl A A)) (a : A) : (forN F [] a : M (Fl A β)) = pur (.nx a) := id rfl
theorem forN_cons {A β : Type} (F : A → FV → M (Fl A A)) (d : FV) (ds : List FV) (a : A) : (forN F (d :: ds) a : M (Fl A β)) = bnd (F a d) fun r => match r with
    | .nx a' => forN F ds a'
    | .ct a' => forN F ds a'
    | .bk a' => pur (.nx a')
    | .rt r => pur (.rt r) := rfl
theorem noEx_pur {α : Type} (a : α) : noEx (pur a) = pur a := id rfl
/-- a comprehension of values -/
theorem filN_map {β : Type} {g : FV → M (Option FV)} {e : β → FV} {f : β → Option FV} : ∀ {xs : List β}, (∀ x, x ∈ xs → g (e x) = pur (f x)) → filN g (xs.map e) = pur (xs.filterMap f)
  | [], _ => rfl
  | x :: xs, h => by
    rw [List.map_cons, filN, h x List.mem_cons_self, noEx_pur, bnd_pur, filN_map fun y hy => h y (List.mem_cons_of_mem _ hy), bnd_pur, List.filterMap_cons]
    cases f x <;> rfl
theorem filL_map {β : Type} {g : FV → M (Option FV)} {e : β → FV} {f : β → Option FV} {xs : List β} (h : ∀ x, x ∈ xs → g (e x) = pur (f x)) (l : xs.length ≤ 16000000) : filL g (xs.map e) = pur (.l (xs.filterMap f)) := by
  unfold filL
  rw [if_pos (by rw [List.length_map]; exact l), filN_map h, bnd_pur]
theorem filL_all {β : Type} {g : FV → M (Option FV)} {e : β → FV} {f : β → FV} {xs : List β} (h : ∀ x, x ∈ xs → g (e x) = pur (some (f x))) (l : xs.length ≤ 16000000) : filL g (xs.map e) = pur (.l (xs.map f)) := by
  rw [filL_map (f := fun x => some (f x)) h l]
  congr 2
  induction xs with
  | nil => rfl
  | cons x xs ih => rw [List.filterMap_cons, List.map_cons]; simp
theorem item_some {δ : Type} {b : FV → Option δ} {t : δ → M Bool} {fe : δ → M RV} {d : FV} {x : δ} (h : b d = some x) : item b t fe d = bnd (t x) fun c => if c = true then bnd (mV (fe x)) fun v => pur (some v) else pur none := by
  unfold item bindT; rw [h]
end P
/-! R3: the script and what is drawn from it. -/
namespace P
open PySem PySem.Spec PyProof.Rows L2 G
def startN (v_law_script : FV) : M (Fl Unit Empty) :=
  (bnd (mL (oLst [])) fun law_row_1 => (bnd (pur (.int 17)) fun law_seed_2 => (bnd (bnd (oU gLen (.v v_law_script)) fun t_3 => (oR1 t_3)) fun xs_44 => seqN (forN (fun | (law_row_5, law_seed_6), law_k_4 => (bnd (mV (bnd (oB gIx (.v v_law_script) (.v law_k_4)) fun t_7 => (oU gAbs t_7))) fun law_cell_8 => (bnd (mV (bnd (bnd (bnd (bnd (oB gMul (.v law_seed_6) (.v (.int 31))) fun t_9 => (oB gAdd t_9 (.v law_cell_8))) fun t_10 => (oB gAdd t_10 (.v law_k_4))) fun t_11 => (oU gInt t_11)) fun t_12 => (oB gMod t_12 (.v (.int 2147483647))))) fun law_seed_13 => (bnd (bnd (oB gPow (.v (.int 10)) (.v (.int 18))) fun t_14 => (oC gGe (.v law_cell_8) t_14)) fun c_15 => if c_15 = true then (bnd (mV (bnd (oB gPow (.v (.int 10)) (.v (.int 18))) fun t_16 => (oB gMns (.v law_cell_8) t_16))) fun law_cell_17 => (bnd (oR1 (.v (.int 60))) fun xs_28 => seqN (forN (fun | (law_row_19, law_cell_20), law_j_18 => (bnd (oC gGt (.v law_cell_20) (.v (.int 0))) fun c_21 => if c_21 = true then (bnd (mV (bnd (oU gInt (.v law_cell_20)) fun t_23 => (oB gMod t_23 (.v (.int 840))))) fun v_25 => (bnd (oApp law_row_19 v_25) fun law_row_22 => (bnd (mV (oB gDiv (.v law_cell_20) (.v (.int 840)))) fun law_cell_24 => (pur (.nx (law_row_22, law_cell_24)))))) else (pur (.nx (law_row_19, law_cell_20))))) xs_28 (law_row_5, law_cell_17)) (fun | (law_row_26, law_cell_27) => (pur (.nx (law_row_26, law_seed_13)))))) else (bnd (mV (bnd (bnd (bnd (bnd (oB gAdd (.v law_cell_8) (.v (.int 1))) fun t_29 => (oB gMul t_29 (.v (.int 48271)))) fun t_30 => (bnd (oB gMul (.v law_k_4) (.v (.int 69621))) fun t_31 => (oB gAdd t_30 t_31))) fun t_32 => (oU gInt t_32)) fun t_33 => (oB gMod t_33 (.v (.int 2147483647))))) fun law_mixed_34 => (bnd (mV (bnd (bnd (bnd (oB gMul (.v law_mixed_34) (.v (.int 40692))) fun t_35 => (oB gAdd t_35 (.v (.int 5)))) fun t_36 => (oU gInt t_36)) fun t_37 => (oB gMod t_37 (.v (.int 2147483399))))) fun law_mixed_38 => (bnd (mV (bnd (oB gDiv (.v law_mixed_38) (.v (.int 13))) fun t_40 => (oB gMod t_40 (.v (.int 840))))) fun v_41 => (bnd (oApp law_row_5 v_41) fun law_row_39 => (pur (.nx (law_row_39, law_seed_13))))))))))) xs_44 (law_row_1, law_seed_2)) (fun | (law_row_42, law_seed_43) => (ret (oLst [(.fl law_row_42), (.int 0), law_seed_43]))))))
def takeN (v_law_state v_law_many : FV) : M (Fl Unit Empty) :=
  (bnd (mV (oB gIx (.v v_law_state) (.v (.int 1)))) fun law_at_1 => (bnd (mV (oB gAdd (.v law_at_1) (.v (.int 1)))) fun v_20 => (bnd (oSet v_20 (.v v_law_state) (.v (.int 1))) fun _ => (bnd (bnd (bnd (oB gIx (.v v_law_state) (.v (.int 0))) fun t_2 => (oU gLen t_2)) fun t_3 => (oC gLt (.v law_at_1) t_3)) fun c_4 => if c_4 = true then ret (bnd (bnd (bnd (oB gIx (.v v_law_state) (.v (.int 0))) fun t_5 => (oB gIx t_5 (.v law_at_1))) fun t_6 => (oU gInt t_6)) fun t_7 => (oB gMod t_7 (.v v_law_many))) else (bnd (mV (bnd (bnd (bnd (bnd (oB gIx (.v v_law_state) (.v (.int 2))) fun t_8 => (bnd (oB gMul (.v law_at_1) (.v (.int 40503))) fun t_9 => (oB gAdd t_8 t_9))) fun t_10 => (oB gMul t_10 (.v (.int 48271)))) fun t_11 => (oU gInt t_11)) fun t_12 => (oB gMod t_12 (.v (.int 2147483647))))) fun law_mixed_13 => (bnd (mV (bnd (bnd (bnd (oB gMul (.v law_mixed_13) (.v (.int 69621))) fun t_14 => (bnd (oB gMul (.v law_at_1) (.v law_at_1)) fun t_15 => (oB gAdd t_14 t_15))) fun t_16 => (oU gInt t_16)) fun t_17 => (oB gMod t_17 (.v (.int 2147483629))))) fun law_mixed_18 => (ret (bnd (oB gDiv (.v law_mixed_18) (.v (.int 11))) fun t_19 => (oB gMod t_19 (.v v_law_many))))))))))
theorem mul_l {i j : Int} (h : -(2 ^ 64) < j ∧ j < 2 ^ 64) : CMul i j := .inr h
theorem mulL (i : Int) {j : Int} (h : -(2 ^ 64) < j ∧ j < 2 ^ 64) : oB gMul (.v (.int i)) (.v (.int j)) = pur (.v (.int (i * j))) := mul_ii (mul_l h)
theorem divL (i : Int) {j : Int} (h : 0 < j ∧ j < 2 ^ 30) : oB gDiv (.v (.int i)) (.v (.int j)) = pur (.v (.int (i / j))) := div_ii (by exact ⟨h.1, by omega⟩)
theorem p18 : oB gPow (.v (.int 10)) (.v (.int 18)) = pur (.v (.int 1000000000000000000)) := by
  refine lift_ok fun s => ?_
  show gPow _ _ s = _
  unfold gPow gI cPow
  dsimp only
  rw [if_pos (by exact ⟨by decide, by decide, by decide⟩)]; rfl
theorem in_loop {β : Type} : ∀ (m : Nat) (lo : Int) (row : List Int) (c : Int), row.length + m < 16000000 → ∃ (row' : List Int) (c' : Int), row'.length ≤ row.length + m ∧
    (forN (fun | (law_row_19, law_cell_20), law_j_18 => (bnd (oC gGt (.v law_cell_20) (.v (.int 0))) fun c_21 => if c_21 = true then (bnd (mV (bnd (oU gInt (.v law_cell_20)) fun t_23 => (oB gMod t_23 (.v (.int 840))))) fun v_25 => (bnd (oApp law_row_19 v_25) fun law_row_22 => (bnd (mV (oB gDiv (.v law_cell_20) (.v (.int 840)))) fun law_cell_24 => (pur (.nx (law_row_22, law_cell_24)))))) else (pur (.nx (law_row_19, law_cell_20))))) (rngL lo m) (row.map .int, .int c) : M (Fl (List FV × FV) β)) = pur (.nx (row'.map .int, .int c'))
  | 0, lo, row, c, _ => ⟨row, c, Nat.le_refl _, rfl⟩
  | m + 1, lo, row, c, hl => by
    rw [rngL, forN_cons]
    by_cases hc : 0 < c
    · obtain ⟨row', c', h1, h2⟩ := in_loop (β := β) m (lo + 1) (row ++ [c % 840]) (c / 840) (by rw [List.length_append]; show row.length + 1 + m < _; omega)
      refine ⟨row', c', by rw [List.length_append] at h1; have : [c % 840].length = 1 := rfl; omega, ?_⟩
      have l : (row.map FV.int).length < 16000000 := by rw [List.length_map]; omega
      simp only [gt_ii, bnd_pur, decide_eq_true hc, if_true, int_i, mod_ii (show (0 : Int) < 840 by decide), mV_v, app_lt l, divL c (show 0 < (840 : Int) ∧ (840 : Int) < 2 ^ 30 by decide)]
      rw [List.map_append] at h2
      exact h2
    · obtain ⟨row', c', h1, h2⟩ := in_loop (β := β) m (lo + 1) row c (by omega)
      refine ⟨row', c', by omega, ?_⟩
      simp only [gt_ii, bnd_pur, decide_eq_false hc, Bool.false_eq_true, if_false]
      exact h2
/-- a turn of the outer loop -/
theorem out_loop {β : Type} (ns : List Int) (F : (List FV × FV) → FV → M (Fl (List FV × FV) (List FV × FV)))
    (hF : ∀ (lo : Nat) (row : List Int) (sd : Int), lo < ns.length → row.length ≤ 60 * 63 → ∃ (row' : List Int) (sd' : Int), row'.length ≤ row.length + 60 ∧ F (row.map .int, .int sd) (.int lo) = pur (.nx (row'.map .int, .int sd'))) (hns : ns.length ≤ 63) :
    ∀ (m lo : Nat) (row : List Int) (sd : Int), lo + m = ns.length → row.length ≤ 60 * lo → ∃ (row' : List Int) (sd' : Int), (forN F (rngL lo m) (row.map .int, .int sd) : M (Fl (List FV × FV) β)) = pur (.nx (row'.map .int, .int sd'))
  | 0, lo, row, sd, _, _ => ⟨row, sd, rfl⟩
  | m + 1, lo, row, sd, hl, hr => by
    obtain ⟨row', s1, h1, h2⟩ := hF lo row sd (by omega) (by omega)
    obtain ⟨row2, sd2, h3⟩ := out_loop (β := β) ns F hF hns m (lo + 1) row' s1 (by omega) (by omega)
    refine ⟨row2, sd2, ?_⟩
    rw [rngL, forN_cons, h2, bnd_pur, show ((lo : Nat) : Int) + 1 = ((lo + 1 : Nat) : Int) by omega]
    exact h3
theorem start_ok (ns : List Int) (hns : ns.length ≤ 63) : ∃ (row : List Int) (sd : Int), gcM (toF (startN (.sl (ns.map .int)))) = pur (.l [.fl (row.map .int), .int 0, .int sd]) := by
  have q1 : ∀ i : Int, oB gMod (.v (.int i)) (.v (.int 2147483647)) = pur (.v (.int (i % 2147483647))) := fun i => mod_ii (by decide)
  have q2 : ∀ i : Int, oB gMod (.v (.int i)) (.v (.int 2147483399)) = pur (.v (.int (i % 2147483399))) := fun i => mod_ii (by decide)
  have q3 : ∀ i : Int, oB gMod (.v (.int i)) (.v (.int 840)) = pur (.v (.int (i % 840))) := fun i => mod_ii (by decide)
  have m1 := fun i => mulL i (j := 31) (by decide)
  have m2 := fun i => mulL i (j := 48271) (by decide)
  have m3 := fun i => mulL i (j := 69621) (by decide)
  have m4 := fun i => mulL i (j := 40692) (by decide)
  have d13 := fun i => divL i (j := 13) (by decide)
  have r60 : oR1 (.v (.int 60)) = pur (rngL 0 60) := r1_i (by decide) (by decide)
  unfold startN
  rw [lst_nil, mL_l, bnd_pur, bnd_pur, len_sl, bnd_pur, List.length_map, r1_i (by omega) (by omega), bnd_pur, Int.toNat_natCast]
  have key := out_loop (β := Empty) ns (fun | (law_row_5, law_seed_6), law_k_4 => (bnd (mV (bnd (oB gIx (.v (.sl (ns.map .int))) (.v law_k_4)) fun t_7 => (oU gAbs t_7))) fun law_cell_8 => (bnd (mV (bnd (bnd (bnd (bnd (oB gMul (.v law_seed_6) (.v (.int 31))) fun t_9 => (oB gAdd t_9 (.v law_cell_8))) fun t_10 => (oB gAdd t_10 (.v law_k_4))) fun t_11 => (oU gInt t_11)) fun t_12 => (oB gMod t_12 (.v (.int 2147483647))))) fun law_seed_13 => (bnd (bnd (oB gPow (.v (.int 10)) (.v (.int 18))) fun t_14 => (oC gGe (.v law_cell_8) t_14)) fun c_15 => if c_15 = true then (bnd (mV (bnd (oB gPow (.v (.int 10)) (.v (.int 18))) fun t_16 => (oB gMns (.v law_cell_8) t_16))) fun law_cell_17 => (bnd (oR1 (.v (.int 60))) fun xs_28 => seqN (forN (fun | (law_row_19, law_cell_20), law_j_18 => (bnd (oC gGt (.v law_cell_20) (.v (.int 0))) fun c_21 => if c_21 = true then (bnd (mV (bnd (oU gInt (.v law_cell_20)) fun t_23 => (oB gMod t_23 (.v (.int 840))))) fun v_25 => (bnd (oApp law_row_19 v_25) fun law_row_22 => (bnd (mV (oB gDiv (.v law_cell_20) (.v (.int 840)))) fun law_cell_24 => (pur (.nx (law_row_22, law_cell_24)))))) else (pur (.nx (law_row_19, law_cell_20))))) xs_28 (law_row_5, law_cell_17)) (fun | (law_row_26, law_cell_27) => (pur (.nx (law_row_26, law_seed_13)))))) else (bnd (mV (bnd (bnd (bnd (bnd (oB gAdd (.v law_cell_8) (.v (.int 1))) fun t_29 => (oB gMul t_29 (.v (.int 48271)))) fun t_30 => (bnd (oB gMul (.v law_k_4) (.v (.int 69621))) fun t_31 => (oB gAdd t_30 t_31))) fun t_32 => (oU gInt t_32)) fun t_33 => (oB gMod t_33 (.v (.int 2147483647))))) fun law_mixed_34 => (bnd (mV (bnd (bnd (bnd (oB gMul (.v law_mixed_34) (.v (.int 40692))) fun t_35 => (oB gAdd t_35 (.v (.int 5)))) fun t_36 => (oU gInt t_36)) fun t_37 => (oB gMod t_37 (.v (.int 2147483399))))) fun law_mixed_38 => (bnd (mV (bnd (oB gDiv (.v law_mixed_38) (.v (.int 13))) fun t_40 => (oB gMod t_40 (.v (.int 840))))) fun v_41 => (bnd (oApp law_row_5 v_41) fun law_row_39 => (pur (.nx (law_row_39, law_seed_13))))))))))) (fun lo row sd hlo hr => by
    have hat : atI (ns.map FV.int) (lo : Nat) = some (.int ns[lo]) := atI_nat (by rw [List.getElem?_map, List.getElem?_eq_getElem hlo]; rfl)
    simp only [ix_s hat, bnd_pur, abs_i, mV_v, m1, add_ii, int_i, q1, p18, ge_ii]
    generalize (if ns[lo] < 0 then -ns[lo] else ns[lo]) = cell
    generalize (sd * 31 + cell + lo) % 2147483647 = s1
    by_cases hc : (1000000000000000000 : Int) ≤ cell
    · obtain ⟨row', c', h1, h2⟩ := in_loop (β := List FV × FV) 60 0 row (cell - 1000000000000000000) (by omega)
      refine ⟨row', s1, h1, ?_⟩
      simp only [decide_eq_true hc, if_true, sub_ii, mV_v, bnd_pur, r60]
      rw [h2]; rfl
    · refine ⟨row ++ [(((cell + 1) * 48271 + lo * 69621) % 2147483647 * 40692 + 5) % 2147483399 / 13 % 840], s1, by rw [List.length_append]; exact Nat.add_le_add_left (show 1 ≤ 60 by decide) _, ?_⟩
      have l : (row.map FV.int).length < 16000000 := by rw [List.length_map]; omega
      simp only [decide_eq_false hc, Bool.false_eq_true, if_false, add_ii, m2, m3, m4, q1, q2, q3, d13, int_i, mV_v, bnd_pur, app_lt l, List.map_append]
      rfl) hns ns.length 0 [] 17 (by omega) (by simp)
  obtain ⟨row, sd, h⟩ := key
  refine ⟨row, sd, ?_⟩
  have h' : (forN (fun | (law_row_5, law_seed_6), law_k_4 => (bnd (mV (bnd (oB gIx (.v (.sl (ns.map .int))) (.v law_k_4)) fun t_7 => (oU gAbs t_7))) fun law_cell_8 => (bnd (mV (bnd (bnd (bnd (bnd (oB gMul (.v law_seed_6) (.v (.int 31))) fun t_9 => (oB gAdd t_9 (.v law_cell_8))) fun t_10 => (oB gAdd t_10 (.v law_k_4))) fun t_11 => (oU gInt t_11)) fun t_12 => (oB gMod t_12 (.v (.int 2147483647))))) fun law_seed_13 => (bnd (bnd (oB gPow (.v (.int 10)) (.v (.int 18))) fun t_14 => (oC gGe (.v law_cell_8) t_14)) fun c_15 => if c_15 = true then (bnd (mV (bnd (oB gPow (.v (.int 10)) (.v (.int 18))) fun t_16 => (oB gMns (.v law_cell_8) t_16))) fun law_cell_17 => (bnd (oR1 (.v (.int 60))) fun xs_28 => seqN (forN (fun | (law_row_19, law_cell_20), law_j_18 => (bnd (oC gGt (.v law_cell_20) (.v (.int 0))) fun c_21 => if c_21 = true then (bnd (mV (bnd (oU gInt (.v law_cell_20)) fun t_23 => (oB gMod t_23 (.v (.int 840))))) fun v_25 => (bnd (oApp law_row_19 v_25) fun law_row_22 => (bnd (mV (oB gDiv (.v law_cell_20) (.v (.int 840)))) fun law_cell_24 => (pur (.nx (law_row_22, law_cell_24)))))) else (pur (.nx (law_row_19, law_cell_20))))) xs_28 (law_row_5, law_cell_17)) (fun | (law_row_26, law_cell_27) => (pur (.nx (law_row_26, law_seed_13)))))) else (bnd (mV (bnd (bnd (bnd (bnd (oB gAdd (.v law_cell_8) (.v (.int 1))) fun t_29 => (oB gMul t_29 (.v (.int 48271)))) fun t_30 => (bnd (oB gMul (.v law_k_4) (.v (.int 69621))) fun t_31 => (oB gAdd t_30 t_31))) fun t_32 => (oU gInt t_32)) fun t_33 => (oB gMod t_33 (.v (.int 2147483647))))) fun law_mixed_34 => (bnd (mV (bnd (bnd (bnd (oB gMul (.v law_mixed_34) (.v (.int 40692))) fun t_35 => (oB gAdd t_35 (.v (.int 5)))) fun t_36 => (oU gInt t_36)) fun t_37 => (oB gMod t_37 (.v (.int 2147483399))))) fun law_mixed_38 => (bnd (mV (bnd (oB gDiv (.v law_mixed_38) (.v (.int 13))) fun t_40 => (oB gMod t_40 (.v (.int 840))))) fun v_41 => (bnd (oApp law_row_5 v_41) fun law_row_39 => (pur (.nx (law_row_39, law_seed_13))))))))))) (rngL 0 ns.length) ([], .int 17) : M (Fl (List FV × FV) Empty)) = pur (.nx (row.map .int, .int sd)) := h
  rw [h', seqN_nx]
  simp only [lst_3, ret_pur, toF_rt]
  exact gcM_pur _
/-! ### a number drawn -/
/-- the drawing state: the numbers, the place, the seed -/
structure DS where
  row : List Int
  at' : Nat
  sd : Int
def DS.next (s : DS) : DS := ⟨s.row, s.at' + 1, s.sd⟩
def DS.ob (s : DS) : FO := .lst [.fl (s.row.map .int), .int s.at', .int s.sd]
theorem bnd_h {α β : Type} (m : M α) (k : α → M β) (h : FH) : bnd m k h = (m h).bind k := rfl
theorem pur_h {α : Type} (a : α) (h : FH) : pur a h = .ok a h := rfl
theorem ok_bind {α β : Type} (a : α) (h : FH) (k : α → M β) : (Rs.ok a h).bind k = k a h := rfl
theorem ix_r0 {ds : List FV} {i : Int} {d : FV} {r : FH} (e : atI ds i = some d) : oB gIx (.v (.ref 0)) (.v (.int i)) (.lst ds :: r) = .ok (.v d) (.lst ds :: r) := by
  show lift (gIx _ _) _ = _
  unfold lift
  have : gIx (.v (.ref 0)) (.v (.int i)) (.lst ds :: r) = some (.v d) := by
    show (atI ds i).map RV.v = _
    rw [e]; rfl
  rw [this]
theorem take_ok (s : DS) (r : FH) (k : Nat) (hk : 0 < k) (ha : s.at' < 2 ^ 60) : ∃ i : Nat, i < k ∧ gcM (toF (takeN (.ref 0) (.int k))) (s.ob :: r) = .ok (.v (.int i)) (s.next.ob :: r) := by
  have key : ∀ x : Int, ∃ i : Nat, i < k ∧ x % (k : Int) = i := fun x => by
    have h1 : 0 ≤ x % (k : Int) := Int.emod_nonneg _ (by omega)
    have h2 : x % (k : Int) < k := Int.emod_lt_of_pos _ (by omega)
    exact ⟨(x % k).toNat, by omega, by omega⟩
  have g0 : oB gIx (.v (.ref 0)) (.v (.int 1)) (s.ob :: r) = .ok (.v (.int s.at')) (s.ob :: r) := ix_r0 (atI_1 _ _ _)
  have g1 : oB gIx (.v (.ref 0)) (.v (.int 0)) (s.next.ob :: r) = .ok (.v (.fl (s.row.map .int))) (s.next.ob :: r) := ix_r0 (atI_0 _ _)
  have g2 : oB gIx (.v (.ref 0)) (.v (.int 2)) (s.next.ob :: r) = .ok (.v (.int s.sd)) (s.next.ob :: r) := ix_r0 (atI_2 _ _ _ _)
  have gs : oSet (.int ((s.at' : Int) + 1)) (.v (.ref 0)) (.v (.int 1)) (s.ob :: r) = .ok () (s.next.ob :: r) := rfl
  have hlen : (s.row.map FV.int).length = s.row.length := List.length_map _
  have go : ∀ i : Nat, toF (takeN (.ref 0) (.int k)) (s.ob :: r) = .ok (.v (.int i)) (s.next.ob :: r) → gcM (toF (takeN (.ref 0) (.int k))) (s.ob :: r) = .ok (.v (.int i)) (s.next.ob :: r) := fun i e => gcM_same e (Nat.le_refl _)
  have qk : ∀ i : Int, oB gMod (.v (.int i)) (.v (.int k)) = pur (.v (.int (i % k))) := fun i => mod_ii (by omega)
  by_cases hl : s.at' < s.row.length
  · have hat : atI (s.row.map FV.int) (s.at' : Nat) = some (.int s.row[s.at']) := atI_nat (by rw [List.getElem?_map, List.getElem?_eq_getElem hl]; rfl)
    obtain ⟨i, h1, h2⟩ := key s.row[s.at']
    refine ⟨i, h1, go i ?_⟩
    have hl' : decide (((s.at' : Nat) : Int) < (s.row.length : Nat)) = true := decide_eq_true (by omega)
    unfold takeN
    simp only [mV, bnd_h, g0, g1, ok_bind, vF, RV.frz, add_ii, pur_h, gs, len_f, hlen, lt_ii, hl', if_true, ix_f hat, int_i, qk, h2, ret, toF]
  · have hl' : decide (((s.at' : Nat) : Int) < (s.row.length : Nat)) = false := decide_eq_false (by omega)
    have m1 := fun i => mulL i (j := 40503) (by decide)
    have m2 := fun i => mulL i (j := 48271) (by decide)
    have m3 := fun i => mulL i (j := 69621) (by decide)
    have m4 : oB gMul (.v (.int s.at')) (.v (.int s.at')) = pur (.v (.int ((s.at' : Int) * s.at'))) := mul_ii (.inl ⟨by omega, by omega⟩)
    have d11 := fun i => divL i (j := 11) (by decide)
    have q1 : ∀ i : Int, oB gMod (.v (.int i)) (.v (.int 2147483647)) = pur (.v (.int (i % 2147483647))) := fun i => mod_ii (by decide)
    have q2 : ∀ i : Int, oB gMod (.v (.int i)) (.v (.int 2147483629)) = pur (.v (.int (i % 2147483629))) := fun i => mod_ii (by decide)
    obtain ⟨i, h1, h2⟩ := key (((((s.sd + s.at' * 40503) * 48271) % 2147483647) * 69621 + s.at' * s.at') % 2147483629 / 11)
    refine ⟨i, h1, go i ?_⟩
    unfold takeN
    simp only [mV, bnd_h, g0, g1, g2, ok_bind, vF, RV.frz, add_ii, pur_h, gs, len_f, hlen, lt_ii, hl', Bool.false_eq_true, if_false, int_i, qk, q1, q2, m1, m2, m3, m4, d11, h2, ret, toF]
end P
/-! R4: what is drawn. -/
namespace P
open PySem PySem.Spec PyProof.Rows L2 G
/-- objects that name no others -/
def Dt (r : FH) : Prop := r.all (·.lowB 0) = true
/-- m draws at most c numbers, changes nothing else, and gives what Q says -/
def Dr {α : Type} (m : M α) (Q : α → Prop) (c : Nat) : Prop := ∀ (s : DS) (r : FH), Dt r → s.at' + c ≤ 2 ^ 60 → ∃ (a : α) (s' : DS), m (s.ob :: r) = .ok a (s'.ob :: r) ∧ s'.at' ≤ s.at' + c ∧ Q a
section
variable {α β γ : Type} {m : M α} {k : α → M β} {Z Q : α → Prop} {R : β → Prop} {c d e : Nat}
theorem Dr.pur {a : α} (h : Q a) : Dr (P.pur a) Q 0 := fun s r _ _ => ⟨a, s, rfl, Nat.le_refl _, h⟩
theorem Dr.of {a : α} (e : m = P.pur a) (h : Q a) : Dr m Q 0 := e ▸ Dr.pur h
theorem Dr.mono (h : Dr m Z c) (l : c ≤ d) (k : ∀ a, Z a → Q a) : Dr m Q d := fun s r dr hs => by
  obtain ⟨a, s', e, h1, h2⟩ := h s r dr (by omega)
  exact ⟨a, s', e, by omega, k a h2⟩
theorem Dr.up (h : Dr m Q c) (l : c ≤ d) : Dr m Q d := h.mono l fun _ q => q
theorem Dr.bnd (h : Dr m Z c) (k' : ∀ a, Z a → Dr (k a) R d) (l : c + d ≤ e) : Dr (P.bnd m k) R e := fun s r dr hs => by
  obtain ⟨a, s1, e1, h1, h2⟩ := h s r dr (by omega)
  obtain ⟨b, s2, e2, h3, h4⟩ := k' a h2 s1 r dr (by omega)
  exact ⟨b, s2, by rw [bnd_ok e1]; exact e2, by omega, h4⟩
end
theorem Dr.mV {m : M RV} {Q : RV → Prop} {Z : FV → Prop} {c : Nat} (h : Dr m Q c) (k : ∀ r, Q r → ∃ d, r.frz = some d ∧ Z d) : Dr (mV m) Z c := fun s r dr hs => by
  obtain ⟨a, s', e, h1, h2⟩ := h s r dr hs
  obtain ⟨d, e2, h3⟩ := k a h2
  refine ⟨d, s', ?_, h1, h3⟩
  show vF (m _) = _
  rw [e]; unfold vF; dsimp only; rw [e2]
theorem Dr.gc {m : M RV} {Q : RV → Prop} {c : Nat} (h : Dr m Q c) : Dr (gcM m) Q c := fun s r dr hs => by
  obtain ⟨a, s', e, h1, h2⟩ := h s r dr hs
  exact ⟨a, s', gcM_same e (Nat.le_refl _), h1, h2⟩
theorem Dr.ret {m : M RV} {Q : RV → Prop} {Z : Fl Unit Empty → Prop} {c : Nat} (h : Dr m Q c) (k : ∀ r, Q r → Z (.rt r)) : Dr (ret m) Z c := Dr.bnd h (d := 0) (fun a q => Dr.pur (k a q)) (Nat.le_refl _)
/-- a block, then what follows -/
theorem Dr.seq {α γ : Type} {m : M (Fl α Empty)} {k : α → M (Fl γ Empty)} {Z : α → Prop} {R : Fl γ Empty → Prop} {c d e : Nat} (h : Dr m (fun f => ∃ a, f = .nx a ∧ Z a) c) (k' : ∀ a, Z a → Dr (k a) R d) (l : c + d ≤ e) : Dr (seqN m k) R e :=
  Dr.bnd h (fun f ⟨a, e, z⟩ => by subst e; exact k' a z) l
theorem Dr.nx {α β : Type} {m : M (Fl α β)} {a : α} {Z : α → Prop} (e : m = P.pur (.nx a)) (h : Z a) : Dr m (fun f => ∃ a, f = .nx a ∧ Z a) 0 := Dr.of e ⟨a, rfl, h⟩
/-- the result of a def's body -/
def RtQ (Q : RV → Prop) : Fl Unit Empty → Prop
  | .rt r => Q r
  | .nx _ => Q (.v .non)
  | .bk b => nomatch b
  | .ct b => nomatch b
theorem Dr.toF {m : M (Fl Unit Empty)} {Q : RV → Prop} {c : Nat} (h : Dr m (RtQ Q) c) : Dr (toF m) Q c := by
  refine Dr.bnd h (d := 0) (fun a q => ?_) (Nat.le_refl _)
  cases a with
  | nx u => exact Dr.pur q
  | rt r => exact Dr.pur q
  | bk b => cases b
  | ct b => cases b
/-- a def that draws -/
theorem Dr.fn {m : M (Fl Unit Empty)} {Q : RV → Prop} {c : Nat} (h : Dr m (RtQ Q) c) : Dr (gcM (P.toF m)) Q c := h.toF.gc
theorem Dr.take {m : M RV} {k : Nat} (e : m = gcM (P.toF (takeN (.ref 0) (.int k)))) (hk : 0 < k) : Dr m (fun r => ∃ i : Nat, i < k ∧ r = .v (.int i)) 1 := fun s r dr hs => by
  obtain ⟨i, h1, h2⟩ := take_ok s r k hk (by omega)
  exact ⟨_, _, by rw [e]; exact h2, Nat.le_refl _, i, h1, rfl⟩
end P
/-! RT: terms. -/
namespace P
open PySem PySem.Spec PyProof.Rows L2 G
inductive Tm where
  | var (x : Str) | app (f : Str) (ts : List Tm)
mutual
def Tm.beq : Tm → Tm → Bool
  | .var x, .var y => decide (x = y)
  | .app f ts, .app g us => decide (f = g) && Tm.beqs ts us
  | _, _ => false
def Tm.beqs : List Tm → List Tm → Bool
  | [], [] => true
  | t :: ts, u :: us => t.beq u && Tm.beqs ts us
  | _, _ => false
end
mutual
theorem Tm.beq_iff : ∀ {t u : Tm}, t.beq u = true ↔ t = u
  | .var x, .var y => by simp [Tm.beq]
  | .app f ts, .app g us => by simp [Tm.beq, Tm.beqs_iff (ts := ts) (us := us)]
  | .var x, .app g us => by simp [Tm.beq]
  | .app f ts, .var y => by simp [Tm.beq]
theorem Tm.beqs_iff : ∀ {ts us : List Tm}, Tm.beqs ts us = true ↔ ts = us
  | [], [] => by simp [Tm.beqs]
  | t :: ts, u :: us => by simp [Tm.beqs, Tm.beq_iff (t := t) (u := u), Tm.beqs_iff (ts := ts) (us := us)]
  | [], u :: us => by simp [Tm.beqs]
  | t :: ts, [] => by simp [Tm.beqs]
end
instance : DecidableEq Tm := fun t u => if h : t.beq u = true then isTrue (Tm.beq_iff.mp h) else isFalse fun e => h (Tm.beq_iff.mpr e)
theorem Tm.beq_dec (t u : Tm) : t.beq u = decide (t = u) := by
  by_cases h : t = u
  · rw [decide_eq_true h, Tm.beq_iff.mpr h]
  · rw [decide_eq_false h]
    cases q : t.beq u with
    | false => rfl
    | true => exact absurd (Tm.beq_iff.mp q) h
mutual
def Tm.fv : Tm → FV
  | .var x => .str x
  | .app f ts => .tup (.str f :: Tm.fvs ts)
def Tm.fvs : List Tm → List FV
  | [] => []
  | t :: ts => t.fv :: Tm.fvs ts
end
@[simp] theorem fv_var (x : Str) : (Tm.var x).fv = .str x := by simp [Tm.fv]
@[simp] theorem fv_app (f : Str) (ts : List Tm) : (Tm.app f ts).fv = .tup (.str f :: Tm.fvs ts) := by simp [Tm.fv]
@[simp] theorem fvs_nil : Tm.fvs [] = [] := by simp [Tm.fvs]
@[simp] theorem fvs_cons (t : Tm) (ts : List Tm) : Tm.fvs (t :: ts) = t.fv :: Tm.fvs ts := by simp [Tm.fvs]
theorem fvs_map : ∀ ts : List Tm, Tm.fvs ts = ts.map Tm.fv
  | [] => by simp
  | t :: ts => by simp [fvs_map ts]
@[simp] theorem fvs_len (ts : List Tm) : (Tm.fvs ts).length = ts.length := by rw [fvs_map, List.length_map]
mutual
def Tm.dep : Tm → Nat
  | .var _ => 0
  | .app _ ts => Tm.deps ts + 1
def Tm.deps : List Tm → Nat
  | [] => 0
  | t :: ts => max t.dep (Tm.deps ts)
end
@[simp] theorem dep_var (x : Str) : (Tm.var x).dep = 0 := by simp [Tm.dep]
@[simp] theorem dep_app (f : Str) (ts : List Tm) : (Tm.app f ts).dep = Tm.deps ts + 1 := by simp [Tm.dep]
@[simp] theorem deps_nil : Tm.deps [] = 0 := by simp [Tm.deps]
@[simp] theorem deps_cons (t : Tm) (ts : List Tm) : Tm.deps (t :: ts) = max t.dep (Tm.deps ts) := by simp [Tm.deps]
theorem deps_mem : ∀ {ts : List Tm} {t : Tm}, t ∈ ts → t.dep ≤ Tm.deps ts
  | u :: ts, t, h => by
    rw [deps_cons]
    rcases List.mem_cons.mp h with rfl | h
    · omega
    · have := deps_mem h; omega
mutual
theorem fv_pure : ∀ t : Tm, t.fv.pure = true
  | .var x => by simp [FV.pure]
  | .app f ts => by simp [FV.pure, FV.pures, fvs_pure ts]
theorem fvs_pure : ∀ ts : List Tm, FV.pures (Tm.fvs ts) = true
  | [] => by simp [FV.pures]
  | t :: ts => by simp [FV.pures, fv_pure t, fvs_pure ts]
end
mutual
theorem fv_depth : ∀ t : Tm, t.fv.py.depth = t.dep
  | .var x => by simp [FV.py, PyData.depth]
  | .app f ts => by simp [FV.py, PyData.depth, FV.pys, PyData.depthAll, fvs_depth ts]
theorem fvs_depth : ∀ ts : List Tm, PyData.depthAll (FV.pys (Tm.fvs ts)) = Tm.deps ts
  | [] => by simp [FV.pys, PyData.depthAll]
  | t :: ts => by simp [FV.pys, PyData.depthAll, fv_depth t, fvs_depth ts]
end
theorem str_eqv (x y : Str) : PyData.eqv (.str x) (.str y) = decide (x = y) := by
  simp only [PyData.eqv]
  rfl
mutual
theorem fv_eqv : ∀ t u : Tm, PyData.eqv t.fv.py u.fv.py = t.beq u
  | .var x, .var y => by simp only [fv_var, FV.py, Tm.beq]; exact str_eqv x y
  | .app f ts, .app g us => by
    simp only [fv_app, FV.py, FV.pys, Tm.beq, PyData.eqv, PyData.eqvAll]
    rw [fvs_eqv ts us]
    congr 1
  | .var x, .app g us => by simp [FV.py, Tm.beq, PyData.eqv]
  | .app f ts, .var y => by simp [FV.py, Tm.beq, PyData.eqv]
theorem fvs_eqv : ∀ ts us : List Tm, PyData.eqvAll (FV.pys (Tm.fvs ts)) (FV.pys (Tm.fvs us)) = Tm.beqs ts us
  | [], [] => by simp [FV.pys, Tm.beqs, PyData.eqvAll]
  | t :: ts, u :: us => by simp only [fvs_cons, FV.pys, Tm.beqs, PyData.eqvAll, fv_eqv t u, fvs_eqv ts us]
  | [], u :: us => by simp [FV.pys, Tm.beqs, PyData.eqvAll]
  | t :: ts, [] => by simp [FV.pys, Tm.beqs, PyData.eqvAll]
end
/-! names -/
def capB (f : Str) : Bool := !decide ((cutS f none (some 1)).cps.toList < ("A" : Str).cps.toList) && !decide (("Z" : Str).cps.toList < (cutS f none (some 1)).cps.toList)
mutual
/-- a plain term: small heads -/
def Tm.plain : Tm → Bool
  | .var _ => true
  | .app f ts => decide (0 < f.length) && !capB f && Tm.plains ts
def Tm.plains : List Tm → Bool
  | [] => true
  | t :: ts => t.plain && Tm.plains ts
end
mutual
/-- short names -/
def Tm.short : Tm → Prop
  | .var x => x.length ≤ 1000
  | .app f ts => f.length ≤ 1000 ∧ Tm.shorts ts
def Tm.shorts : List Tm → Prop
  | [] => True
  | t :: ts => t.short ∧ Tm.shorts ts
end
@[simp] theorem plain_var (x : Str) : (Tm.var x).plain = true := by simp [Tm.plain]
@[simp] theorem plain_app (f : Str) (ts : List Tm) : (Tm.app f ts).plain = (decide (0 < f.length) && !capB f && Tm.plains ts) := by simp [Tm.plain]
@[simp] theorem plains_nil : Tm.plains [] = true := by simp [Tm.plains]
@[simp] theorem plains_cons (t : Tm) (ts : List Tm) : Tm.plains (t :: ts) = (t.plain && Tm.plains ts) := by simp [Tm.plains]
@[simp] theorem short_var (x : Str) : (Tm.var x).short ↔ x.length ≤ 1000 := by simp [Tm.short]
@[simp] theorem short_app (f : Str) (ts : List Tm) : (Tm.app f ts).short ↔ f.length ≤ 1000 ∧ Tm.shorts ts := by simp [Tm.short]
@[simp] theorem shorts_nil : Tm.shorts [] ↔ True := by simp [Tm.shorts]
@[simp] theorem shorts_cons (t : Tm) (ts : List Tm) : Tm.shorts (t :: ts) ↔ t.short ∧ Tm.shorts ts := by simp [Tm.shorts]
end P
/-! R5: objects with numbers; dicts from texts to terms. -/
namespace P
open PySem PySem.Spec PyProof.Rows L2 G
/-! ### dicts from texts to terms -/
abbrev Sb := List (Str × Tm)
def lookA {α : Type} (σ : List (Str × α)) (x : Str) : Option α := (σ.find? fun p => decide (p.1 = x)).map (·.2)
def putA {α : Type} (σ : List (Str × α)) (x : Str) (t : α) : List (Str × α) := if (σ.any fun p => decide (p.1 = x)) = true then σ.map (fun p => if p.1 = x then (p.1, t) else p) else σ ++ [(x, t)]
def keyS (x : Str) : Key := .inr x
def embA {α : Type} (e : α → FV) (σ : List (Str × α)) : List (Key × FV) := σ.map fun p => (keyS p.1, e p.2)
section
variable {α : Type} {e : α → FV}
theorem inr_iff (x y : Str) : ((keyS x : Key) = keyS y) ↔ x = y := ⟨fun h => Sum.inr.inj h, fun h => h ▸ rfl⟩
theorem any_emb (x : Str) : ∀ σ : List (Str × α), ((embA e σ).any fun kv => decide (kv.1 = keyS x)) = σ.any fun p => decide (p.1 = x)
  | [] => rfl
  | p :: σ => by
    show ((_ :: embA e σ).any _) = _
    rw [List.any_cons, List.any_cons, any_emb x σ]
    congr 1
    exact decide_eq_decide.mpr (inr_iff _ _)
theorem put_emb (x : Str) (t : α) (σ : List (Str × α)) : putF (embA e σ) (keyS x) (e t) = embA e (putA σ x t) := by
  unfold putF putA
  rw [any_emb]
  by_cases h : (σ.any fun p => decide (p.1 = x)) = true
  · rw [if_pos h, if_pos h]
    clear h
    induction σ with
    | nil => rfl
    | cons p σ ih =>
      show ((_ :: embA e σ).map _) = _ :: embA e _
      rw [List.map_cons, ih]
      congr 1
      dsimp only
      by_cases h : p.1 = x
      · rw [if_pos h, if_pos (by rw [h])]
      · rw [if_neg h, if_neg (fun z => h ((inr_iff _ _).mp z))]
  · rw [if_neg h, if_neg h]
    unfold embA
    rw [List.map_append]; rfl
theorem look_any {σ : List (Str × α)} {x : Str} : (σ.any fun p => decide (p.1 = x)) = (lookA σ x).isSome := by
  induction σ with
  | nil => rfl
  | cons p σ ih =>
    unfold lookA at *
    rw [List.any_cons, List.find?_cons]
    by_cases h : p.1 = x
    · rw [decide_eq_true h]; rfl
    · rw [decide_eq_false h, Bool.false_or, ih]
end
/-! ### behind calls -/
def LowH (h : FH) : Prop := h.all (·.lowB h.length) = true
theorem take_app {h x : FH} : (h ++ x).take h.length = h := by simp
theorem gc_val {m : M RV} {h x : FH} {d : FV} (e : m h = .ok (.v d) (h ++ x)) (lo : LowH h) (hd : d.lowB h.length = true) (nr : ∀ i, d ≠ .ref i) : gcM m h = .ok (.v d) h := by
  cases x with
  | nil => rw [List.append_nil] at e; exact gcM_same e (Nat.le_refl _)
  | cons o x =>
    have := gcM_cut (r' := .v d) e (by simp) (by rw [take_app]; exact lo) (by
      unfold RV.cut
      cases d with
      | ref i => exact absurd rfl (nr i)
      | _ => exact if_pos hd)
    rw [take_app] at this; exact this
mutual
theorem low_mono {n m : Nat} (l : n ≤ m) : ∀ d : FV, d.lowB n = true → d.lowB m = true
  | .ref i, h => by simp only [FV.lowB, decide_eq_true_eq] at h ⊢; omega
  | .tup xs, h => by simp only [FV.lowB] at h ⊢; exact lows_mono l xs h
  | .fl xs, h => by simp only [FV.lowB] at h ⊢; exact lows_mono l xs h
  | .sl xs, h => by simp only [FV.lowB] at h ⊢; exact lows_mono l xs h
  | .fd _ xs, h => by simp only [FV.lowB] at h ⊢; exact lows_mono l xs h
  | .ft _ xs, h => by simp only [FV.lowB] at h ⊢; exact lows_mono l xs h
  | .fo _ _ xs, h => by simp only [FV.lowB] at h ⊢; exact lows_mono l xs h
  | .non, _ => by simp [FV.lowB]
  | .bl _, _ => by simp [FV.lowB]
  | .int _, _ => by simp [FV.lowB]
  | .str _, _ => by simp [FV.lowB]
theorem lows_mono {n m : Nat} (l : n ≤ m) : ∀ ds : List FV, FV.lowsB n ds = true → FV.lowsB m ds = true
  | [], _ => by simp [FV.lowsB]
  | d :: ds, h => by
    simp only [FV.lowsB, Bool.and_eq_true] at h ⊢
    exact ⟨low_mono l d h.1, lows_mono l ds h.2⟩
end
theorem lowO_mono {n m : Nat} (l : n ≤ m) (o : FO) (h : o.lowB n = true) : o.lowB m = true := by
  cases o <;> exact lows_mono l _ h
theorem LowH.app {h x : FH} (a : LowH h) (b : x.all (·.lowB (h.length + x.length)) = true) : LowH (h ++ x) := by
  unfold LowH at *
  rw [List.all_append, List.length_append, b, Bool.and_true, List.all_eq_true]
  intro o ho
  exact lowO_mono (Nat.le_add_right _ _) o (List.all_eq_true.mp a o ho)
theorem ints_low (n : Nat) : ∀ l : List Int, FV.lowsB n (l.map FV.int) = true
  | [] => by simp [FV.lowsB]
  | i :: l => by simp [FV.lowsB, FV.lowB, ints_low n l]
theorem ob_low (s : DS) (n : Nat) : s.ob.lowB n = true := by
  unfold DS.ob FO.lowB
  simp [FV.lowsB, FV.lowB, ints_low]
theorem LowH.ob (s : DS) : LowH [s.ob] := by
  unfold LowH
  simp [ob_low]
theorem Dt.low {s : DS} {r : FH} (h : Dt r) : LowH (s.ob :: r) := by
  unfold LowH
  rw [List.all_cons, ob_low, Bool.true_and, List.all_eq_true]
  intro o ho
  exact lowO_mono (Nat.zero_le _) o (List.all_eq_true.mp h o ho)
/-- what draws nothing -/
theorem Dr.low {α : Type} {m : M α} {Q : α → Prop} {a : α} (e : ∀ h, LowH h → m h = .ok a h) (q : Q a) : Dr m Q 0 := fun s r dr _ => ⟨a, s, e _ dr.low, Nat.le_refl _, q⟩
end P
/-! R6: dicts compared. -/
namespace P
open PySem PySem.Spec PyProof.Rows L2 G
def dvs (σ : Sb) : DV := .d (σ.map fun p => (keyS p.1, .p p.2.fv.py))
/-! lists of dicts -/
/-! a list of dicts with numbers, behind its call -/
end P
/-! R7: sorted by text; lists without repeats; data compared. -/
namespace P
open PySem PySem.Spec PyProof.Rows L2 G
section
variable {α : Type} (k : α → Str)
theorem str_ext {x y : Str} (h : x.cps.toList = y.cps.toList) : x = y := by
  cases x; cases y
  have := Array.toList_inj.mp h
  cases this; rfl
variable [DecidableEq α]
def addD (acc : List α) (x : α) : List α := if x ∈ acc then acc else acc ++ [x]
/-- each once, where it stood first -/
def dd (xs : List α) : List α := xs.foldl addD []
theorem dd_loop : ∀ (xs acc : List α), ∃ ys, xs.foldl addD acc = acc ++ ys ∧ ys.Sublist xs
  | [], acc => ⟨[], by simp, .slnil⟩
  | x :: xs, acc => by
    rw [List.foldl_cons]
    by_cases h : x ∈ acc
    · rw [show addD acc x = acc from if_pos h]
      obtain ⟨ys, h1, h2⟩ := dd_loop xs acc
      exact ⟨ys, h1, .cons x h2⟩
    · rw [show addD acc x = acc ++ [x] from if_neg h]
      obtain ⟨ys, h1, h2⟩ := dd_loop xs (acc ++ [x])
      exact ⟨x :: ys, by rw [h1]; simp, .cons₂ x h2⟩
theorem dd_sub (xs : List α) : (dd xs).Sublist xs := by
  obtain ⟨ys, h1, h2⟩ := dd_loop xs []
  unfold dd; rw [h1]; simpa using h2
end
/-! data -/
def memD {α : Type} [DecidableEq α] (a : α) (xs : List α) : Bool := decide (a ∈ xs)
/-- things as data -/
structure Enc {α : Type} [DecidableEq α] (e : α → FV) (A : α → Prop) : Prop where
  pu : ∀ a, (e a).pure = true
  dp : ∀ a, A a → (e a).py.depth ≤ 60
  eq : ∀ a b, PyData.eqv (e a).py (e b).py = decide (a = b)
section
variable {α : Type} [DecidableEq α] {e : α → FV} {A : α → Prop}
theorem Enc.pus (E : Enc e A) : ∀ xs : List α, FV.pures (xs.map e) = true
  | [] => rfl
  | x :: xs => by rw [List.map_cons, FV.pures, E.pu x, E.pus xs]; rfl
theorem Enc.dps (E : Enc e A) : ∀ xs : List α, (∀ a, a ∈ xs → A a) → PyData.depthAll (FV.pys (xs.map e)) ≤ 60
  | [], _ => by simp [FV.pys, PyData.depthAll]
  | x :: xs, h => by
    have h1 := E.dp x (h x List.mem_cons_self)
    have h2 := E.dps xs fun a ha => h a (List.mem_cons_of_mem _ ha)
    rw [List.map_cons, FV.pys, PyData.depthAll]; omega
theorem Enc.q (E : Enc e A) {neg : Bool} {a b : α} (ha : A a) : oC (gQ neg) (.v (e a)) (.v (e b)) = pur (if neg = true then !decide (a = b) else decide (a = b)) := by
  have := E.dp a ha
  rw [q_vv (E.pu a) (E.pu b) (by omega), E.eq]
theorem Enc.any (E : Enc e A) (a : α) : ∀ xs : List α, ((FV.pys (xs.map e)).any fun z => PyData.eqv z (e a).py) = decide (a ∈ xs)
  | [] => by simp [FV.pys]
  | x :: xs => by
    rw [List.map_cons, FV.pys, List.any_cons, E.any a xs, E.eq]
    by_cases h : x = a
    · subst h; simp
    · have : ¬ a = x := fun z => h z.symm
      simp [h, this]
theorem Enc.mx (E : Enc e A) {neg : Bool} {a : α} {xs : List α} {y : RV} {b : Bool} (ha : A a) (nr : ∀ z, e a ≠ .ref z) (hy : ∀ h, y.seq h = some (b, xs.map e)) : oC (gMx neg) (.v (e a)) y = pur (if neg = true then !memD a xs else memD a xs) := by
  unfold memD
  refine lift_ok fun h => ?_
  have dt : (RV.v (e a)).dat h = some (e a).py := by
    have p := E.pu a
    unfold RV.dat
    cases q : e a <;> rw [q] at p
    case ref z => exact absurd q (nr z)
    all_goals simp [p]
  have d := E.dp a ha
  have : gIn neg (.v (e a)) y h = some (if neg = true then !decide (a ∈ xs) else decide (a ∈ xs)) := by
    unfold gIn
    rw [hy h, dt]
    dsimp only
    rw [if_pos ⟨E.pus xs, by omega⟩, E.any a xs]
  show gMx neg _ _ h = _
  unfold gMx
  rw [this]
end
/-- the same data on both sides -/
theorem q_data {neg : Bool} {x y : RV} {d : PyData} (hx : ∀ h, x.dv h = some (.p d)) (hy : ∀ h, y.dv h = some (.p d)) (hd : d.depth ≤ 64) (hp : d.plain = true) : oC (gQ neg) x y = pur (!neg) := by
  refine lift_ok fun h => ?_
  show gQ neg x y h = _
  unfold gQ
  rw [hx h, hy h]
  dsimp only
  rw [eqX, if_pos (by omega)]
  show (some (PyData.eqv d d)).map _ = _
  rw [PySem.SeqAt.eqv_refl_plain d hp]
  cases neg <;> rfl
end P
/-! R8: a drawing run that changes the heap; texts by their signs; how many may be alike. -/
namespace P
open PySem PySem.Spec PyProof.Rows L2 G
/-! ### no more in a list without repeats than in one that has them all -/
/-! ### objects behind -/
/-! ### drawing with objects that change -/
def Dm {α : Type} (m : M α) (r : FH) (Q : α → FH → Prop) (c : Nat) : Prop := ∀ s : DS, s.at' + c ≤ 2 ^ 60 → ∃ (a : α) (s' : DS) (r' : FH), m (s.ob :: r) = .ok a (s'.ob :: r') ∧ s'.at' ≤ s.at' + c ∧ Q a r'
section
variable {α β γ : Type} {m : M α} {k : α → M β} {r r' : FH} {Z : α → FH → Prop} {Q : α → FH → Prop} {R : β → FH → Prop} {c d e : Nat}
theorem Dm.pur {a : α} (h : Q a r) : Dm (P.pur a) r Q 0 := fun s _ => ⟨a, s, r, rfl, Nat.le_refl _, h⟩
theorem Dm.of {a : α} (e : m = P.pur a) (h : Q a r) : Dm m r Q 0 := e ▸ Dm.pur h
theorem Dm.ok {a : α} (e : ∀ s : DS, m (s.ob :: r) = .ok a (s.ob :: r')) (h : Q a r') : Dm m r Q 0 := fun s _ => ⟨a, s, r', e s, Nat.le_refl _, h⟩
theorem Dm.mono (h : Dm m r Z c) (l : c ≤ d) (k : ∀ a r', Z a r' → Q a r') : Dm m r Q d := fun s hs => by
  obtain ⟨a, s', r', e, h1, h2⟩ := h s (by omega)
  exact ⟨a, s', r', e, by omega, k a r' h2⟩
theorem Dm.up (h : Dm m r Q c) (l : c ≤ d) : Dm m r Q d := h.mono l fun _ _ q => q
theorem Dm.bnd (h : Dm m r Z c) (k' : ∀ a r', Z a r' → Dm (k a) r' R d) (l : c + d ≤ e) : Dm (P.bnd m k) r R e := fun s hs => by
  obtain ⟨a, s1, r1, e1, h1, h2⟩ := h s (by omega)
  obtain ⟨b, s2, r2, e2, h3, h4⟩ := k' a r1 h2 s1 (by omega)
  exact ⟨b, s2, r2, by rw [bnd_ok e1]; exact e2, by omega, h4⟩
theorem Dm.dr {Q' : α → Prop} (h : Dr m Q' c) (hr : Dt r) : Dm m r (fun a r' => r' = r ∧ Q' a) c := fun s hs => by
  obtain ⟨a, s', e, h1, h2⟩ := h s r hr hs
  exact ⟨a, s', r, e, h1, rfl, h2⟩
end
theorem Dm.mV {m : M RV} {r : FH} {Q : RV → FH → Prop} {Z : FV → FH → Prop} {c : Nat} (h : Dm m r Q c) (k : ∀ a r', Q a r' → ∃ d, a.frz = some d ∧ Z d r') : Dm (P.mV m) r Z c := fun s hs => by
  obtain ⟨a, s', r', e, h1, h2⟩ := h s hs
  obtain ⟨d, e2, h3⟩ := k a r' h2
  refine ⟨d, s', r', ?_, h1, h3⟩
  show vF (m _) = _
  rw [e]; unfold vF; dsimp only; rw [e2]
theorem Dm.ret {m : M RV} {r : FH} {Q : RV → FH → Prop} {Z : Fl Unit Empty → FH → Prop} {c : Nat} (h : Dm m r Q c) (k : ∀ a r', Q a r' → Z (.rt a) r') : Dm (P.ret m) r Z c := Dm.bnd h (d := 0) (fun a r' q => Dm.pur (k a r' q)) (Nat.le_refl _)
theorem Dm.seq {α γ : Type} {m : M (Fl α Empty)} {k : α → M (Fl γ Empty)} {r : FH} {Z : α → FH → Prop} {R : Fl γ Empty → FH → Prop} {c d e : Nat} (h : Dm m r (fun f r' => ∃ a, f = .nx a ∧ Z a r') c) (k' : ∀ a r', Z a r' → Dm (k a) r' R d) (l : c + d ≤ e) : Dm (seqN m k) r R e :=
  Dm.bnd h (fun f r' ⟨a, e, z⟩ => by subst e; exact k' a r' z) l
/-- the result of a def's body -/
def RtM (Q : RV → FH → Prop) : Fl Unit Empty → FH → Prop
  | .rt r, h => Q r h
  | .nx _, h => Q (.v .non) h
  | .bk b, _ => nomatch b
  | .ct b, _ => nomatch b
theorem Dm.toF {m : M (Fl Unit Empty)} {r : FH} {Q : RV → FH → Prop} {c : Nat} (h : Dm m r (RtM Q) c) : Dm (P.toF m) r Q c := by
  refine Dm.bnd h (d := 0) (fun a r' q => ?_) (Nat.le_refl _)
  cases a with
  | nx u => exact Dm.pur q
  | rt r => exact Dm.pur q
  | bk b => cases b
  | ct b => cases b
/-- behind the def only its result is left -/
theorem Dm.fn {m : M (Fl Unit Empty)} {Q : RV → Prop} {c : Nat} (h : ∀ r, Dt r → Dm m r (RtM fun a r' => (∃ x, r' = r ++ x) ∧ (∀ n, a.cut (n + 1) [] = some a) ∧ (∀ i, a ≠ .v (.ref i)) ∧ Q a) c) : Dr (gcM (P.toF m)) Q c := fun s r dr hs => by
  obtain ⟨a, s', r', e, h1, ⟨x, ex⟩, h2, h3, h4⟩ := (h r dr).toF s hs
  subst ex
  refine ⟨a, s', ?_, h1, h4⟩
  cases x with
  | nil => rw [List.append_nil] at e; exact gcM_same e (Nat.le_refl _)
  | cons o x =>
    have hc : a.cut (s.ob :: r).length (s'.ob :: (r ++ o :: x)) = some a := by
      have h2' := h2 r.length
      rw [List.length_cons]
      cases a with
      | v d => cases d with
        | ref i => exact absurd rfl (h3 i)
        | _ => exact h2'
      | _ => exact h2'
    have tk : (s'.ob :: (r ++ o :: x)).take (s.ob :: r).length = s'.ob :: r := by
      rw [List.length_cons, List.take_succ_cons, take_app]
    have := gcM_cut (h := s.ob :: r) (r' := a) e (by simp) (by rw [tk]; exact (Dt.low (s := s') dr)) hc
    rw [tk] at this; exact this
end P
/-! R9: names. -/
namespace P
open PySem PySem.Spec PyProof.Rows L2 G
abbrev txF (x : Str) : FV := .str x
theorem encS : Enc txF (fun _ : Str => True) where
  pu a := rfl
  dp a _ := by simp [FV.py, PyData.depth]
  eq a b := str_eqv a b
/-- a text's signs -/
abbrev sgs (x : Str) : List Nat := x.cps.toList
theorem sgs_len (x : Str) : (sgs x).length = x.length := Array.length_toList
/-! ### letters and digits -/
def isSg (c : Nat) : Bool := (decide (97 ≤ c) && decide (c ≤ 122)) || (decide (65 ≤ c) && decide (c ≤ 90)) || (decide (48 ≤ c) && decide (c ≤ 57))
theorem sg_le {c : Nat} (h : isSg c = true) : c < 123 := by
  unfold isSg at h
  simp only [Bool.or_eq_true, Bool.and_eq_true, decide_eq_true_eq] at h
  omega
theorem sg_aln : ∀ c, c < 123 → isSg c = true → Unicode.isAlnum c = true := by decide +kernel
structure Nm (cap : Bool) (x : Str) : Prop where
  lo : 1 ≤ x.length
  hi : x.length ≤ 12
  sg : ∀ c, c ∈ sgs x → isSg c = true
  hd : ∃ c l, sgs x = c :: l ∧ if cap = true then 65 ≤ c ∧ c ≤ 90 else 97 ≤ c ∧ c ≤ 122
section
variable {cap : Bool} {x : Str}
theorem Nm.asc (h : Nm cap x) : Txt.isascii x = true := by
  unfold Txt.isascii
  rw [Array.all_eq_true']
  intro c hc
  have := sg_le (h.sg c (Array.mem_toList_iff.mpr hc))
  exact decide_eq_true (by omega)
theorem Nm.aln (h : Nm cap x) : Txt.isalnum x = true := by
  unfold Txt.isalnum
  rw [Bool.and_eq_true]
  refine ⟨decide_eq_true h.lo, ?_⟩
  rw [Array.all_eq_true']
  intro c hc
  have := h.sg c (Array.mem_toList_iff.mpr hc)
  exact sg_aln c (sg_le this) this
theorem Nm.no (h : Nm false x) (h' : Nm true x) : False := by
  obtain ⟨c, l, e, hc⟩ := h.hd
  obtain ⟨c', l', e', hc'⟩ := h'.hd
  rw [e] at e'
  cases e'
  rw [if_neg Bool.false_ne_true] at hc
  rw [if_pos rfl] at hc'
  omega
end
/-! ### str(k) of small numbers -/
/-! ### x in a told list of texts -/
/-! ### the signs that are drawn from -/
end P
/-! R10: told and frozen instances, told dicts, signatures. -/
namespace P
open PySem PySem.Spec PyProof.Rows L2 G
/-! ### fields -/
/-! ### dicts from names to values -/
section
variable {α : Type} {e : α → FV} {σ : List (Str × α)} {h : FH} {r : Nat} {x : Str}
theorem lookA_none {x : Str} {σ : List (Str × α)} : lookA σ x = none ↔ x ∉ σ.map (·.1) := by
  constructor
  · intro h z
    obtain ⟨p, hp, e⟩ := List.mem_map.mp z
    have : (σ.any fun p => decide (p.1 = x)) = true := List.any_eq_true.mpr ⟨p, hp, decide_eq_true e⟩
    rw [look_any, h] at this; cases this
  · intro h
    cases q : lookA σ x with
    | none => rfl
    | some t =>
      have : (σ.any fun p => decide (p.1 = x)) = true := by rw [look_any, q]; rfl
      obtain ⟨p, hp, e⟩ := List.any_eq_true.mp this
      exact absurd (List.mem_map.mpr ⟨p, hp, of_decide_eq_true e⟩) h
end
/-! ### signatures -/
def iN (k : Nat) : FV := .int k
/-- well made -/
structure SgOk (F R : List (Str × Nat)) : Prop where
  fn : ∀ p, p ∈ F → Nm false p.1
  rn : ∀ p, p ∈ R → Nm true p.1
  fr : ∀ p, p ∈ F → p.1 ∉ (["all", "some", "not", "and", "or", "implies", "iff", "true", "false"] : List Str)
  ar : ∀ p, p ∈ F ++ R → p.2 ≤ 3
  nd : ((F ++ R).map (·.1)).Nodup
  ln : (F ++ R).length ≤ 1000
/-! freezing deeply -/
/-! told lists -/
/-- the heap with the drawing state and one told list behind the rest -/
def hT (s : DS) (r : FH) (ds : List FV) : FH := s.ob :: (r ++ [.lst ds])
def resS : List Str := ["all", "some", "not", "and", "or", "implies", "iff", "true", "false"]
/-! ### tables -/
inductive Tb
  | f (ks : List Nat) | r (bs : List Bool)
def tbF : Tb → List FV
  | .f ks => ks.map iN
  | .r bs => bs.map .bl
def TOk : Bool → Nat → Nat → Tb → Prop
  | false, s, l, .f ks => ks.length = l ∧ ∀ k, k ∈ ks → k < s
  | true, _, l, .r bs => bs.length = l
  | _, _, _, _ => False
theorem TOk.len {cap : Bool} {s l : Nat} {t : Tb} (h : TOk cap s l t) : (tbF t).length = l := by
  cases cap <;> cases t
  · exact (List.length_map _).trans h.1
  · exact h.elim
  · exact h.elim
  · exact (List.length_map _).trans h
/-- tables for names in order -/
def TbsOk (s : Nat) : List (Str × Nat) → List (Str × Tb) → Prop
  | [], [] => True
  | p :: P, q :: σ => (q.1 = p.1 ∧ ∃ cap, Nm cap p.1 ∧ TOk cap s (s ^ p.2) q.2) ∧ TbsOk s P σ
  | _, _ => False
theorem TbsOk.names {s : Nat} : ∀ {P : List (Str × Nat)} {σ : List (Str × Tb)}, TbsOk s P σ → σ.map (·.1) = P.map (·.1)
  | [], [], _ => rfl
  | p :: P, q :: σ, h => by rw [List.map_cons, List.map_cons, h.1.1, h.2.names]
  | [], _ :: _, h => h.elim
  | _ :: _, [], h => h.elim
theorem TbsOk.len {s : Nat} {P : List (Str × Nat)} {σ : List (Str × Tb)} (h : TbsOk s P σ) : σ.length = P.length := by
  have := congrArg List.length h.names
  simpa using this
theorem TbsOk.get {s : Nat} : ∀ {P : List (Str × Nat)} {σ : List (Str × Tb)} {k : Nat} {p : Str × Nat}, TbsOk s P σ → P[k]? = some p → ∃ q, σ[k]? = some q ∧ q.1 = p.1 ∧ ∃ cap, Nm cap p.1 ∧ TOk cap s (s ^ p.2) q.2
  | p' :: P, q :: σ, 0, p, h, e => by cases e; exact ⟨q, rfl, h.1⟩
  | _ :: P, _ :: σ, k + 1, p, h, e => h.2.get (k := k) (by simpa using e)
  | [], [], _, _, _, e => by simp at e
  | [], _ :: _, _, _, h, _ => h.elim
  | _ :: _, [], _, _, h, _ => h.elim
theorem TbsOk.map {s : Nat} {x : Str} {t : Tb} : ∀ {P : List (Str × Nat)} {σ : List (Str × Tb)}, TbsOk s P σ → (∀ p, p ∈ P → p.1 = x → ∃ cap, Nm cap p.1 ∧ TOk cap s (s ^ p.2) t) → TbsOk s P (σ.map fun q => if q.1 = x then (q.1, t) else q)
  | [], [], _, _ => trivial
  | p :: P, q :: σ, h, ht => by
    refine ⟨?_, h.2.map fun p' hp => ht p' (List.mem_cons_of_mem _ hp)⟩
    dsimp only
    by_cases e : q.1 = x
    · rw [if_pos e]
      exact ⟨h.1.1, ht p List.mem_cons_self (by rw [← h.1.1, e])⟩
    · rw [if_neg e]; exact h.1
  | [], _ :: _, h, _ => h.elim
  | _ :: _, [], h, _ => h.elim
/-- a table put for a name that has one -/
theorem TbsOk.put {s : Nat} {x : Str} {t : Tb} {P : List (Str × Nat)} {σ : List (Str × Tb)} (h : TbsOk s P σ) (hx : x ∈ P.map (·.1)) (ht : ∀ p, p ∈ P → p.1 = x → ∃ cap, Nm cap p.1 ∧ TOk cap s (s ^ p.2) t) : TbsOk s P (putA σ x t) := by
  unfold putA
  rw [if_pos]
  · exact h.map ht
  · rw [← h.names] at hx
    obtain ⟨q, hq, e⟩ := List.mem_map.mp hx
    exact List.any_eq_true.mpr ⟨q, hq, decide_eq_true e⟩
end P
/-! R11: texts: blanks, padding, joined lines, greatest lengths. -/
namespace P
open PySem PySem.Spec PyProof.Rows L2 G
def spN (n : Nat) : Str := ⟨Array.replicate n 32⟩
@[simp] theorem sgs_spN (n : Nat) : sgs (spN n) = List.replicate n 32 := Array.toList_replicate
/-! ### joined lines -/
/-! ### greatest lengths -/
/-! ### the words of a table -/
end P
/-! R12: more of drawing runs. -/
namespace P
open PySem PySem.Spec PyProof.Rows L2 G
@[simp] theorem oTru_bl (b : Bool) : oTru (.v (.bl b)) = pur b := lift_ok fun _ => rfl
@[simp] theorem oTru_f (ds : List FV) : oTru (.v (.fl ds)) = pur (!ds.isEmpty) := lift_ok fun _ => rfl
@[simp] theorem oTru_l (ds : List FV) : oTru (.l ds) = pur (!ds.isEmpty) := lift_ok fun _ => rfl
@[simp] theorem oTru_t (ds : List FV) : oTru (.v (.tup ds)) = pur (!ds.isEmpty) := lift_ok fun _ => rfl
@[simp] theorem oTru_i (i : Int) : oTru (.v (.int i)) = pur (i != 0) := lift_ok fun _ => rfl
@[simp] theorem oTru_n : oTru (.v .non) = pur false := lift_ok fun _ => rfl
theorem Dr.no {α : Type} {m n : M α} {Q : α → Prop} {c : Nat} (h : Dr n Q c) : Dr (if false = true then m else n) Q c := by
  rw [if_neg Bool.false_ne_true]; exact h
end P
/-! R13: texts cut, split at ends of lines, places; what a scanner of words gives. -/
namespace P
open PySem PySem.Spec PyProof.Rows L2 G
def mk (l : List Nat) : Str := ⟨l.toArray⟩
@[simp] theorem sgs_mk (l : List Nat) : sgs (mk l) = l := rfl
theorem mk_sgs (x : Str) : mk (sgs x) = x := str_ext rfl
theorem mk_len (l : List Nat) : (mk l).length = l.length := by rw [← sgs_len]; rfl
theorem mk_inj {a b : List Nat} (h : mk a = mk b) : a = b := by
  have := congrArg sgs h
  rwa [sgs_mk, sgs_mk] at this
/-! ### cuts -/
/-! ### small numbers have texts -/
/-! ### places -/
def adv (p : Nat × Nat) (cs : List Nat) : Nat × Nat := cs.foldl (fun p c => if c = 10 then (p.1 + 1, 1) else (p.1, p.2 + 1)) p
theorem adv_app (p : Nat × Nat) (a b : List Nat) : adv p (a ++ b) = adv (adv p a) b := List.foldl_append
theorem adv_word : ∀ (w : List Nat) (p : Nat × Nat), (∀ c, c ∈ w → c ≠ 10) → adv p w = (p.1, p.2 + w.length)
  | [], p, _ => rfl
  | c :: w, p, h => by
    show adv (if c = 10 then (p.1 + 1, 1) else (p.1, p.2 + 1)) w = _
    rw [if_neg (h c List.mem_cons_self), adv_word w _ fun d hd => h d (List.mem_cons_of_mem _ hd), List.length_cons]
    show (p.1, p.2 + 1 + w.length) = _
    rw [show p.2 + 1 + w.length = p.2 + (w.length + 1) by omega]
/-! ### lines -/
end P
/-! R14: places by count and rfind; the words of a text. -/
namespace P
open PySem PySem.Spec PyProof.Rows L2 G
/-! ### words -/
abbrev W3 := Str × Nat × Nat
def isMk (c : Nat) : Bool := decide (c = 40) || decide (c = 41) || decide (c = 44) || decide (c = 46) || decide (c = 61)
def wl : List Nat → Nat
  | [] => 0
  | c :: cs => if isMk c = true then 1 else if c = 33 ∧ cs.head? = some 61 then 2 else ((c :: cs).takeWhile isSg).length
theorem wl_cons (c : Nat) (cs : List Nat) : wl (c :: cs) = if isMk c = true then 1 else if c = 33 ∧ cs.head? = some 61 then 2 else ((c :: cs).takeWhile isSg).length := rfl
theorem wl_le (cs : List Nat) : wl cs ≤ cs.length := by
  cases cs with
  | nil => exact Nat.le_refl _
  | cons c cs =>
    rw [wl_cons]
    split
    · rw [List.length_cons]; omega
    · split
      · rename_i h
        cases cs with
        | nil => cases h.2
        | cons d cs => rw [List.length_cons, List.length_cons]; omega
      · exact (List.takeWhile_sublist _).length_le
/-- the words of a line from a column on, with the end or the sign that is no word's -/
def lw (n col : Nat) (cs : List Nat) : List W3 := match cs with
  | [] => [(mk [], n, col)]
  | c :: r => if _h : 0 < wl (c :: r) then (mk ((c :: r).take (wl (c :: r))), n, col) :: lw n (col + wl (c :: r)) ((c :: r).drop (wl (c :: r)))
    else if c = 32 then lw n (col + 1) r else [(mk [c], n, col)]
termination_by cs.length
decreasing_by
  · rw [List.length_drop]; have := wl_le (c :: r); rw [List.length_cons] at this ⊢; omega
  · rw [List.length_cons]; omega
/-- .. of a whole text -/
def sc (n col : Nat) (cs : List Nat) : List W3 := match cs with
  | [] => [(mk [], n, col)]
  | c :: r => if _h : 0 < wl (c :: r) then (mk ((c :: r).take (wl (c :: r))), n, col) :: sc n (col + wl (c :: r)) ((c :: r).drop (wl (c :: r)))
    else if c = 10 then sc (n + 1) 1 r
    else if c = 32 then sc n (col + 1) r else [(mk [c], n, col)]
termination_by cs.length
decreasing_by
  · rw [List.length_drop]; have := wl_le (c :: r); rw [List.length_cons] at this ⊢; omega
  · rw [List.length_cons]; omega
  · rw [List.length_cons]; omega
/-- the words of lines: a line's end falls away when another follows -/
def aw (n : Nat) : List (List Nat) → List W3
  | [] => []
  | l :: ls => let r := lw n 1 l
    if ls = [] ∨ (r.getLast?.map (·.1)) ≠ some (mk []) then r else r.dropLast ++ aw (n + 1) ls
end P
/-! R15: texts put together of words; texts spoilt by a sign; the scanner's loops. -/
namespace P
open PySem PySem.Spec PyProof.Rows L2 G
theorem sg_mk {c : Nat} (h : isSg c = true) : isMk c = false := by
  have := sg_le h
  revert c
  have : ∀ c, c < 123 → isSg c = true → isMk c = false := by decide +kernel
  intro c h l; exact this c l h
theorem sg_no {c : Nat} (h : isSg c = true) : c ≠ 33 ∧ c ≠ 10 ∧ c ≠ 32 ∧ c ≠ 61 := by
  refine ⟨?_, ?_, ?_, ?_⟩ <;> (rintro rfl; exact absurd h (by decide))
theorem mk_no {c : Nat} (h : isMk c = true) : c ≠ 33 ∧ c ≠ 10 ∧ c ≠ 32 ∧ isSg c = false := by
  refine ⟨?_, ?_, ?_, ?_⟩
  · rintro rfl; exact absurd h (by decide)
  · rintro rfl; exact absurd h (by decide)
  · rintro rfl; exact absurd h (by decide)
  · cases e : isSg c
    · rfl
    · rw [sg_mk e] at h; cases h
theorem tw_all {p : Nat → Bool} : ∀ (w r : List Nat), (∀ c, c ∈ w → p c = true) → (∀ c, r.head? = some c → p c = false) → (w ++ r).takeWhile p = w
  | [], r, _, h => by
    cases r with
    | nil => rfl
    | cons c r => rw [List.nil_append, List.takeWhile_cons_of_neg (by rw [h c rfl]; exact Bool.false_ne_true)]
  | c :: w, r, h, h2 => by
    rw [List.cons_append, List.takeWhile_cons_of_pos (h c List.mem_cons_self), tw_all w r (fun d hd => h d (List.mem_cons_of_mem _ hd)) h2]
theorem sc_name {w r : List Nat} (n col : Nat) (hw : w ≠ []) (h : ∀ c, c ∈ w → isSg c = true) (h2 : ∀ c, r.head? = some c → isSg c = false) : sc n col (w ++ r) = (mk w, n, col) :: sc n (col + w.length) r := by
  cases w with
  | nil => exact absurd rfl hw
  | cons c w =>
    have hc := h c List.mem_cons_self
    have e : wl (c :: (w ++ r)) = (c :: w).length := by
      rw [wl_cons, if_neg (by rw [sg_mk hc]; exact Bool.false_ne_true), if_neg (fun z => (sg_no hc).1 z.1), ← List.cons_append, tw_all (c :: w) r h h2]
    rw [List.cons_append, sc, dif_pos (by rw [e, List.length_cons]; omega), e, ← List.cons_append, List.take_left, List.drop_left]
theorem sc_mark {c : Nat} {r : List Nat} (n col : Nat) (h : isMk c = true) : sc n col (c :: r) = (mk [c], n, col) :: sc n (col + 1) r := by
  have e : wl (c :: r) = 1 := by rw [wl_cons, if_pos h]
  rw [sc, dif_pos (by omega), e]; rfl
theorem sc_unlike (r : List Nat) (n col : Nat) : sc n col (33 :: 61 :: r) = (mk [33, 61], n, col) :: sc n (col + 2) r := by
  have e : wl (33 :: 61 :: r) = 2 := by rw [wl_cons, if_neg (by decide), if_pos ⟨rfl, rfl⟩]
  rw [sc, dif_pos (by omega), e]; rfl
theorem wl_0 {c : Nat} {r : List Nat} (h1 : isMk c = false) (h2 : c = 33 → r.head? ≠ some 61) (h3 : isSg c = false) : wl (c :: r) = 0 := by
  rw [wl_cons, if_neg (by rw [h1]; exact Bool.false_ne_true), if_neg (fun z => h2 z.1 z.2), List.takeWhile_cons_of_neg (by rw [h3]; exact Bool.false_ne_true)]; rfl
theorem sc_nl (r : List Nat) (n col : Nat) : sc n col (10 :: r) = sc (n + 1) 1 r := by
  rw [sc, dif_neg (by rw [wl_0 rfl (fun z => by cases z) rfl]; exact Nat.lt_irrefl 0), if_pos rfl]
theorem sc_sp (r : List Nat) (n col : Nat) : sc n col (32 :: r) = sc n (col + 1) r := by
  rw [sc, dif_neg (by rw [wl_0 rfl (fun z => by cases z) rfl]; exact Nat.lt_irrefl 0), if_neg (by decide), if_pos rfl]
theorem sc_nil (n col : Nat) : sc n col [] = [(mk [], n, col)] := by rw [sc]
def Gp (g : List Nat) : Prop := ∀ c, c ∈ g → c = 32 ∨ c = 10
theorem sc_gap : ∀ (g r : List Nat) (p : Nat × Nat), Gp g → sc p.1 p.2 (g ++ r) = sc (adv p g).1 (adv p g).2 r
  | [], r, p, _ => rfl
  | c :: g, r, p, h => by
    have ih := fun q => sc_gap g r q fun d hd => h d (List.mem_cons_of_mem _ hd)
    rcases h c List.mem_cons_self with rfl | rfl
    · rw [List.cons_append, sc_sp]; exact ih (p.1, p.2 + 1)
    · rw [List.cons_append, sc_nl]; exact ih (p.1 + 1, 1)
/-- a word -/
def nmB (w : List Nat) : Bool := match w with
  | [] => false
  | c :: _ => isSg c
def Wk (w : List Nat) : Prop := (w ≠ [] ∧ ∀ c, c ∈ w → isSg c = true) ∨ (∃ c, w = [c] ∧ isMk c = true) ∨ w = [33, 61]
theorem Wk.no {w : List Nat} (h : Wk w) : ∀ c, c ∈ w → c ≠ 10 := by
  intro c hc
  rcases h with ⟨_, h⟩ | ⟨d, rfl, h⟩ | rfl
  · exact (sg_no (h c hc)).2.1
  · rw [List.mem_singleton] at hc; subst hc; exact (mk_no h).2.1
  · rintro rfl; exact absurd hc (by decide)
theorem Wk.adv {w : List Nat} (h : Wk w) (p : Nat × Nat) : adv p w = (p.1, p.2 + w.length) := adv_word w p h.no
theorem sc_word {w r : List Nat} (p : Nat × Nat) (h : Wk w) (h2 : nmB w = true → ∀ c, r.head? = some c → isSg c = false) : sc p.1 p.2 (w ++ r) = (mk w, p.1, p.2) :: sc (adv p w).1 (adv p w).2 r := by
  rw [h.adv]
  rcases h with ⟨h1, h⟩ | ⟨c, rfl, h⟩ | rfl
  · refine sc_name _ _ h1 h (h2 ?_)
    cases w with
    | nil => exact absurd rfl h1
    | cons c w => exact h c List.mem_cons_self
  · exact sc_mark _ _ h
  · exact sc_unlike _ _ _
/-- gaps and words -/
abbrev GW := List Nat × List Nat
def jt : List GW → List Nat → List Nat
  | [], g => g
  | (g, w) :: ps, e => g ++ (w ++ jt ps e)
def Gd2 : Bool → List GW → Prop
  | _, [] => True
  | b, (g, w) :: ps => Gp g ∧ Wk w ∧ (b = true → nmB w = true → g ≠ []) ∧ Gd2 (nmB w) ps
def lastB : Bool → List GW → Bool
  | b, [] => b
  | _, (_, w) :: ps => lastB (nmB w) ps
def wsP (p : Nat × Nat) : List GW → List W3
  | [] => []
  | (g, w) :: ps => (mk w, (adv p g).1, (adv p g).2) :: wsP (adv (adv p g) w) ps
theorem head_jt {ps : List GW} {e : List Nat} (h : Gd2 true ps) (he : Gp e) : ∀ c, (jt ps e).head? = some c → isSg c = false := by
  have gap : ∀ (g : List Nat), Gp g → ∀ c, g.head? = some c → isSg c = false := fun g hg c hc => by
    cases g with
    | nil => cases hc
    | cons d g =>
      cases hc
      rcases hg _ List.mem_cons_self with rfl | rfl <;> rfl
  cases ps with
  | nil => exact gap e he
  | cons q ps =>
    obtain ⟨g, w⟩ := q
    obtain ⟨h1, h2, h3, h4⟩ := h
    intro c hc
    cases g with
    | cons d g => exact gap (d :: g) h1 c (by simpa [jt] using hc)
    | nil =>
      cases e2 : nmB w with
      | true => exact absurd rfl (h3 rfl e2)
      | false =>
        have hc2 : (w ++ jt ps e).head? = some c := hc
        rcases h2 with ⟨n1, n2⟩ | ⟨d, rfl, hd⟩ | rfl
        · cases w with
          | nil => exact absurd rfl n1
          | cons d w =>
            have := n2 d List.mem_cons_self
            rw [show nmB (d :: w) = isSg d from rfl] at e2
            rw [e2] at this; cases this
        · cases hc2; exact (mk_no hd).2.2.2
        · cases hc2; rfl
theorem sc_jt : ∀ (ps : List GW) (b : Bool) (e : List Nat) (p : Nat × Nat), Gd2 b ps → Gp e → sc p.1 p.2 (jt ps e) = wsP p ps ++ [(mk [], (adv p (jt ps e)).1, (adv p (jt ps e)).2)]
  | [], b, e, p, _, he => by
    have := sc_gap e [] p he
    rw [List.append_nil] at this
    show sc p.1 p.2 e = [] ++ [(mk [], (adv p e).1, (adv p e).2)]
    rw [this, sc_nil]; rfl
  | (g, w) :: ps, b, e, p, h, he => by
    obtain ⟨h1, h2, h3, h4⟩ := h
    rw [jt, sc_gap _ _ _ h1, sc_word _ h2 (fun q => by rw [q] at h4; exact head_jt h4 he), sc_jt ps _ e _ h4 he, wsP, adv_app, adv_app]; rfl
/-! ### spoilt texts -/
/-! ### the program's loops -/
section
variable {β : Type} {line : Str}
def encW (w : W3) : FV := .tup [.str w.1, .int w.2.1, .int w.2.2]
end
theorem pop_o {ds : List FV} {d : FV} : oPopO (ds ++ [d]) = pur (d, ds) := by
  unfold oPopO
  rw [List.getLast?_append, List.dropLast_append_of_ne_nil (by simp)]
  show pur (d, ds ++ []) = _
  rw [List.append_nil]
end P
/-! R16: walks over told lists; errors caught. -/
namespace P
open PySem PySem.Spec PyProof.Rows L2 G
theorem forN_all {A β : Type} {F : A → FV → M (Fl A A)} {a : A} : ∀ r : List FV, (∀ d, d ∈ r → F a d = pur (.nx a)) → (forN F r a : M (Fl A β)) = pur (.nx a)
  | [], _ => rfl
  | d :: r, k => by
    rw [forN_cons, k d List.mem_cons_self, bnd_pur]
    exact forN_all r fun d hd => k d (List.mem_cons_of_mem _ hd)
theorem dvl_l {h : FH} {ds : List FV} (p : FV.pures ds = true) : (RV.l ds).dv h = some (.p (.list (FV.pys ds))) := if_pos p
theorem dvl_bl {h : FH} {ds : List FV} (p : FV.pures ds = true) : (RV.bl ds).dv h = some (.p (.list (FV.pys ds))) := if_pos p
theorem dvl_v {h : FH} {x : FV} (p : x.pure = true) : (RV.v x).dv h = some (.p x.py) := by
  show FV.dv h 3 x = _
  unfold FV.dv
  rw [if_pos p]
theorem Dr.seqL {α β γ : Type} {m : M (Fl α β)} {k : α → M (Fl γ β)} {Z : α → Prop} {R : Fl γ β → Prop} {c d e : Nat} (h : Dr m (fun f => ∃ a, f = .nx a ∧ Z a) c) (k' : ∀ a, Z a → Dr (k a) R d) (l : c + d ≤ e) : Dr (seqN m k) R e :=
  Dr.bnd h (fun f ⟨a, e, z⟩ => by subst e; exact k' a z) l
theorem Dr.eqsL {α β γ : Type} {m : M (Fl α β)} {a : α} {k : α → M (Fl γ β)} {Q : Fl γ β → Prop} {c : Nat} (e : m = P.pur (.nx a)) (h : Dr (k a) Q c) : Dr (seqN m k) Q c := by
  rw [e, seqN_nx]; exact h
end P
/-! R17: what a reader of words gives (a function on the words left), and runs that are as it says. -/
namespace P
open PySem PySem.Spec PyProof.Rows L2 G
/-- read, the words left; refused at the first of the words left; nothing said -/
inductive Res (α : Type) where
  | ok (a : α) (r : List W3)
  | bad (r : List W3)
  | no
def Res.bind {α β : Type} (x : Res α) (k : α → List W3 → Res β) : Res β := match x with
  | .ok a r => k a r
  | .bad r => .bad r
  | .no => .no
def Res.map {α β : Type} (f : α → β) (x : Res α) : Res β := x.bind fun a r => .ok (f a) r
def tk (acc : Bool) : List W3 → Res Str
  | [] => .no
  | w :: r => if acc = true then .ok w.1 r else .bad (w :: r)
def withW {α : Type} (ws : List W3) (k : Str → Res α) : Res α := match ws with
  | [] => .no
  | w :: _ => k w.1
def mkk (m : Str) (ws : List W3) : Res Str := withW ws fun x => tk (decide (x = m)) ws
def many (tm : List W3 → Res FV) : List Str → List W3 → Res (List FV)
  | [], ws => .ok [] ws
  | m :: ms, ws => (mkk m ws).bind fun _ r => (tm r).bind fun x r2 => (many tm ms r2).map (x :: ·)
def pairsL : List Str := ["and", "or", "implies", "iff"]
def row (sm : List W3 → Res FV) : Nat → List W3 → Res (List (Str × FV))
  | 0, _ => .no
  | g + 1, ws => withW ws fun x => if x ∈ pairsL then (tk true ws).bind fun l r => (sm r).bind fun p r2 => (row sm g r2).map ((l, p) :: ·) else .ok [] ws
/-! grouping -/
def jl (w : Str) : FV → List (Str × FV) → FV × List (Str × FV)
  | p, [] => (p, [])
  | p, (o, q) :: ls => if o = w then jl w (.tup [.str w, p, q]) ls else (p, (o, (jl w q ls).1) :: (jl w q ls).2)
def jr (w : Str) : FV → List (Str × FV) → FV × List (Str × FV)
  | p, [] => (p, [])
  | p, (o, q) :: ls => if o = w then (.tup [.str w, p, (jr w q ls).1], (jr w q ls).2) else (p, (o, (jr w q ls).1) :: (jr w q ls).2)
def stepG (w : Str) (y : FV × List (Str × FV)) : FV × List (Str × FV) := if w = "implies" then jr w y.1 y.2 else jl w y.1 y.2
def grp (p : FV) (ls : List (Str × FV)) : FV := (pairsL.foldl (fun y w => stepG w y) (p, ls)).1
/-! the reader -/
def smallB (x : Str) : Bool := decide (x.length ≤ 12) && (Txt.isascii x && (Txt.isalnum x && ((match sgs x with | c :: _ => decide (97 ≤ c) && decide (c ≤ 122) | [] => false) && !decide (x ∈ resS))))
structure Rd where
  term : List Str → List W3 → Res FV
  args : Str → List Str → List W3 → Res (List FV)
  sent : List Str → List W3 → Res FV
  simp : List Str → List W3 → Res FV
  bound : List Str → List W3 → Res FV
  eqn : List Str → List W3 → Res FV
section
variable (F R : List (Str × Nat))
def arOf (x : Str) : Option Nat := match lookA F x with
  | some k => some k
  | none => lookA R x
def termB (q : Rd) (kn : List Str) (ws : List W3) : Res FV := withW ws fun x => if x ∈ kn then (tk true ws).map .str else (tk (lookA F x).isSome ws).bind fun nm r => (q.args nm kn r).map fun xs => .tup (.str nm :: xs)
def argsB (q : Rd) (nm : Str) (kn : List Str) (ws : List W3) : Res (List FV) := match arOf F R nm with
  | none => .no
  | some 0 => .ok [] ws
  | some (k + 1) => (many (q.term kn) ("(" :: List.replicate k ",") ws).bind fun xs r => (mkk ")" r).map fun _ => xs
def sentB (q : Rd) (kn : List Str) (ws : List W3) : Res FV := (q.simp kn ws).bind fun p r => (row (q.simp kn) FUEL r).map fun ls => grp p ls
def simpB (q : Rd) (kn : List Str) (ws : List W3) : Res FV := withW ws fun x =>
  if x = "not" then (tk true ws).bind fun _ r => (q.simp kn r).map fun p => .tup [.str "not", p]
  else if x ∈ (["all", "some"] : List Str) then q.bound kn ws
  else if x = "(" then (tk true ws).bind fun _ r => (q.sent kn r).bind fun p r2 => (mkk ")" r2).map fun _ => p
  else if (lookA R x).isSome = true then (tk true ws).bind fun _ r => (q.args x kn r).map fun xs => .tup [.str "holds", .tup (.str x :: xs)]
  else q.eqn kn ws
def boundB (q : Rd) (kn : List Str) (ws : List W3) : Res FV := (tk true ws).bind fun b r => withW r fun x => (tk (smallB x && !((lookA F x).isSome || (lookA R x).isSome)) r).bind fun nm r2 => (mkk "." r2).bind fun _ r3 =>
  (q.sent (kn ++ [nm]) r3).map fun p => .tup [.str b, .str nm, p]
def eqnB (q : Rd) (kn : List Str) (ws : List W3) : Res FV := (q.term kn ws).bind fun l r => withW r fun x => (tk (decide (x ∈ (["=", "!="] : List Str))) r).bind fun m r2 => (q.term kn r2).map fun u =>
  if m = "=" then .tup [.str "same", l, u] else .tup [.str "not", .tup [.str "same", l, u]]
def rd : Nat → Rd
  | 0 => ⟨fun _ _ => .no, fun _ _ _ => .no, fun _ _ => .no, fun _ _ => .no, fun _ _ => .no, fun _ _ => .no⟩
  | f + 1 => ⟨termB F (rd f), argsB F R (rd f), sentB (rd f), simpB R (rd f), boundB F R (rd f), eqnB (rd f)⟩
end
/-! ### runs -/
def rdKs : List Str := ["words", "position"]
def rdO (all : List W3) (p : Nat) : FO := .ins "Reader" (rdKs.zip [.fl (all.map encW), .int p])
section
variable {α β γ δ : Type} (h : FH) (all : List W3)
def rh (ws : List W3) : FH := h ++ [rdO all (all.length - ws.length)]
def btE (w : W3) : Exn := ⟨"BadText", some [("column", .int w.2.2), ("line", .int w.2.1)]⟩
def Den (m : M α) (ws : List W3) (x : Res β) (f : β → α) : Prop := match x with
  | .ok a r => m (rh h all ws) = .ok (f a) (rh h all r) ∧ r <:+ all
  | .bad r => (∃ w r2, r = w :: r2 ∧ m (rh h all ws) = .ex (btE w) (rh h all r)) ∧ r <:+ all
  | .no => True
variable {h all}
variable {m : M α} {ws : List W3} {x : Res β} {f : β → α} {k : α → M γ}
theorem Den.bnd {y : β → List W3 → Res δ} {g : δ → γ} (a : Den h all m ws x f) (b : ∀ z r, r <:+ all → Den h all (k (f z)) r (y z r) g) : Den h all (P.bnd m k) ws (x.bind y) g := by
  cases x with
  | no => trivial
  | bad r =>
    obtain ⟨⟨w, r2, e1, e2⟩, e3⟩ := a
    exact ⟨⟨w, r2, e1, by show (m _).bind k = _; rw [e2]; rfl⟩, e3⟩
  | ok z r =>
    obtain ⟨e1, e2⟩ := a
    have := b z r e2
    show Den h all (P.bnd m k) ws (y z r) g
    unfold Den at this ⊢
    rw [bnd_ok e1]
    exact this
theorem Den.run {a : α} {x : Res δ} {g : δ → γ} (e : m (rh h all ws) = .ok a (rh h all ws)) (b : Den h all (k a) ws x g) : Den h all (P.bnd m k) ws x g := by
  unfold Den at b ⊢
  rw [bnd_ok e]
  exact b
theorem Den.eq {m n : M α} (e : m = n) (b : Den h all n ws x f) : Den h all m ws x f := e ▸ b
theorem Den.pur {a : β} (s : ws <:+ all) : Den h all (P.pur (f a)) ws (.ok a ws) f := ⟨rfl, s⟩
theorem Den.map {y : β → δ} {g : δ → γ} (a : Den h all m ws x f) (b : ∀ z, k (f z) = P.pur (g (y z))) : Den h all (P.bnd m k) ws (x.map y) g :=
  a.bnd fun z r s => by rw [b z]; exact ⟨rfl, s⟩
theorem Den.to {g : β → α} (a : Den h all m ws x f) (e : ∀ z, f z = g z) : Den h all m ws x g := by
  have : f = g := funext e
  exact this ▸ a
theorem Den.as {y : δ → β} {x : Res δ} {f : β → α} (a : Den h all m ws x (fun z => f (y z))) : Den h all m ws (x.map y) f := by
  cases x with
  | no => trivial
  | bad r => exact a
  | ok z r => exact a
end
section
variable {β : Type} {h : FH} {all ws : List W3} {x : Res β}
theorem Den.mV {m : M RV} {g : β → FV} (a : Den h all m ws x fun z => .v (g z)) : Den h all (P.mV m) ws x g := by
  cases x with
  | no => trivial
  | bad r =>
    obtain ⟨⟨w, r2, e1, e2⟩, e3⟩ := a
    exact ⟨⟨w, r2, e1, by show vF (m _) = _; rw [e2]; rfl⟩, e3⟩
  | ok z r =>
    obtain ⟨e1, e2⟩ := a
    exact ⟨by show vF (m _) = _; rw [e1]; rfl, e2⟩
theorem rh_len (ws : List W3) : (rh h all ws).length = h.length + 1 := by unfold rh; rw [List.length_append]; rfl
theorem Den.fn {m : M (Fl Unit Empty)} {f : β → RV} (a : Den h all m ws x fun z => .rt (f z)) : Den h all (gcM (P.toF m)) ws x f := by
  cases x with
  | no => trivial
  | bad r =>
    obtain ⟨⟨w, r2, e1, e2⟩, e3⟩ := a
    refine ⟨⟨w, r2, e1, ?_⟩, e3⟩
    unfold gcM
    rw [show P.toF m (rh h all ws) = .ex (btE w) (rh h all r) from by show (m _).bind _ = _; rw [e2]; rfl]
  | ok z r =>
    obtain ⟨e1, e2⟩ := a
    refine ⟨gcM_same ?_ (by rw [rh_len, rh_len]; exact Nat.le_refl _), e2⟩
    show (m _).bind _ = _
    rw [e1]; rfl
theorem Den.ret {m : M RV} {f : β → RV} (a : Den h all m ws x f) : Den h all (P.ret m : M (Fl Unit Empty)) ws x fun z => .rt (f z) := by
  cases x with
  | no => trivial
  | bad r =>
    obtain ⟨⟨w, r2, e1, e2⟩, e3⟩ := a
    exact ⟨⟨w, r2, e1, by show (m _).bind _ = _; rw [e2]; rfl⟩, e3⟩
  | ok z r =>
    obtain ⟨e1, e2⟩ := a
    exact ⟨by show (m _).bind _ = _; rw [e1]; rfl, e2⟩
/-- the loop over pairs -/
theorem Den.row {t : List FV × List FV → M Bool} {G : List FV × List FV → M (Fl (List FV × List FV) (List FV × List FV))} {sm : List W3 → Res FV}
    (ht : ∀ a w r, w :: r <:+ all → t a (rh h all (w :: r)) = .ok (decide (w.1 ∈ pairsL)) (rh h all (w :: r)))
    (hG : ∀ (ps ls : List FV) w r, w :: r <:+ all → ps.length ≤ 3000000 → ls.length ≤ 3000000 → Den h all (G (ps, ls)) (w :: r) (sm r) fun p => .nx (ps ++ [p], ls ++ [.str w.1])) :
    ∀ (g : Nat) (ps ls : List FV) (ws : List W3), ws <:+ all → ps.length + g ≤ 3000000 → ls.length + g ≤ 3000000 → Den h all (whileN t G g (ps, ls) : M (Fl (List FV × List FV) Empty)) ws (P.row sm g ws) fun ys => .nx (ps ++ ys.map (·.2), ls ++ ys.map fun y => .str y.1)
  | 0, ps, ls, ws, s, _, _ => trivial
  | g + 1, ps, ls, [], s, _, _ => trivial
  | g + 1, ps, ls, w :: r, s, h1, h2 => by
    rw [whileN]
    refine Den.run (ht _ w r s) ?_
    rw [P.row]
    show Den h all _ _ (if w.1 ∈ pairsL then _ else _) _
    by_cases e : w.1 ∈ pairsL
    · rw [if_pos e, decide_eq_true e, if_pos rfl]
      show Den h all _ _ ((sm r).bind _) _
      refine (hG ps ls w r s (by omega) (by omega)).bnd fun p r2 s2 => ?_
      dsimp only
      refine Den.as ((Den.row ht hG g (ps ++ [p]) (ls ++ [.str w.1]) r2 s2 (by rw [List.length_append, List.length_cons, List.length_nil]; omega) (by rw [List.length_append, List.length_cons, List.length_nil]; omega)).to fun ys => ?_)
      rw [List.append_assoc, List.append_assoc]; rfl
    · rw [if_neg e, decide_eq_false e, if_neg Bool.false_ne_true]
      exact ⟨by show _ = Rs.ok (Fl.nx (ps ++ [], ls ++ [])) _; rw [List.append_nil, List.append_nil]; rfl, s⟩
end
end P
/-! R18: bounds of what is scanned. -/
namespace P
open PySem PySem.Spec PyProof.Rows L2 G
section
variable (F R : List (Str × Nat))
/-- a whole text's words read as a sentence -/
def rdW (f : Nat) (kn : List Str) (ws : List W3) : Res FV := ((rd F R f).sent kn ws).bind fun d r => (mkk "" r).map fun _ => d
end
end P
/-! R19: rows of words that are read. -/
namespace P
open PySem PySem.Spec PyProof.Rows L2 G
def TX (ws : List W3) : List Str := ws.map (·.1)
theorem TX_app {u : List W3} {a b : List Str} (h : TX u = a ++ b) : ∃ u1 u2, u = u1 ++ u2 ∧ TX u1 = a ∧ TX u2 = b := List.map_eq_append_iff.mp h
theorem TX_cons {u : List W3} {a : Str} {b : List Str} (h : TX u = a :: b) : ∃ w u2, u = w :: u2 ∧ w.1 = a ∧ TX u2 = b := by
  cases u with
  | nil => cases h
  | cons w u2 => exact ⟨w, u2, rfl, (List.cons.inj h).1, (List.cons.inj h).2⟩
theorem TX_nil {u : List W3} (h : TX u = []) : u = [] := List.map_eq_nil_iff.mp h
theorem mkk_eq {w : W3} {m : Str} (r : List W3) (h : w.1 = m) : mkk m (w :: r) = .ok w.1 r := by
  show (if decide (w.1 = m) = true then _ else _) = _
  rw [decide_eq_true h, if_pos rfl]
theorem tk_t (w : W3) (r : List W3) : tk true (w :: r) = .ok w.1 r := rfl
theorem bind_ok {α β : Type} (a : α) (r : List W3) (k : α → List W3 → Res β) : (Res.ok a r).bind k = k a r := rfl
theorem map_ok {α β : Type} (a : α) (r : List W3) (k : α → β) : (Res.ok a r).map k = .ok (k a) r := rfl
theorem withW_c {α : Type} (w : W3) (r : List W3) (k : Str → Res α) : withW (w :: r) k = k w.1 := rfl
/-! ### words of terms -/
def endw : List Tm → List Str
  | [] => []
  | _ :: _ => [")"]
mutual
def Tm.ws : Tm → List Str
  | .var x => [x]
  | .app f ts => f :: (Tm.argw "(" ts ++ endw ts)
def Tm.argw (m : Str) : List Tm → List Str
  | [] => []
  | t :: ts => m :: (t.ws ++ Tm.argw "," ts)
end
theorem ws_var (x : Str) : (Tm.var x).ws = [x] := by simp [Tm.ws]
theorem ws_app (f : Str) (ts : List Tm) : (Tm.app f ts).ws = f :: (Tm.argw "(" ts ++ endw ts) := by simp [Tm.ws]
theorem argw_nil (m : Str) : Tm.argw m [] = [] := by simp [Tm.argw]
theorem argw_cons (m : Str) (t : Tm) (ts : List Tm) : Tm.argw m (t :: ts) = m :: (t.ws ++ Tm.argw "," ts) := by simp [Tm.argw]
section
variable (F : List (Str × Nat)) (kn : List Str)
mutual
def Tm.gd : Tm → Prop
  | .var x => x ∈ kn
  | .app f ts => lookA F f = some ts.length ∧ f ∉ kn ∧ Tm.gds ts
def Tm.gds : List Tm → Prop
  | [] => True
  | t :: ts => t.gd ∧ Tm.gds ts
end
end
theorem gd_var {F : List (Str × Nat)} {kn : List Str} {x : Str} : (Tm.var x).gd F kn ↔ x ∈ kn := by simp [Tm.gd]
theorem gd_app {F : List (Str × Nat)} {kn : List Str} {f : Str} {ts : List Tm} : (Tm.app f ts).gd F kn ↔ lookA F f = some ts.length ∧ f ∉ kn ∧ ∀ t, t ∈ ts → t.gd F kn := by
  have : ∀ ts : List Tm, Tm.gds F kn ts ↔ ∀ t, t ∈ ts → t.gd F kn := fun ts => by
    induction ts with
    | nil => simp [Tm.gds]
    | cons t ts ih => simp [Tm.gds, ih]
  simp [Tm.gd, this]
def marks (m : Str) : Nat → List Str
  | 0 => []
  | k + 1 => m :: List.replicate k ","
theorem marks_s (m : Str) (k : Nat) : marks m (k + 1) = m :: marks "," k := by
  cases k <;> rfl
theorem rd_many {tm : List W3 → Res FV} : ∀ (ts : List Tm), (∀ t, t ∈ ts → ∀ u r, TX u = t.ws → tm (u ++ r) = .ok t.fv r) → ∀ (m : Str) (u r : List W3), TX u = Tm.argw m ts → many tm (marks m ts.length) (u ++ r) = .ok (Tm.fvs ts) r
  | [], _, m, u, r, h => by
    rw [argw_nil] at h
    rw [TX_nil h, fvs_nil]; rfl
  | t :: ts, ht, m, u, r, h => by
    rw [argw_cons] at h
    obtain ⟨w, u2, rfl, hw, h2⟩ := TX_cons h
    obtain ⟨u3, u4, rfl, h3, h4⟩ := TX_app h2
    rw [List.length_cons, marks_s, many, List.cons_append, mkk_eq _ hw, bind_ok, List.append_assoc, ht t List.mem_cons_self u3 _ h3, bind_ok, rd_many ts (fun t h => ht t (List.mem_cons_of_mem _ h)) "," u4 r h4, map_ok, fvs_cons]
section
variable {F R : List (Str × Nat)} {kn : List Str}
theorem rd_args {q : Rd} {f : Str} {ts : List Tm} (ha : arOf F R f = some ts.length) (ht : ∀ t, t ∈ ts → ∀ u r, TX u = t.ws → q.term kn (u ++ r) = .ok t.fv r) (u r : List W3) (h : TX u = Tm.argw "(" ts ++ endw ts) : argsB F R q f kn (u ++ r) = .ok (Tm.fvs ts) r := by
  unfold argsB
  rw [ha]
  cases ts with
  | nil =>
    rw [argw_nil] at h
    rw [TX_nil h, fvs_nil]; rfl
  | cons t ts =>
    obtain ⟨u1, u2, rfl, h1, h2⟩ := TX_app h
    obtain ⟨w, u3, rfl, hw, h3⟩ := TX_cons h2
    rw [TX_nil h3]
    have := rd_many (t :: ts) ht "(" u1 (w :: r) h1
    show ((many (q.term kn) (marks "(" (t :: ts).length) _).bind fun xs r => (mkk ")" r).map fun _ => xs) = _
    rw [List.append_assoc, List.cons_append, List.nil_append, this, bind_ok, mkk_eq _ hw]; rfl
theorem rd_term : ∀ (d : Nat) (t : Tm), t.dep ≤ d → t.gd F kn → ∀ g, 2 * d + 1 ≤ g → ∀ u r, TX u = t.ws → (rd F R g).term kn (u ++ r) = .ok t.fv r
  | d, .var x, _, h, g, hg, u, r, hu => by
    obtain ⟨g, rfl⟩ : ∃ k, g = k + 1 := ⟨g - 1, by omega⟩
    rw [ws_var] at hu
    obtain ⟨w, u2, rfl, hw, h2⟩ := TX_cons hu
    rw [TX_nil h2, fv_var]
    have h := gd_var.mp h
    show (if w.1 ∈ kn then _ else _) = _
    rw [hw, if_pos h, ← hw]; rfl
  | 0, .app f ts, hd, _, _, _, _, _, _ => by
    rw [dep_app] at hd; omega
  | d + 1, .app f ts, hd, h, g, hg, u, r, hu => by
    obtain ⟨g, rfl⟩ : ∃ k, g = k + 2 := ⟨g - 2, by omega⟩
    rw [dep_app] at hd
    rw [ws_app] at hu
    obtain ⟨h1, h2, h3⟩ := gd_app.mp h
    obtain ⟨w, u2, rfl, hw, hu2⟩ := TX_cons hu
    have ar : arOf F R f = some ts.length := by unfold arOf; rw [h1]
    have A := rd_args (R := R) (q := rd F R g) ar (fun t ht u r hu => rd_term d t (by have := deps_mem ht; omega) (h3 t ht) g (by omega) u r hu) u2 r hu2
    show (if w.1 ∈ kn then _ else (tk (lookA F w.1).isSome (w :: (u2 ++ r))).bind fun nm r => ((rd F R (g + 1)).args nm kn r).map fun xs => FV.tup (.str nm :: xs)) = _
    rw [hw, if_neg h2, h1]
    show ((argsB F R (rd F R g) w.1 kn (u2 ++ r)).map fun xs => FV.tup (.str w.1 :: xs)) = _
    rw [hw, A, fv_app]; rfl
/-! ### simple sentences, rows, sentences -/
variable (F R kn)
def SimR (f : Nat) (W : List Str) (d : FV) (cl : Bool) : Prop := ∀ g, f ≤ g → ∀ u w r, TX u = W → (cl = true → w.1 ∉ pairsL) → (rd F R g).simp kn (u ++ w :: r) = .ok d (w :: r)
def SenR (f : Nat) (W : List Str) (d : FV) : Prop := ∀ g, f ≤ g → ∀ u w r, TX u = W → w.1 ∉ pairsL → (rd F R g).sent kn (u ++ w :: r) = .ok d (w :: r)
def RowR (f : Nat) (W : List Str) (d : FV) (ls : List (Str × FV)) (cl : Bool) : Prop := ∀ g, f ≤ g → ∀ g2, f ≤ g2 → ∀ N, ls.length ≤ N → ∀ u w r, TX u = W → (cl = true → w.1 ∉ pairsL) →
  (((rd F R g).simp kn (u ++ w :: r)).bind fun p r2 => (row ((rd F R g2).simp kn) N r2).map fun ls => (p, ls)) = (row ((rd F R g2).simp kn) (N - ls.length) (w :: r)).map fun ls2 => (d, ls ++ ls2)
variable {F R kn}
theorem SimR.row {f : Nat} {W : List Str} {d : FV} {cl : Bool} (h : SimR F R kn f W d cl) : RowR F R kn f W d [] cl := fun g hg g2 hg2 N hN u w r hu hw => by
  rw [h g hg u w r hu hw, bind_ok]; rfl
theorem mapBind {α β γ : Type} (x : Res α) (f : β → γ) (k : α → List W3 → Res β) : (x.bind k).map f = x.bind fun a r => (k a r).map f := by cases x <;> rfl
theorem map_map' {α β γ : Type} (x : Res α) (f : α → β) (g : β → γ) : (x.map f).map g = x.map fun a => g (f a) := by cases x <;> rfl
theorem RowR.app {f : Nat} {W W2 : List Str} {d d2 : FV} {ls ls2 : List (Str × FV)} {o : Str} {cl : Bool} (h : RowR F R kn f W d ls false) (ho : o ∈ pairsL) (h2 : RowR F R kn f W2 d2 ls2 cl) : RowR F R kn f (W ++ o :: W2) d (ls ++ (o, d2) :: ls2) cl := fun g hg g2 hg2 N hN u w r hu hw => by
  obtain ⟨u1, u2, rfl, hu1, hu2⟩ := TX_app hu
  obtain ⟨v, u3, rfl, hv, hu3⟩ := TX_cons hu2
  rw [List.length_append, List.length_cons] at hN
  have A := h g hg g2 hg2 N (by omega) u1 v (u3 ++ w :: r) hu1 (fun z => by cases z)
  rw [List.append_assoc, List.cons_append, A]
  obtain ⟨M, hM⟩ : ∃ M, N - ls.length = M + 1 := ⟨N - ls.length - 1, by omega⟩
  have B := h2 g2 hg2 g2 hg2 M (by omega) u3 w r hu3 hw
  rw [hM, P.row, withW_c, hv, if_pos ho, tk_t, bind_ok]
  have C : ((rd F R g2).simp kn (u3 ++ w :: r)).bind (fun p r2 => (P.row ((rd F R g2).simp kn) M r2).map ((v.1, p) :: ·)) = (((rd F R g2).simp kn (u3 ++ w :: r)).bind fun p r2 => (P.row ((rd F R g2).simp kn) M r2).map fun ls => (p, ls)).map fun q => (v.1, q.1) :: q.2 := by
    rw [mapBind]
    congr 1
    funext p r2
    rw [map_map']
  rw [C, B, map_map', map_map', hv, List.length_append, List.length_cons, show N - (ls.length + (ls2.length + 1)) = M - ls2.length by omega]
  congr 1
  funext q
  rw [List.append_assoc]; rfl
theorem nm_ne {cap : Bool} {x s : Str} {c : Nat} {l : List Nat} (h : Nm cap x) (hs : sgs s = c :: l) (hc : if cap = true then ¬ (65 ≤ c ∧ c ≤ 90) else ¬ (97 ≤ c ∧ c ≤ 122)) : x ≠ s := by
  rintro rfl
  obtain ⟨d, m, e, hd⟩ := h.hd
  rw [hs] at e
  cases e
  cases cap
  · exact hc hd
  · exact hc hd
theorem nm_br {cap : Bool} {x : Str} (h : Nm cap x) : x ≠ "(" := nm_ne h (show sgs "(" = 40 :: [] by decide +kernel) (by cases cap <;> decide)
theorem res_bind {x : Str} (h : x ∉ resS) : x ∉ (["all", "some"] : List Str) ∧ x ≠ "not" ∧ x ∉ pairsL := by
  unfold resS at h
  unfold pairsL
  simp only [List.mem_cons, List.not_mem_nil, or_false, not_or] at h ⊢
  exact ⟨⟨h.1, h.2.1⟩, h.2.2.1, h.2.2.2.1, h.2.2.2.2.1, h.2.2.2.2.2.1, h.2.2.2.2.2.2.1⟩
theorem lookA_in {α : Type} {σ : List (Str × α)} {x : Str} {v : α} (h : lookA σ x = some v) : x ∈ σ.map (·.1) := by
  refine Classical.byContradiction fun z => ?_
  rw [lookA_none.mpr z] at h
  cases h
/-- the known unknowns -/
def KnOk (F : List (Str × Nat)) (kn : List Str) : Prop := ∀ x, x ∈ kn → Nm false x ∧ x ∉ resS ∧ lookA F x = none
theorem sg_small (ok : SgOk F R) {x : Str} (h : Nm false x) : lookA R x = none := lookA_none.mpr fun z => by
  obtain ⟨p, hp, rfl⟩ := List.mem_map.mp z
  exact h.no (ok.rn p hp)
theorem sg_fn (ok : SgOk F R) {x : Str} {k : Nat} (h : lookA F x = some k) : Nm false x ∧ x ∉ resS := by
  obtain ⟨p, hp, rfl⟩ := List.mem_map.mp (lookA_in h)
  exact ⟨ok.fn p hp, ok.fr p hp⟩
theorem term_hd (ok : SgOk F R) (hk : KnOk F kn) {t : Tm} (h : t.gd F kn) : ∃ x l, t.ws = x :: l ∧ Nm false x ∧ x ∉ resS := by
  cases t with
  | var x => exact ⟨x, [], ws_var x, (hk x (gd_var.mp h)).1, (hk x (gd_var.mp h)).2.1⟩
  | app f ts => exact ⟨f, _, ws_app f ts, sg_fn ok (gd_app.mp h).1⟩
theorem sim_eq (ok : SgOk F R) (hk : KnOk F kn) {t1 t2 : Tm} {D : Nat} (h1 : t1.gd F kn) (h2 : t2.gd F kn) (d1 : t1.dep ≤ D) (d2 : t2.dep ≤ D) (m : Str) (hm : m = "=" ∨ m = "!=") : SimR F R kn (2 * D + 3) (t1.ws ++ m :: t2.ws) (if m = "=" then .tup [.str "same", t1.fv, t2.fv] else .tup [.str "not", .tup [.str "same", t1.fv, t2.fv]]) false := fun g hg u w r hu hw => by
  obtain ⟨g, rfl⟩ : ∃ k, g = k + 2 := ⟨g - 2, by omega⟩
  obtain ⟨u1, u2, rfl, hu1, hu2⟩ := TX_app hu
  obtain ⟨v, u3, rfl, hv, hu3⟩ := TX_cons hu2
  obtain ⟨x, l, ex, nx, rx⟩ := term_hd ok hk h1
  obtain ⟨y, u4, rfl, hy, hu4⟩ := TX_cons (hu1.trans ex)
  have A := rd_term (R := R) D t1 d1 h1 g (by omega) (y :: u4) (v :: (u3 ++ w :: r)) hu1
  have B := rd_term (R := R) D t2 d2 h2 g (by omega) u3 (w :: r) hu3
  obtain ⟨rb, rn, _⟩ := res_bind rx
  rw [List.append_assoc]
  show (if y.1 = "not" then _ else if y.1 ∈ (["all", "some"] : List Str) then _ else if y.1 = "(" then _ else if (lookA R y.1).isSome = true then _ else eqnB (rd F R g) kn (y :: u4 ++ (v :: (u3 ++ w :: r)))) = _
  rw [hy, if_neg rn, if_neg rb, if_neg (nm_br nx), sg_small ok nx, if_neg (by decide)]
  unfold eqnB
  rw [A, bind_ok, withW_c, hv, decide_eq_true (by rcases hm with rfl | rfl <;> decide), tk_t, bind_ok, B, map_ok, hv]
theorem sim_not {f : Nat} {W : List Str} {d : FV} {cl : Bool} (h : SimR F R kn f W d cl) : SimR F R kn (f + 1) ("not" :: W) (.tup [.str "not", d]) cl := fun g hg u w r hu hw => by
  obtain ⟨g, rfl⟩ : ∃ k, g = k + 1 := ⟨g - 1, by omega⟩
  obtain ⟨v, u2, rfl, hv, hu2⟩ := TX_cons hu
  show (if v.1 = "not" then (tk true (v :: (u2 ++ w :: r))).bind (fun _ r => ((rd F R g).simp kn r).map fun p => FV.tup [.str "not", p]) else _) = _
  rw [if_pos hv, tk_t, bind_ok, h g (by omega) u2 w r hu2 hw, map_ok]
theorem RowR.nt {f : Nat} {W : List Str} {d : FV} {ls : List (Str × FV)} {cl : Bool} (h : RowR F R kn f W d ls cl) : RowR F R kn (f + 1) ("not" :: W) (.tup [.str "not", d]) ls cl := fun g hg g2 hg2 N hN u w r hu hw => by
  obtain ⟨g, rfl⟩ : ∃ k, g = k + 1 := ⟨g - 1, by omega⟩
  obtain ⟨v, u2, rfl, hv, hu2⟩ := TX_cons hu
  have e : (rd F R (g + 1)).simp kn (v :: u2 ++ w :: r) = ((rd F R g).simp kn (u2 ++ w :: r)).map fun p => FV.tup [.str "not", p] := by
    show (if v.1 = "not" then (tk true (v :: (u2 ++ w :: r))).bind (fun _ r => ((rd F R g).simp kn r).map fun p => FV.tup [.str "not", p]) else _) = _
    rw [if_pos hv, tk_t, bind_ok]
  have A := h g (by omega) g2 (by omega) N hN u2 w r hu2 hw
  rw [e]
  have C : (((rd F R g).simp kn (u2 ++ w :: r)).map fun p => FV.tup [.str "not", p]).bind (fun p r2 => (P.row ((rd F R g2).simp kn) N r2).map fun ls => (p, ls)) = (((rd F R g).simp kn (u2 ++ w :: r)).bind fun p r2 => (P.row ((rd F R g2).simp kn) N r2).map fun ls => (p, ls)).map fun q => (FV.tup [.str "not", q.1], q.2) := by
    rw [mapBind]
    cases (rd F R g).simp kn (u2 ++ w :: r) with
    | no => rfl
    | bad _ => rfl
    | ok p r2 =>
      rw [map_ok, bind_ok, bind_ok, map_map']
  rw [C, A, map_map']
theorem small_B {x : Str} (h : Nm false x) (hr : x ∉ resS) : smallB x = true := by
  have h1 := h.hi
  obtain ⟨c, l, e, hc⟩ := h.hd
  rw [if_neg Bool.false_ne_true] at hc
  unfold smallB
  rw [decide_eq_true h1, h.asc, h.aln, e, decide_eq_false hr]
  simp [hc.1, hc.2]
theorem sim_bound (ok : SgOk F R) {f : Nat} {b x : Str} {W : List Str} {d : FV} (hb : b ∈ (["all", "some"] : List Str)) (hx : Nm false x) (hr : x ∉ resS) (hf : lookA F x = none) (h : SenR F R (kn ++ [x]) f W d) : SimR F R kn (f + 2) (b :: x :: "." :: W) (.tup [.str b, .str x, d]) true := fun g hg u w r hu hw => by
  obtain ⟨g, rfl⟩ : ∃ k, g = k + 2 := ⟨g - 2, by omega⟩
  obtain ⟨v, u2, rfl, hv, hu2⟩ := TX_cons hu
  obtain ⟨y, u3, rfl, hy, hu3⟩ := TX_cons hu2
  obtain ⟨z, u4, rfl, hz, hu4⟩ := TX_cons hu3
  have bn : b ≠ "not" := by
    rintro rfl
    revert hb; decide +kernel
  show (if v.1 = "not" then _ else if v.1 ∈ (["all", "some"] : List Str) then boundB F R (rd F R g) kn (v :: y :: z :: (u4 ++ w :: r)) else _) = _
  rw [hv, if_neg bn, if_pos hb]
  unfold boundB
  rw [tk_t, bind_ok, withW_c, hy, small_B hx hr, hf, sg_small ok hx]
  show ((tk true (y :: z :: (u4 ++ w :: r))).bind _) = _
  rw [tk_t, bind_ok, mkk_eq _ hz, bind_ok, hy, h g (by omega) u4 w r hu4 (hw rfl), map_ok, hv]
end
theorem SimR.up {F R : List (Str × Nat)} {kn : List Str} {f f2 : Nat} {W : List Str} {d : FV} {cl : Bool} (h : SimR F R kn f W d cl) (l : f ≤ f2) : SimR F R kn f2 W d cl := fun g hg => h g (by omega)
theorem RowR.up {F R : List (Str × Nat)} {kn : List Str} {f f2 : Nat} {W : List Str} {d : FV} {ls : List (Str × FV)} {cl : Bool} (h : RowR F R kn f W d ls cl) (l : f ≤ f2) : RowR F R kn f2 W d ls cl := fun g hg g2 hg2 => h g (by omega) g2 (by omega)
theorem SenR.up {F R : List (Str × Nat)} {kn : List Str} {f f2 : Nat} {W : List Str} {d : FV} (h : SenR F R kn f W d) (l : f ≤ f2) : SenR F R kn f2 W d := fun g hg => h g (by omega)
/-! ### grouping -/
theorem jl_c (w o : Str) (p q : FV) (ls : List (Str × FV)) : jl w p ((o, q) :: ls) = if o = w then jl w (.tup [.str w, p, q]) ls else (p, (o, (jl w q ls).1) :: (jl w q ls).2) := by rw [jl]
theorem jr_c (w o : Str) (p q : FV) (ls : List (Str × FV)) : jr w p ((o, q) :: ls) = if o = w then (.tup [.str w, p, (jr w q ls).1], (jr w q ls).2) else (p, (o, (jr w q ls).1) :: (jr w q ls).2) := by rw [jr]
end P
/-! R20: deep freezes behind drawing defs; cuts; words with gaps between them. -/
namespace P
open PySem PySem.Spec PyProof.Rows L2 G
theorem cutF_to (xs : List FV) (k : Nat) : cutF xs none (some (k : Int)) = xs.take k := by
  unfold cutF
  rw [HT.sIx_nat, HT.sIx_none, Nat.sub_zero, List.drop_zero]
  by_cases h : k ≤ xs.length
  · rw [Nat.min_eq_left h]
  · rw [Nat.min_eq_right (by omega), List.take_length, List.take_of_length_le (by omega)]
theorem cutF_from (xs : List FV) (k : Nat) : cutF xs (some (k : Int)) none = xs.drop k := by
  unfold cutF
  rw [HT.sIx_nat, HT.sIx_none]
  by_cases h : k ≤ xs.length
  · rw [Nat.min_eq_left h, List.take_of_length_le (by rw [List.length_drop]; exact Nat.le_refl _)]
  · rw [Nat.min_eq_right (by omega), List.drop_length, List.take_nil, List.drop_eq_nil_of_le (by omega)]
/-! where a word stands in a list -/
/-! ### marks and names -/
def mkL : List Str := ["(", ")", ",", ".", "=", "!="]
theorem mks6 : mkL = [mk [40], mk [41], mk [44], mk [46], mk [61], mk [33, 61]] := by decide +kernel
theorem mks_wk {w : List Nat} (h : Wk w) : memD (mk w) mkL = !nmB w := by
  have q : ∀ a, (mk w = mk a) = (w = a) := fun a => propext ⟨fun z => mk_inj z, fun z => by rw [z]⟩
  unfold memD
  rw [mks6]
  simp only [List.mem_cons, List.not_mem_nil, or_false, q]
  rcases h with ⟨h1, h2⟩ | ⟨c, rfl, h⟩ | rfl
  · cases w with
    | nil => exact absurd rfl h1
    | cons c w =>
      have hc := h2 c List.mem_cons_self
      have e := sg_mk hc
      have n33 := (sg_no hc).1
      unfold isMk at e
      simp only [Bool.or_eq_false_iff, decide_eq_false_iff_not] at e
      obtain ⟨⟨⟨⟨e1, e2⟩, e3⟩, e4⟩, e5⟩ := e
      rw [show nmB (c :: w) = isSg c from rfl, hc]
      simp [e1, e2, e3, e4, e5, n33]
  · have e := (mk_no h).2.2.2
    rw [show nmB [c] = isSg c from rfl, e]
    unfold isMk at h
    simp only [Bool.or_eq_true, decide_eq_true_eq] at h
    rcases h with (((rfl | rfl) | rfl) | rfl) | rfl <;> decide
  · decide
/-- a word of a text -/
def WS (x : Str) : Prop := Wk (sgs x) ∧ x.length ≤ 12
theorem nm_ws {cap : Bool} {x : Str} (h : Nm cap x) : WS x := ⟨.inl ⟨by
  obtain ⟨c, l, e, _⟩ := h.hd
  rw [e]; simp, h.sg⟩, h.hi⟩
theorem mk_ws {x : Str} (h : x ∈ mkL) : WS x := by
  rw [mks6] at h
  simp only [List.mem_cons, List.not_mem_nil, or_false] at h
  rcases h with rfl | rfl | rfl | rfl | rfl | rfl
  · exact ⟨.inr (.inl ⟨_, rfl, rfl⟩), by rw [mk_len]; decide⟩
  · exact ⟨.inr (.inl ⟨_, rfl, rfl⟩), by rw [mk_len]; decide⟩
  · exact ⟨.inr (.inl ⟨_, rfl, rfl⟩), by rw [mk_len]; decide⟩
  · exact ⟨.inr (.inl ⟨_, rfl, rfl⟩), by rw [mk_len]; decide⟩
  · exact ⟨.inr (.inl ⟨_, rfl, rfl⟩), by rw [mk_len]; decide⟩
  · exact ⟨.inr (.inr rfl), by rw [mk_len]; decide⟩
theorem res_ws {x : Str} (h : x ∈ resS) : WS x := by
  have : ∀ x, x ∈ resS → (sgs x ≠ [] ∧ (sgs x).all isSg = true) ∧ x.length ≤ 12 := by decide +kernel
  obtain ⟨⟨h1, h2⟩, h3⟩ := this x h
  exact ⟨.inl ⟨h1, fun c hc => List.all_eq_true.mp h2 c hc⟩, h3⟩
/-- what is known of a text of words with gaps -/
structure Jt (W : List Str) (k : Nat) (text last : Str) : Prop where
  ex : ∃ ps, text = mk (jt ps []) ∧ Gd2 false ps ∧ (ps.map fun q => mk q.2) = W ∧ nmB (sgs last) = lastB false ps
  wk : Wk (sgs last)
  len : text.length ≤ k * 15
theorem Jt.nil : Jt [] 0 "" "(" := ⟨⟨[], by decide +kernel, trivial, rfl, by decide +kernel⟩, (mk_ws (by decide +kernel)).1, by decide +kernel⟩
end P
/-! R21: lengths of words; operations on small lists. -/
namespace P
open PySem PySem.Spec PyProof.Rows L2 G
theorem lookA_mem' {α : Type} {x : Str} {v : α} : ∀ {σ : List (Str × α)}, lookA σ x = some v → (x, v) ∈ σ
  | [], h => by cases h
  | p :: σ, h => by
    unfold lookA at h
    rw [List.find?_cons] at h
    by_cases e : p.1 = x
    · rw [decide_eq_true e] at h
      cases h
      rw [← e]; exact List.mem_cons_self
    · rw [decide_eq_false e] at h
      exact List.mem_cons_of_mem _ (lookA_mem' h)
theorem argw_len {B : Nat} : ∀ (vs : List Tm), (∀ v, v ∈ vs → v.ws.length ≤ B) → ∀ m, (Tm.argw m vs).length ≤ vs.length * (B + 1)
  | [], _, m => by rw [argw_nil]; exact Nat.zero_le _
  | v :: vs, h, m => by
    have := argw_len vs (fun w hw => h w (List.mem_cons_of_mem _ hw)) ","
    have := h v List.mem_cons_self
    rw [argw_cons, List.length_cons, List.length_append, List.length_cons, Nat.succ_mul]
    omega
theorem endw_len (ts : List Tm) : (endw ts).length ≤ 1 := by
  cases ts
  · exact Nat.zero_le _
  · exact Nat.le_refl _
theorem len_ws {F : List (Str × Nat)} {kn : List Str} (ha : ∀ p, p ∈ F → p.2 ≤ 3) : ∀ (d : Nat) (t : Tm), t.dep ≤ d → t.gd F kn → t.ws.length ≤ 6 ^ (d + 1)
  | d, .var x, _, _ => by
    rw [ws_var]
    show 1 ≤ _
    exact Nat.one_le_pow _ _ (by decide)
  | 0, .app f ts, h, _ => by rw [dep_app] at h; omega
  | d + 1, .app f ts, h, hg => by
    rw [dep_app] at h
    obtain ⟨h1, h2, h3⟩ := gd_app.mp hg
    have l3 : ts.length ≤ 3 := ha _ (lookA_mem' h1)
    have := argw_len (B := 6 ^ (d + 1)) ts (fun u hu => by
      have := deps_mem hu
      exact len_ws ha d u (by omega) (h3 u hu)) "("
    have e1 := endw_len ts
    have b6 : 6 ≤ 6 ^ (d + 1) := by
      rw [Nat.pow_succ]
      have := Nat.one_le_pow d 6 (by decide)
      omega
    have m3 : ts.length * (6 ^ (d + 1) + 1) ≤ 3 * (6 ^ (d + 1) + 1) := Nat.mul_le_mul_right _ l3
    rw [ws_app, List.length_cons, List.length_append, Nat.pow_succ 6 (d + 1)]
    omega
theorem ws_words {F : List (Str × Nat)} {kn : List Str} (hF : ∀ p, p ∈ F → Nm false p.1) (hk : ∀ x, x ∈ kn → Nm false x) : ∀ (d : Nat) (t : Tm), t.dep ≤ d → t.gd F kn → ∀ x, x ∈ t.ws → WS x
  | d, .var x, _, h, y, hy => by
    rw [ws_var, List.mem_singleton] at hy
    subst hy
    exact nm_ws (hk _ (gd_var.mp h))
  | 0, .app f ts, h, _, _, _ => by rw [dep_app] at h; omega
  | d + 1, .app f ts, h, hg, y, hy => by
    rw [dep_app] at h
    obtain ⟨h1, h2, h3⟩ := gd_app.mp hg
    have aw : ∀ (vs : List Tm) (m : Str), WS m → (∀ v, v ∈ vs → v ∈ ts) → ∀ x, x ∈ Tm.argw m vs → WS x := fun vs => by
      induction vs with
      | nil => intro m _ _ x hx; rw [argw_nil] at hx; cases hx
      | cons v vs ih =>
        intro m hm hv x hx
        rw [argw_cons] at hx
        rcases List.mem_cons.mp hx with rfl | hx
        · exact hm
        · rcases List.mem_append.mp hx with hx | hx
          · have hv1 := hv v List.mem_cons_self
            have := deps_mem hv1
            exact ws_words hF hk d v (by omega) (h3 v hv1) x hx
          · exact ih "," (mk_ws (by decide +kernel)) (fun w hw => hv w (List.mem_cons_of_mem _ hw)) x hx
    rw [ws_app] at hy
    rcases List.mem_cons.mp hy with rfl | hy
    · exact nm_ws (hF _ (lookA_mem' h1))
    · rcases List.mem_append.mp hy with hy | hy
      · exact aw ts "(" (mk_ws (by decide +kernel)) (fun _ h => h) y hy
      · cases ts with
        | nil => cases hy
        | cons t ts =>
          have : y = ")" := by simpa [endw] using hy
          subst this
          exact mk_ws (by decide +kernel)
theorem is_str_t (t : Tm) : oU (gIs "str") (.v t.fv) = pur (.v (.bl (match t with | .var _ => true | .app _ _ => false))) := by
  cases t with
  | var x => rw [fv_var]; exact is_ss x
  | app f ts => rw [fv_app]; exact is_st _
theorem ixN_nat {n i : Nat} (h : i < n) : L2.ixN n (i : Int) = some i := by
  unfold L2.ixN
  rw [if_pos (Int.natCast_nonneg _), if_pos (by omega)]; rfl
theorem setI_nat {ds : List FV} {i : Nat} {z : FV} (h : i < ds.length) : oSetI ds (.v (.int i)) z = pur (ds.set i z) := lift_ok fun s => by
  show gSetI ds (.v (.int i)) z = _
  unfold gSetI
  dsimp only
  rw [ixN_nat h]
end P
/-! R22: loops that draw and may return; told lists; how deep a grouped row is. -/
namespace P
open PySem PySem.Spec PyProof.Rows L2 G
theorem strs_pure : ∀ l : List Str, FV.pures (l.map .str) = true
  | [] => rfl
  | x :: l => by rw [List.map_cons, FV.pures, strs_pure l]; rfl
/-! ### depths -/
theorem d_tup3 {w : Str} {p q : FV} {b : Nat} (hp : p.pure = true ∧ p.py.depth ≤ b) (hq : q.pure = true ∧ q.py.depth ≤ b) : (FV.tup [.str w, p, q]).pure = true ∧ (FV.tup [.str w, p, q]).py.depth ≤ b + 1 := by
  refine ⟨by simp [FV.pure, FV.pures, hp.1, hq.1], ?_⟩
  simp only [FV.py, FV.pys, PyData.depth, PyData.depthAll]
  omega
theorem d_tup2 {w : Str} {p : FV} {b : Nat} (hp : p.pure = true ∧ p.py.depth ≤ b) : (FV.tup [.str w, p]).pure = true ∧ (FV.tup [.str w, p]).py.depth ≤ b + 1 := by
  refine ⟨by simp [FV.pure, FV.pures, hp.1], ?_⟩
  simp only [FV.py, FV.pys, PyData.depth, PyData.depthAll]
  omega
end P
/-! R23: parts and rows: read, how deep, how long. -/
namespace P
open PySem PySem.Spec PyProof.Rows L2 G
section
variable (F R : List (Str × Nat)) (kn : List Str)
structure PrtD (f dp wd : Nat) (cl : Bool) (W : List Str) (d : FV) : Prop where
  rd : SimR F R kn f W d cl
  pu : d.pure = true
  dp : d.py.depth ≤ dp
  wd : W.length ≤ wd
  ws : ∀ x, x ∈ W → WS x
structure RowD (f dp wd : Nat) (cl : Bool) (W : List Str) (d : FV) (ls : List (Str × FV)) : Prop where
  rd : RowR F R kn f W d ls cl
  dp : ∀ x, x = d ∨ (∃ z, z ∈ ls ∧ x = z.2) → x.pure = true ∧ x.py.depth ≤ dp
  lk : ∀ x, x ∈ ls → x.1 ∈ pairsL
  wd : W.length ≤ wd
  ws : ∀ x, x ∈ W → WS x
structure SenD (f dp wd : Nat) (W : List Str) (d : FV) : Prop where
  rd : SenR F R kn f W d
  pu : d.pure = true
  dp : d.py.depth ≤ dp
  wd : W.length ≤ wd
  ws : ∀ x, x ∈ W → WS x
end
section
variable {F R : List (Str × Nat)} {kn : List Str} {f f2 dp dp2 wd wd2 : Nat} {cl : Bool} {W W2 : List Str} {d d2 : FV} {ls ls2 : List (Str × FV)}
theorem PrtD.up (h : PrtD F R kn f dp wd cl W d) (a : f ≤ f2) (b : dp ≤ dp2) (c : wd ≤ wd2) : PrtD F R kn f2 dp2 wd2 cl W d := ⟨h.rd.up a, h.pu, Nat.le_trans h.dp b, Nat.le_trans h.wd c, h.ws⟩
theorem RowD.up (h : RowD F R kn f dp wd cl W d ls) (a : f ≤ f2) (b : dp ≤ dp2) (c : wd ≤ wd2) : RowD F R kn f2 dp2 wd2 cl W d ls := ⟨h.rd.up a, fun x hx => ⟨(h.dp x hx).1, Nat.le_trans (h.dp x hx).2 b⟩, h.lk, Nat.le_trans h.wd c, h.ws⟩
theorem SenD.up (h : SenD F R kn f dp wd W d) (a : f ≤ f2) (b : dp ≤ dp2) (c : wd ≤ wd2) : SenD F R kn f2 dp2 wd2 W d := ⟨h.rd.up a, h.pu, Nat.le_trans h.dp b, Nat.le_trans h.wd c, h.ws⟩
theorem PrtD.row (h : PrtD F R kn f dp wd cl W d) : RowD F R kn f dp wd cl W d [] := by
  refine ⟨h.rd.row, fun x hx => ?_, (fun x hx => by cases hx), h.wd, h.ws⟩
  rcases hx with rfl | ⟨z, hz, _⟩
  · exact ⟨h.pu, h.dp⟩
  · cases hz
theorem pair_ws {o : Str} (h : o ∈ pairsL) : WS o := res_ws (by
  unfold pairsL at h
  unfold resS
  simp only [List.mem_cons, List.not_mem_nil, or_false] at h ⊢
  rcases h with h | h | h | h <;> simp [h])
theorem RowD.app {o : Str} (h : RowD F R kn f dp wd false W d ls) (ho : o ∈ pairsL) (h2 : RowD F R kn f dp wd2 cl W2 d2 ls2) : RowD F R kn f dp (wd + 1 + wd2) cl (W ++ o :: W2) d (ls ++ (o, d2) :: ls2) := ⟨h.rd.app ho h2.rd, fun x hx => by
  rcases hx with rfl | ⟨z, hz, rfl⟩
  · exact h.dp _ (.inl rfl)
  · rcases List.mem_append.mp hz with hz | hz
    · exact h.dp _ (.inr ⟨z, hz, rfl⟩)
    · rcases List.mem_cons.mp hz with rfl | hz
      · exact h2.dp _ (.inl rfl)
      · exact h2.dp _ (.inr ⟨z, hz, rfl⟩), fun x hx => by
  rcases List.mem_append.mp hx with hx | hx
  · exact h.lk x hx
  · rcases List.mem_cons.mp hx with rfl | hx
    · exact ho
    · exact h2.lk x hx, by
  have := h.wd; have := h2.wd
  rw [List.length_append, List.length_cons]; omega, fun x hx => by
  rcases List.mem_append.mp hx with hx | hx
  · exact h.ws x hx
  · rcases List.mem_cons.mp hx with rfl | hx
    · exact pair_ws ho
    · exact h2.ws x hx⟩
theorem PrtD.nt (h : PrtD F R kn f dp wd cl W d) : PrtD F R kn (f + 1) (dp + 1) (wd + 1) cl ("not" :: W) (.tup [.str "not", d]) := by
  have g := d_tup2 (w := "not") ⟨h.pu, h.dp⟩
  exact ⟨sim_not h.rd, g.1, g.2, Nat.succ_le_succ h.wd, fun x hx => by
    rcases List.mem_cons.mp hx with rfl | hx
    · exact res_ws (by decide +kernel)
    · exact h.ws x hx⟩
theorem RowD.nt (h : RowD F R kn f dp wd cl W d ls) : RowD F R kn (f + 1) (dp + 1) (wd + 1) cl ("not" :: W) (.tup [.str "not", d]) ls := by
  have g := d_tup2 (w := "not") (h.dp d (.inl rfl))
  refine ⟨h.rd.nt, fun x hx => ?_, h.lk, Nat.succ_le_succ h.wd, fun x hx => ?_⟩
  · rcases hx with rfl | hx
    · exact g
    · exact ⟨(h.dp x (.inr hx)).1, Nat.le_succ_of_le (h.dp x (.inr hx)).2⟩
  · rcases List.mem_cons.mp hx with rfl | hx
    · exact res_ws (by decide +kernel)
    · exact h.ws x hx
theorem SenD.bd {b x : Str} (ok : SgOk F R) (hb : b ∈ (["all", "some"] : List Str)) (hx : Nm false x) (hr : x ∉ resS) (hf : lookA F x = none) (h : SenD F R (kn ++ [x]) f dp wd W d) : PrtD F R kn (f + 2) (dp + 1) (wd + 3) true (b :: x :: "." :: W) (.tup [.str b, .str x, d]) := by
  have g := d_tup3 (w := b) (p := .str x) (q := d) (b := dp) ⟨rfl, Nat.zero_le _⟩ ⟨h.pu, h.dp⟩
  refine ⟨sim_bound ok hb hx hr hf h.rd, g.1, g.2, by
    have := h.wd
    rw [List.length_cons, List.length_cons, List.length_cons]; omega, fun y hy => ?_⟩
  rcases List.mem_cons.mp hy with rfl | hy
  · refine res_ws ?_
    unfold resS
    simp only [List.mem_cons, List.not_mem_nil, or_false] at hb ⊢
    rcases hb with h | h <;> simp [h]
  · rcases List.mem_cons.mp hy with rfl | hy
    · exact nm_ws hx
    · rcases List.mem_cons.mp hy with rfl | hy
      · exact mk_ws (by decide +kernel)
      · exact h.ws y hy
theorem eq_D (ok : SgOk F R) (hk : KnOk F kn) {t1 t2 : Tm} {D : Nat} (h1 : t1.gd F kn) (h2 : t2.gd F kn) (d1 : t1.dep ≤ D) (d2 : t2.dep ≤ D) (m : Str) (hm : m = "=" ∨ m = "!=") : PrtD F R kn (2 * D + 3) (D + 2) (2 * 6 ^ (D + 1) + 1) false (t1.ws ++ m :: t2.ws) (if m = "=" then .tup [.str "same", t1.fv, t2.fv] else .tup [.str "not", .tup [.str "same", t1.fv, t2.fv]]) := by
  have g := d_tup3 (w := "same") (p := t1.fv) (q := t2.fv) (b := D) ⟨fv_pure _, by rw [fv_depth]; exact d1⟩ ⟨fv_pure _, by rw [fv_depth]; exact d2⟩
  have g2 := d_tup2 (w := "not") g
  have l1 := len_ws (fun p hp => ok.ar p (List.mem_append_left _ hp)) D t1 d1 h1
  have l2 := len_ws (fun p hp => ok.ar p (List.mem_append_left _ hp)) D t2 d2 h2
  refine ⟨sim_eq ok hk h1 h2 d1 d2 m hm, ?_, ?_, by rw [List.length_append, List.length_cons]; omega, fun y hy => ?_⟩
  · split
    · exact g.1
    · exact g2.1
  · split
    · exact Nat.le_succ_of_le g.2
    · exact g2.2
  · rcases List.mem_append.mp hy with hy | hy
    · exact ws_words ok.fn (fun z hz => (hk z hz).1) D t1 d1 h1 y hy
    · rcases List.mem_cons.mp hy with rfl | hy
      · exact mk_ws (by rcases hm with rfl | rfl <;> decide +kernel)
      · exact ws_words ok.fn (fun z hz => (hk z hz).1) D t2 d2 h2 y hy
end
end P
/-! R24: texts of terms and sentences, and their words. -/
namespace P
open PySem PySem.Spec PyProof.Rows L2 G
/-! ### codes and words -/
/-- a text of these words -/
structure Tx (cs : List Nat) (W : List Str) (b0 b1 : Bool) : Prop where
  ex : ∃ ps g w, cs = jt ((g, w) :: ps) [] ∧ Gd2 false ((g, w) :: ps) ∧ (((g, w) :: ps).map fun q => mk q.2) = W ∧ nmB w = b0 ∧ lastB false ((g, w) :: ps) = b1
theorem Tx.one {x : Str} (h : WS x) : Tx (sgs x) [x] (nmB (sgs x)) (nmB (sgs x)) := ⟨[], [], sgs x, by show sgs x = [] ++ (sgs x ++ []); simp, ⟨(fun c hc => by cases hc), h.1, (fun z => by cases z), trivial⟩, by rw [List.map_cons, List.map_nil, mk_sgs], rfl, rfl⟩
theorem Tx.mark {x : Str} (h : x ∈ mkL) : Tx (sgs x) [x] false false := by
  have e : nmB (sgs x) = false := by
    have := mks_wk (mk_ws h).1
    rw [mk_sgs] at this
    rw [show memD x mkL = true from decide_eq_true h] at this
    cases q : nmB (sgs x)
    · rfl
    · rw [q] at this; cases this
  have := Tx.one (mk_ws h)
  rwa [e] at this
theorem Tx.nm {x : Str} (h : WS x) : ∃ a b, Tx (sgs x) [x] a b := ⟨_, _, Tx.one h⟩
/-! ### terms -/
/-! ### sentences -/
inductive Sn where
  | eq (a b : Tm) | at' (x : Str) (ts : List Tm) | nt (s : Sn) | bd (b x : Str) (s : Sn) | pr (o : Str) (a b : Sn)
def Sn.fv : Sn → FV
  | .eq a b => .tup [.str "same", a.fv, b.fv]
  | .at' x ts => .tup [.str "holds", (Tm.app x ts).fv]
  | .nt s => .tup [.str "not", s.fv]
  | .bd b x s => .tup [.str b, .str x, s.fv]
  | .pr o a b => .tup [.str o, a.fv, b.fv]
def Sn.dep : Sn → Nat
  | .eq _ _ => 0
  | .at' _ _ => 0
  | .nt s => s.dep + 1
  | .bd _ _ s => s.dep + 1
  | .pr _ a b => max a.dep b.dep + 1
def Sn.gd (F R : List (Str × Nat)) (D : Nat) : List Str → Sn → Prop
  | kn, .eq a b => a.gd F kn ∧ b.gd F kn ∧ a.dep ≤ D ∧ b.dep ≤ D
  | kn, .at' x ts => lookA R x = some ts.length ∧ ∀ t, t ∈ ts → t.gd F kn ∧ t.dep ≤ D
  | kn, .nt s => s.gd F R D kn
  | kn, .bd b x s => b ∈ (["all", "some"] : List Str) ∧ (Nm false x ∧ x ∉ resS ∧ lookA F x = none) ∧ s.gd F R D (kn ++ [x])
  | kn, .pr o a b => o ∈ pairsL ∧ a.gd F R D kn ∧ b.gd F R D kn
def brk (c : Bool) (W : List Str) : List Str := if c = true then "(" :: (W ++ ([")"] : List Str)) else W
/-! ### joined texts -/
end P
/-! R25: rows of words that end too early or go on too long; sentences read. -/
namespace P
open PySem PySem.Spec PyProof.Rows L2 G
def tw : Nat → Nat
  | 0 => 1
  | d + 1 => 3 * tw d + 5
theorem len_tw {F : List (Str × Nat)} {kn : List Str} (ha : ∀ p, p ∈ F → p.2 ≤ 3) : ∀ (d : Nat) (t : Tm), t.dep ≤ d → t.gd F kn → t.ws.length ≤ tw d
  | d, .var x, _, _ => by
    rw [ws_var]
    cases d with
    | zero => exact Nat.le_refl _
    | succ d => show 1 ≤ 3 * tw d + 5; omega
  | 0, .app f ts, h, _ => by rw [dep_app] at h; omega
  | d + 1, .app f ts, h, hg => by
    rw [dep_app] at h
    obtain ⟨h1, h2, h3⟩ := gd_app.mp hg
    have l3 : ts.length ≤ 3 := ha _ (lookA_mem' h1)
    have := argw_len (B := tw d) ts (fun u hu => by
      have := deps_mem hu
      exact len_tw ha d u (by omega) (h3 u hu)) "("
    have e1 := endw_len ts
    have m3 : ts.length * (tw d + 1) ≤ 3 * (tw d + 1) := Nat.mul_le_mul_right _ l3
    rw [ws_app, List.length_cons, List.length_append]
    show _ ≤ 3 * tw d + 5
    omega
theorem eq_D' {F R : List (Str × Nat)} {kn : List Str} (ok : SgOk F R) (hk : KnOk F kn) {t1 t2 : Tm} {D : Nat} (h1 : t1.gd F kn) (h2 : t2.gd F kn) (d1 : t1.dep ≤ D) (d2 : t2.dep ≤ D) (m : Str) (hm : m = "=" ∨ m = "!=") : PrtD F R kn (2 * D + 3) (D + 2) (2 * tw D + 1) false (t1.ws ++ m :: t2.ws) (if m = "=" then .tup [.str "same", t1.fv, t2.fv] else .tup [.str "not", .tup [.str "same", t1.fv, t2.fv]]) := by
  have A := eq_D ok hk h1 h2 d1 d2 m hm
  refine ⟨A.rd, A.pu, A.dp, ?_, A.ws⟩
  have l1 := len_tw (fun p hp => ok.ar p (List.mem_append_left _ hp)) D t1 d1 h1
  have l2 := len_tw (fun p hp => ok.ar p (List.mem_append_left _ hp)) D t2 d2 h2
  rw [List.length_append, List.length_cons]; omega
/-! ### too short, too long -/
theorem mkk_no {w : W3} {m : Str} (r : List W3) (h : w.1 ≠ m) : mkk m (w :: r) = .bad (w :: r) := by
  show (if decide (w.1 = m) = true then _ else _) = _
  rw [decide_eq_false h, if_neg Bool.false_ne_true]
theorem bad_bind {α β : Type} (r : List W3) (k : α → List W3 → Res β) : (Res.bad r : Res α).bind k = .bad r := rfl
theorem bad_map {α β : Type} (r : List W3) (k : α → β) : (Res.bad r : Res α).map k = .bad r := rfl
section
variable {F R : List (Str × Nat)} {kn : List Str}
theorem nm_ne0 {cap : Bool} {x : Str} (h : Nm cap x) : x ≠ "" := fun e => by
  have := h.lo
  rw [e] at this
  revert this; decide
theorem e_F (ok : SgOk F R) : lookA F "" = none := lookA_none.mpr fun z => by
  obtain ⟨p, hp, e⟩ := List.mem_map.mp z
  exact nm_ne0 (ok.fn p hp) e
theorem e_kn (hk : KnOk F kn) : ("" : Str) ∉ kn := fun z => nm_ne0 (hk _ z).1 rfl
theorem term_end (ok : SgOk F R) (hk : KnOk F kn) {g : Nat} (hg : 1 ≤ g) {e : W3} (he : e.1 = "") (r : List W3) : (rd F R g).term kn (e :: r) = .bad (e :: r) := by
  obtain ⟨g, rfl⟩ : ∃ k, g = k + 1 := ⟨g - 1, by omega⟩
  show (if e.1 ∈ kn then _ else (tk (lookA F e.1).isSome (e :: r)).bind _) = _
  rw [he, if_neg (e_kn hk), e_F ok]; rfl
theorem e_no : ("" : Str) ≠ "not" ∧ ("" : Str) ∉ (["all", "some"] : List Str) ∧ ("" : Str) ≠ "(" ∧ ("" : Str) ∉ pairsL ∧ ("" : Str) ≠ ")" := by decide +kernel
theorem rd_args_end {q : Rd} {f : Str} {ts : List Tm} (hn : ts ≠ []) (ha : arOf F R f = some ts.length) (ht : ∀ t, t ∈ ts → ∀ u r, TX u = t.ws → q.term kn (u ++ r) = .ok t.fv r) {e : W3} (he : e.1 = "") (u : List W3) (h : TX u = Tm.argw "(" ts) : argsB F R q f kn (u ++ [e]) = .bad [e] := by
  unfold argsB
  rw [ha]
  cases ts with
  | nil => exact absurd rfl hn
  | cons t ts =>
    have := rd_many (t :: ts) ht "(" u [e] h
    show ((many (q.term kn) (marks "(" (t :: ts).length) _).bind fun xs r => (mkk ")" r).map fun _ => xs) = _
    rw [this, bind_ok, mkk_no _ (by rw [he]; exact e_no.2.2.2.2)]; rfl
theorem drop_snoc {α : Type} (l : List α) (x : α) : (l ++ [x]).dropLast = l := List.dropLast_concat
theorem ws_ne (t : Tm) : t.ws ≠ [] := by
  cases t with
  | var x => rw [ws_var]; simp
  | app f ts => rw [ws_app]; simp
theorem args_drop (f : Str) (t : Tm) (ts : List Tm) : (f :: (Tm.argw "(" (t :: ts) ++ endw (t :: ts))).dropLast = f :: Tm.argw "(" (t :: ts) := by
  show (f :: (Tm.argw "(" (t :: ts) ++ ([")"] : List Str))).dropLast = _
  rw [← List.cons_append, drop_snoc]
theorem term_short (ok : SgOk F R) (hk : KnOk F kn) {d : Nat} {t : Tm} (hd : t.dep ≤ d) (h : t.gd F kn) {g : Nat} (hg : 2 * d + 1 ≤ g) {u : List W3} (hu : TX u = t.ws.dropLast) {e : W3} (he : e.1 = "") : (rd F R g).term kn (u ++ [e]) = .bad [e] := by
  cases t with
  | var x =>
    rw [ws_var] at hu
    rw [TX_nil hu]
    exact term_end ok hk (by omega) he []
  | app f ts =>
    rw [ws_app] at hu
    cases ts with
    | nil =>
      rw [argw_nil] at hu
      rw [TX_nil hu]
      exact term_end ok hk (by omega) he []
    | cons t ts =>
      rw [args_drop] at hu
      obtain ⟨w, u2, rfl, hw, hu2⟩ := TX_cons hu
      rw [dep_app] at hd
      obtain ⟨g, rfl⟩ : ∃ k, g = k + 2 := ⟨g - 2, by omega⟩
      obtain ⟨h1, h2, h3⟩ := gd_app.mp h
      have ar : arOf F R f = some (t :: ts).length := by unfold arOf; rw [h1]
      have A := rd_args_end (R := R) (kn := kn) (q := rd F R g) (by simp) ar (fun t ht u r hu => rd_term (d - 1) t (by have := deps_mem ht; omega) (h3 t ht) g (by omega) u r hu) he u2 hu2
      show (if w.1 ∈ kn then _ else (tk (lookA F w.1).isSome (w :: (u2 ++ [e]))).bind fun nm r => ((rd F R (g + 1)).args nm kn r).map fun xs => FV.tup (.str nm :: xs)) = _
      rw [hw, if_neg h2, h1]
      show ((argsB F R (rd F R g) w.1 kn (u2 ++ [e])).map fun xs => FV.tup (.str w.1 :: xs)) = _
      rw [hw, A]; rfl
end
section
variable (F R : List (Str × Nat)) (kn : List Str)
structure Ful (f dp wd : Nat) (cl : Bool) (W : List Str) (d : FV) : Prop where
  p : PrtD F R kn f dp wd cl W d
  e : ∀ g, f ≤ g → ∀ u z, TX u = W.dropLast → z.1 = ("" : Str) → (rd F R g).simp kn (u ++ [z]) = .bad [z]
  x : cl = true → ∀ g, f ≤ g → ∀ u o z, TX u = W → o.1 ∈ pairsL → z.1 = ("" : Str) → (rd F R g).simp kn (u ++ [o, z]) = .bad [z]
  ne : W ≠ []
structure FulS (f dp wd : Nat) (W : List Str) (d : FV) : Prop where
  p : SenD F R kn f dp wd W d
  e : ∀ g, f ≤ g → ∀ u z, TX u = W.dropLast → z.1 = ("" : Str) → (rd F R g).sent kn (u ++ [z]) = .bad [z]
  x : ∀ g, f ≤ g → ∀ u o z, TX u = W → o.1 ∈ pairsL → z.1 = ("" : Str) → (rd F R g).sent kn (u ++ [o, z]) = .bad [z]
  ne : W ≠ []
end
section
variable {F R : List (Str × Nat)} {kn : List Str} {f f2 dp dp2 wd wd2 : Nat} {cl : Bool} {W W2 : List Str} {d d2 : FV}
theorem Ful.up (h : Ful F R kn f dp wd cl W d) (a : f ≤ f2) (b : dp ≤ dp2) (c : wd ≤ wd2) : Ful F R kn f2 dp2 wd2 cl W d := ⟨h.p.up a b c, fun g hg => h.e g (by omega), fun z g hg => h.x z g (by omega), h.ne⟩
theorem FulS.up (h : FulS F R kn f dp wd W d) (a : f ≤ f2) (b : dp ≤ dp2) (c : wd ≤ wd2) : FulS F R kn f2 dp2 wd2 W d := ⟨h.p.up a b c, fun g hg => h.e g (by omega), fun g hg => h.x g (by omega), h.ne⟩
theorem Ful.eq (ok : SgOk F R) (hk : KnOk F kn) {t1 t2 : Tm} {D : Nat} (h1 : t1.gd F kn) (h2 : t2.gd F kn) (d1 : t1.dep ≤ D) (d2 : t2.dep ≤ D) (m : Str) (hm : m = "=" ∨ m = "!=") : Ful F R kn (2 * D + 3) (D + 2) (2 * tw D + 1) false (t1.ws ++ m :: t2.ws) (if m = "=" then .tup [.str "same", t1.fv, t2.fv] else .tup [.str "not", .tup [.str "same", t1.fv, t2.fv]]) := by
  refine ⟨eq_D' ok hk h1 h2 d1 d2 m hm, fun g hg u z hu hz => ?_, (fun z => by cases z), by simp⟩
  have e : (t1.ws ++ m :: t2.ws).dropLast = t1.ws ++ m :: t2.ws.dropLast := by
    rw [List.dropLast_append_of_ne_nil (by simp), List.dropLast_cons_of_ne_nil (ws_ne t2)]
  rw [e] at hu
  obtain ⟨g, rfl⟩ : ∃ k, g = k + 2 := ⟨g - 2, by omega⟩
  obtain ⟨u1, u2, rfl, hu1, hu2⟩ := TX_app hu
  obtain ⟨v, u3, rfl, hv, hu3⟩ := TX_cons hu2
  obtain ⟨x, l, ex, nx, rx⟩ := term_hd ok hk h1
  obtain ⟨y, u4, rfl, hy, hu4⟩ := TX_cons (hu1.trans ex)
  have A := rd_term (R := R) D t1 d1 h1 g (by omega) (y :: u4) (v :: (u3 ++ [z])) hu1
  have B := term_short (R := R) ok hk d2 h2 (g := g) (by omega) hu3 hz
  obtain ⟨rb, rn, _⟩ := res_bind rx
  rw [List.append_assoc]
  show (if y.1 = "not" then _ else if y.1 ∈ (["all", "some"] : List Str) then _ else if y.1 = "(" then _ else if (lookA R y.1).isSome = true then _ else eqnB (rd F R g) kn (y :: u4 ++ (v :: (u3 ++ [z])))) = _
  rw [hy, if_neg rn, if_neg rb, if_neg (nm_br nx), sg_small ok nx, if_neg (by decide)]
  unfold eqnB
  rw [A, bind_ok, withW_c, hv, decide_eq_true (by rcases hm with rfl | rfl <;> decide), tk_t, bind_ok, B, bad_map]
theorem Ful.nt (h : Ful F R kn f dp wd cl W d) : Ful F R kn (f + 1) (dp + 1) (wd + 1) cl ("not" :: W) (.tup [.str "not", d]) := by
  refine ⟨h.p.nt, fun g hg u z hu hz => ?_, fun c g hg u o z hu ho hz => ?_, by simp⟩
  · obtain ⟨g, rfl⟩ : ∃ k, g = k + 1 := ⟨g - 1, by omega⟩
    rw [List.dropLast_cons_of_ne_nil h.ne] at hu
    obtain ⟨v, u2, rfl, hv, hu2⟩ := TX_cons hu
    show (if v.1 = "not" then (tk true (v :: (u2 ++ [z]))).bind (fun _ r => ((rd F R g).simp kn r).map fun p => FV.tup [.str "not", p]) else _) = _
    rw [if_pos hv, tk_t, bind_ok, h.e g (by omega) u2 z hu2 hz, bad_map]
  · obtain ⟨g, rfl⟩ : ∃ k, g = k + 1 := ⟨g - 1, by omega⟩
    obtain ⟨v, u2, rfl, hv, hu2⟩ := TX_cons hu
    show (if v.1 = "not" then (tk true (v :: (u2 ++ [o, z]))).bind (fun _ r => ((rd F R g).simp kn r).map fun p => FV.tup [.str "not", p]) else _) = _
    rw [if_pos hv, tk_t, bind_ok, h.x c g (by omega) u2 o z hu2 ho hz, bad_map]
theorem Ful.bd {b x : Str} (ok : SgOk F R) (hb : b ∈ (["all", "some"] : List Str)) (hx : Nm false x) (hr : x ∉ resS) (hf : lookA F x = none) (h : FulS F R (kn ++ [x]) f dp wd W d) : Ful F R kn (f + 2) (dp + 1) (wd + 3) true (b :: x :: "." :: W) (.tup [.str b, .str x, d]) := by
  have bn : b ≠ "not" := by
    rintro rfl
    revert hb; decide +kernel
  have go : ∀ (g : Nat) (v y z : W3) (r : List W3), v.1 = b → y.1 = x → z.1 = "." → (rd F R (g + 2)).simp kn (v :: y :: z :: r) = ((rd F R g).sent (kn ++ [x]) r).map fun p => FV.tup [.str b, .str x, p] := fun g v y z r hv hy hz => by
    show (if v.1 = "not" then _ else if v.1 ∈ (["all", "some"] : List Str) then boundB F R (rd F R g) kn (v :: y :: z :: r) else _) = _
    rw [hv, if_neg bn, if_pos hb]
    unfold boundB
    rw [tk_t, bind_ok, withW_c, hy, small_B hx hr, hf, sg_small ok hx]
    show ((tk true (y :: z :: r)).bind _) = _
    rw [tk_t, bind_ok, mkk_eq _ hz, bind_ok, hy, hv]
  refine ⟨h.p.bd ok hb hx hr hf, fun g hg u e hu he => ?_, fun _ g hg u o e hu ho he => ?_, by simp⟩
  · obtain ⟨g, rfl⟩ : ∃ k, g = k + 2 := ⟨g - 2, by omega⟩
    rw [List.dropLast_cons_of_ne_nil (by simp), List.dropLast_cons_of_ne_nil (by simp), List.dropLast_cons_of_ne_nil h.ne] at hu
    obtain ⟨v, u2, rfl, hv, hu2⟩ := TX_cons hu
    obtain ⟨y, u3, rfl, hy, hu3⟩ := TX_cons hu2
    obtain ⟨z, u4, rfl, hz, hu4⟩ := TX_cons hu3
    rw [List.cons_append, List.cons_append, List.cons_append, go g v y z _ hv hy hz, h.e g (by omega) u4 e hu4 he, bad_map]
  · obtain ⟨g, rfl⟩ : ∃ k, g = k + 2 := ⟨g - 2, by omega⟩
    obtain ⟨v, u2, rfl, hv, hu2⟩ := TX_cons hu
    obtain ⟨y, u3, rfl, hy, hu3⟩ := TX_cons hu2
    obtain ⟨z, u4, rfl, hz, hu4⟩ := TX_cons hu3
    rw [List.cons_append, List.cons_append, List.cons_append, go g v y z _ hv hy hz, h.x g (by omega) u4 o e hu4 ho he, bad_map]
/-! ### whole texts -/
theorem FulS.short (h : FulS F R kn f dp wd W d) {g : Nat} (l : f ≤ g) {ws : List W3} (hw : TX ws = W.dropLast ++ ([""] : List Str)) : ∃ z, ws.getLast? = some z ∧ z.1 = "" ∧ rdW F R g kn ws = .bad [z] := by
  obtain ⟨u, u2, rfl, hu, hu2⟩ := TX_app hw
  obtain ⟨z, u3, rfl, hz, hu3⟩ := TX_cons hu2
  rw [TX_nil hu3]
  refine ⟨z, by simp, hz, ?_⟩
  unfold rdW
  rw [h.e g l u z hu hz, bad_bind]
end
/-! ### texts of words with gaps -/
structure Jn (B : Nat) (W : List Str) (x : Str) : Prop where
  len : x.length ≤ B
  ex : ∃ ps e, sgs x = jt ps e ∧ Gd2 false ps ∧ Gp e ∧ (ps.map fun q => mk q.2) = W
theorem Jn.last {B : Nat} {W : List Str} {x : Str} (h : Jn B W x) : (sc 1 1 (sgs x)).getLast? = some (P.mk [], (adv (1, 1) (sgs x)).1, (adv (1, 1) (sgs x)).2) := by
  obtain ⟨ps, e, ex, gd, ge, m⟩ := h.ex
  rw [ex]
  refine (congrArg List.getLast? (sc_jt ps false e (1, 1) gd ge)).trans ?_
  rw [List.getLast?_concat]
/-! ### sentences as they are written -/
def sw (D : Nat) : Nat → Nat
  | 0 => 3 * tw D + 6
  | k + 1 => 2 * sw D k + 5
end P
/-! R26: terms and gaps drawn. -/
namespace P
open PySem PySem.Spec PyProof.Rows L2 G
/-! a text of words in the making -/
end P
/-! R27: terms on a stack. -/
namespace P
open PySem PySem.Spec PyProof.Rows L2 G
mutual
def Tm.nn : Tm → Nat
  | .var _ => 1
  | .app _ ts => 2 + Tm.nns ts
def Tm.nns : List Tm → Nat
  | [] => 0
  | t :: ts => t.nn + 1 + Tm.nns ts
end
theorem nn_var (x : Str) : (Tm.var x).nn = 1 := by simp [Tm.nn]
theorem nn_app (f : Str) (ts : List Tm) : (Tm.app f ts).nn = 2 + Tm.nns ts := by simp [Tm.nn]
theorem nns_nil : Tm.nns [] = 0 := by simp [Tm.nns]
theorem nns_cons (t : Tm) (ts : List Tm) : Tm.nns (t :: ts) = t.nn + 1 + Tm.nns ts := by simp [Tm.nns]
/-- all that is on the stack -/
def nnL (ds : List Tm) : Nat := (ds.map Tm.nn).sum
theorem nnL_app (a b : List Tm) : nnL (a ++ b) = nnL a + nnL b := by unfold nnL; rw [List.map_append, List.sum_append]
theorem nnL_one (t : Tm) : nnL [t] = t.nn := by unfold nnL; simp
theorem nnL_len (ds : List Tm) : ds.length ≤ nnL ds := by
  induction ds with
  | nil => exact Nat.zero_le _
  | cons t ds ih =>
    have : 1 ≤ t.nn := by
      cases t with
      | var x => rw [nn_var]; exact Nat.le_refl _
      | app f ts => rw [nn_app]; omega
    unfold nnL at ih ⊢
    rw [List.map_cons, List.sum_cons, List.length_cons]; omega
def nb : Nat → Nat
  | 0 => 1
  | d + 1 => 3 * nb d + 5
theorem while_stop {A β : Type} {t : A → M Bool} {F : A → M (Fl A A)} {fuel : Nat} {a : A} (ht : t a = pur false) : (whileN t F (fuel + 1) a : M (Fl A β)) = pur (.nx a) := by
  rw [whileN, ht, bnd_pur, if_neg Bool.false_ne_true]
theorem while_step {A β : Type} {t : A → M Bool} {F : A → M (Fl A A)} {fuel : Nat} {a a' : A} (ht : t a = pur true) (hF : F a = pur (.nx a')) : (whileN t F (fuel + 1) a : M (Fl A β)) = whileN t F fuel a' := by
  rw [whileN, ht, bnd_pur, if_pos rfl, hF, bnd_pur]
end P
/-! R28: sentences: heads, lengths of texts. -/
namespace P
open PySem PySem.Spec PyProof.Rows L2 G
def Sn.hd : Sn → Str
  | .eq _ _ => "same"
  | .at' _ _ => "holds"
  | .nt _ => "not"
  | .bd b _ _ => b
  | .pr o _ _ => o
def sl : Nat → Nat
  | 0 => 220000
  | k + 1 => 2 * sl k + 50
end P
/-! R29: how long texts are; errors caught. -/
namespace P
open PySem PySem.Spec PyProof.Rows L2 G
theorem same_q (neg : Bool) {d : FV} (pu : d.pure = true) (dp : d.py.depth ≤ 64) : oC (gQ neg) (.v d) (.v d) = pur (!neg) := q_data (fun h => dvl_v pu) (fun h => dvl_v pu) dp FV.py_plain
theorem strs_depth : ∀ l : List Str, PyData.depthAll (FV.pys (l.map .str)) = 0
  | [] => rfl
  | x :: l => by
    rw [List.map_cons, FV.pys]
    simp only [PyData.depthAll, FV.py, PyData.depth, strs_depth l]; rfl
end P
/-! R30: a term read with a stack, and by calls. -/
namespace P
open PySem PySem.Spec PyProof.Rows L2 G
structure Rw where
  ar : Nat
  nm : Str
  xs : List FV
def Agr {α : Type} (x : Res α) (m : Res FV) (k : α → List W3 → Res FV) : Prop := match x with
  | .ok a r => m = k a r
  | .bad z => m = .bad z
  | .no => True
theorem Agr.bind {α β : Type} {x : Res α} {m : Res FV} {k : α → List W3 → Res FV} {f : α → List W3 → Res β} {k' : β → List W3 → Res FV} (h : Agr x m k) (g : ∀ a r, Agr (f a r) (k a r) k') : Agr (x.bind f) m k' := by
  cases x with
  | no => trivial
  | bad z => exact h
  | ok a r =>
    have h : m = k a r := h
    rw [h]; exact g a r
theorem Agr.map {α β : Type} {x : Res α} {m : Res FV} {k : α → List W3 → Res FV} {f : α → β} {k' : β → List W3 → Res FV} (h : Agr x m k) (g : ∀ a r, k a r = k' (f a) r) : Agr (x.map f) m k' := h.bind fun a r => g a r
section
variable {F R : List (Str × Nat)} {kn : List Str}
/-! ### the calls end -/
def cO (ws : List Str) : Nat := ws.countP fun x => decide (x = ("(" : Str))
def cC (ws : List Str) : Nat := ws.countP fun x => decide (x = (")" : Str))
theorem cO_ap (u v : List Str) : cO (u ++ v) = cO u + cO v := List.countP_append
theorem cC_ap (u v : List Str) : cC (u ++ v) = cC u + cC v := List.countP_append
theorem br1 : cO ["("] = 1 ∧ cC ["("] = 0 ∧ cO [")"] = 0 ∧ cC [")"] = 1 := by decide +kernel
/-- no more than D brackets stand open -/
def Bnd (D : Nat) (ws : List Str) : Prop := ∀ p s, ws = p ++ s → cO p ≤ cC p + D
def Stop (F : List (Str × Nat)) (kn : List Str) (x : Str) : Prop := x ∉ kn ∧ lookA F x = none ∧ x ≠ "(" ∧ x ≠ "," ∧ x ≠ ")"
theorem Bnd.no {v : List Str} (h : Bnd 0 (([("(" : Str)] : List Str) ++ v)) : False := by
  have := h [("(" : Str)] v rfl
  have b := br1
  omega
theorem Bnd.mono {D D' : Nat} {v : List Str} (h : Bnd D v) (l : D ≤ D') : Bnd D' v := fun p s e => Nat.le_trans (h p s e) (by omega)
def Nice (x : Str) : Prop := x ≠ "(" ∧ x ≠ ")"
theorem bal1 {x : Str} (h : Nice x) : cO [x] = cC [x] := by
  unfold cO cC
  rw [List.countP_cons, List.countP_cons, decide_eq_false h.1, decide_eq_false h.2]; rfl
end
end P
/-! R31: brackets of words, words spoilt. -/
namespace P
open PySem PySem.Spec PyProof.Rows L2 G
theorem Bnd.app {D : Nat} {u v : List Str} (hu : Bnd D u) (b : cO u = cC u) (hv : Bnd D v) : Bnd D (u ++ v) := fun p s e => by
  rcases List.append_eq_append_iff.mp e with ⟨t, e1, e2⟩ | ⟨t, e1, e2⟩
  · have := hv t s e2
    rw [e1, cO_ap, cC_ap]; omega
  · exact hu p t e1
theorem Bnd.nil (D : Nat) : Bnd D [] := fun p s e => by
  have : p = [] := (List.append_eq_nil_iff.mp e.symm).1
  rw [this]; exact Nat.zero_le _
theorem Bnd.one {x : Str} (h : Nice x) (D : Nat) : Bnd D [x] := fun p s e => by
  cases p with
  | nil => exact Nat.zero_le _
  | cons y p =>
    have e1 : y = x := (List.cons.inj e).1.symm
    have e2 : p = [] := (List.append_eq_nil_iff.mp (List.cons.inj e).2.symm).1
    rw [e1, e2, bal1 h]; omega
theorem Bnd.cut {D : Nat} {A B : List Str} (h : Bnd D (A ++ B)) : Bnd D A := fun p s e => h p (s ++ B) (by rw [e]; simp)
end P
/-! R32: texts of words among which bad signs may stand; the stack machine on words and on what is scanned. -/
namespace P
open PySem PySem.Spec PyProof.Rows L2 G
def pls (ps : List GW) : List (Nat × Nat) := (wsP (1, 1) ps).map (·.2)
/-- a bad sign -/
def BadC (c : Nat) : Prop := isMk c = false ∧ isSg c = false ∧ c ≠ 10 ∧ c ≠ 32
/-- a text with its words and their places, good so far or spoilt by a bad sign -/
def JxG (W : List Str) (pl : List (Nat × Nat)) (t : List Nat) (last : List Nat) : Prop := ∃ ps, t = jt ps [] ∧ Gd2 false ps ∧ (ps.map fun q => mk q.2) = W ∧ pl = pls ps ∧ nmB last = lastB false ps ∧ last ≠ [33]
def JxB (W : List Str) (pl : List (Nat × Nat)) (t : List Nat) (last : List Nat) : Prop := ∃ ps g c T W2 pl2, t = jt ps (g ++ (c :: T)) ∧ Gd2 false ps ∧ Gp g ∧ BadC c ∧ (c = 33 → T.head? ≠ some 61) ∧ (T = [] → c = 33 → last = [33]) ∧ W = (ps.map fun q => mk q.2) ++ mk [c] :: W2 ∧ pl = pls ps ++ adv (1, 1) (jt ps g) :: pl2
/-! ### the machine on words -/
end P
/-! R33: a text of words in the making, bad signs among them, and the places. -/
namespace P
open PySem PySem.Spec PyProof.Rows L2 G
structure Jv (W : List Str) (pl : List (Nat × Nat)) (k : Nat) (text last : Str) : Prop where
  ok : JxG W pl (sgs text) (sgs last) ∨ JxB W pl (sgs text) (sgs last)
  len : text.length ≤ k * 20
theorem Jv.nil : Jv [] [] 0 "" "(" := ⟨.inl ⟨[], by decide +kernel, trivial, rfl, rfl, by decide +kernel, by decide +kernel⟩, by decide +kernel⟩
end P
/-! R34: a stack of rows, told. -/
namespace P
open PySem PySem.Spec PyProof.Rows L2 G
def encR (r : Rw) : List FV := .int r.ar :: .str r.nm :: r.xs
def Rows (x : FH) : List Nat → List Rw → Prop
  | [], [] => True
  | i :: is, r :: rs => x[i]? = some (.lst (encR r)) ∧ Rows x is rs
  | _, _ => False
theorem Rows.len {x : FH} : ∀ {is : List Nat} {rs : List Rw}, Rows x is rs → is.length = rs.length
  | [], [], _ => rfl
  | i :: is, r :: rs, h => congrArg Nat.succ (Rows.len h.2)
  | [], _ :: _, h => h.elim
  | _ :: _, [], h => h.elim
theorem Rows.push {x : FH} {o : FO} : ∀ {is : List Nat} {rs : List Rw}, Rows x is rs → Rows (x ++ [o]) is rs
  | [], [], _ => trivial
  | i :: is, r :: rs, h => ⟨by rw [List.getElem?_append_left (List.getElem?_eq_some_iff.mp h.1).1]; exact h.1, Rows.push h.2⟩
  | [], _ :: _, h => h
  | _ :: _, [], h => h
theorem Rows.put {x : FH} {o : FO} {j : Nat} : ∀ {is : List Nat} {rs : List Rw}, Rows x is rs → j ∉ is → Rows (x.set j o) is rs
  | [], [], _, _ => trivial
  | i :: is, r :: rs, h, hj => ⟨by rw [List.getElem?_set_ne (show j ≠ i from fun e => hj (List.mem_cons.mpr (.inl e)))]; exact h.1, Rows.put h.2 fun z => hj (List.mem_cons_of_mem _ z)⟩
  | [], _ :: _, h, _ => h
  | _ :: _, [], h, _ => h
theorem Rows.lt {x : FH} : ∀ {is : List Nat} {rs : List Rw}, Rows x is rs → ∀ i, i ∈ is → i < x.length
  | [], [], _, _, h => by cases h
  | i :: is, r :: rs, h, j, hj => by
    rcases List.mem_cons.mp hj with rfl | hj
    · exact (List.getElem?_eq_some_iff.mp h.1).1
    · exact Rows.lt h.2 j hj
  | [], _ :: _, h, _, _ => h.elim
  | _ :: _, [], h, _, _ => h.elim
def refs (n : Nat) (is : List Nat) : List FV := is.reverse.map fun i => .ref (n + i)
/-- the stack stands in the heap behind n objects -/
structure Hs (n : Nat) (x : FH) (is : List Nat) (rs : List Rw) : Prop where
  top : x[0]? = some (.lst (refs n is))
  rows : Rows x is rs
  nd : (0 :: is).Nodup
theorem Hs.new (n : Nat) : Hs n [.lst []] [] [] := ⟨rfl, trivial, by simp⟩
theorem get_n {h x : FH} {i : Nat} : (h ++ x)[h.length + i]? = x[i]? := by rw [List.getElem?_append_right (Nat.le_add_right _ _), Nat.add_sub_cancel_left]
section
variable {h x : FH} {is : List Nat} {rs : List Rw}
theorem Hs.pos (H : Hs h.length x is rs) : 0 < x.length := (List.getElem?_eq_some_iff.mp H.top).1
theorem Hs.pop {i : Nat} {r : Rw} (H : Hs h.length x (i :: is) (r :: rs)) : Hs h.length (x.set 0 (FO.lst (refs h.length is))) is rs := by
  have n0 : 0 ∉ i :: is := (List.nodup_cons.mp H.nd).1
  refine ⟨by rw [List.getElem?_set_self H.pos], H.rows.2.put fun z => n0 (List.mem_cons_of_mem _ z), ?_⟩
  rw [List.nodup_cons]
  exact ⟨fun z => n0 (List.mem_cons_of_mem _ z), (List.nodup_cons.mp (List.nodup_cons.mp H.nd).2).2⟩
theorem Hs.row {i : Nat} {r : Rw} (H : Hs h.length x (i :: is) (r :: rs)) : (h ++ x)[h.length + i]? = some (.lst (encR r)) ∧ (h ++ x.set 0 (FO.lst (refs h.length is)))[h.length + i]? = some (.lst (encR r)) := by
  have n0 : 0 ∉ i :: is := (List.nodup_cons.mp H.nd).1
  rw [get_n, get_n, List.getElem?_set_ne (show 0 ≠ i from fun e => n0 (List.mem_cons.mpr (.inl e)))]
  exact ⟨H.rows.1, H.rows.1⟩
end
end P
/-! R35: what is read of a term. -/
namespace P
open PySem PySem.Spec PyProof.Rows L2 G
theorem nm_nice {x : Str} (h : Nm false x) : Nice x := ⟨nm_ne h (c := 40) (l := []) (by decide +kernel) (by decide), nm_ne h (c := 41) (l := []) (by decide +kernel) (by decide)⟩
theorem stops {F : List (Str × Nat)} {kn : List Str} (hF : ∀ x, (lookA F x).isSome = true → Nm false x) (hk : ∀ x, x ∈ kn → Nm false x) : (∀ x, (x ∈ kn ∨ (lookA F x).isSome = true) → Nice x) ∧ Stop F kn "" ∧ ∀ c, BadC c → Stop F kn (P.mk [c]) ∧ P.mk [c] ≠ "" := by
  have st : ∀ x : Str, (Nm false x → False) → x ≠ "(" → x ≠ "," → x ≠ ")" → Stop F kn x := fun x no a b c => by
    refine ⟨fun z => no (hk x z), ?_, a, b, c⟩
    cases e : lookA F x with
    | none => rfl
    | some k => exact (no (hF x (by rw [e]; rfl))).elim
  refine ⟨fun x hx => nm_nice (hx.elim (hk x) (hF x)), st "" (fun h => ?_) (by decide +kernel) (by decide +kernel) (by decide +kernel), fun c bc => ⟨st _ (fun h => ?_) (fun z => ?_) (fun z => ?_) (fun z => ?_), fun z => ?_⟩⟩
  · obtain ⟨c, l, e, _⟩ := h.hd
    rw [show sgs "" = [] by decide +kernel] at e; cases e
  · have := h.sg c (by rw [sgs_mk]; exact List.mem_cons_self)
    rw [bc.2.1] at this; cases this
  · have e := (congrArg sgs z).trans (show sgs "(" = [40] by decide +kernel)
    cases e; exact absurd bc.1 (by decide)
  · have e := (congrArg sgs z).trans (show sgs "," = [44] by decide +kernel)
    cases e; exact absurd bc.1 (by decide)
  · have e := (congrArg sgs z).trans (show sgs ")" = [41] by decide +kernel)
    cases e; exact absurd bc.1 (by decide)
  · have e := (congrArg sgs z).trans (show sgs "" = [] by decide +kernel)
    cases e
end P
/-! R36: names near others. -/
namespace P
open PySem PySem.Spec PyProof.Rows L2 G
end P
/-! R37: the parts of a term in preorder. -/
namespace P
open PySem PySem.Spec PyProof.Rows L2 G
mutual
def Tm.pre : Tm → List Tm
  | .var x => [.var x]
  | .app f ts => .app f ts :: Tm.pres ts
def Tm.pres : List Tm → List Tm
  | [] => []
  | t :: ts => t.pre ++ Tm.pres ts
end
theorem pre_var (x : Str) : (Tm.var x).pre = [.var x] := by simp [Tm.pre]
theorem pre_app (f : Str) (ts : List Tm) : (Tm.app f ts).pre = .app f ts :: Tm.pres ts := by simp [Tm.pre]
theorem pres_nil : Tm.pres [] = [] := by simp [Tm.pres]
theorem pres_cons (t : Tm) (ts : List Tm) : Tm.pres (t :: ts) = t.pre ++ Tm.pres ts := by simp [Tm.pres]
theorem pres_flat : ∀ ts : List Tm, Tm.pres ts = ts.flatMap Tm.pre
  | [] => by rw [pres_nil]; rfl
  | t :: ts => by rw [pres_cons, pres_flat ts, List.flatMap_cons]
def Tm.args : Tm → List Tm
  | .var _ => []
  | .app _ ts => ts
theorem pre_args (t : Tm) : t.pre = t :: t.args.flatMap Tm.pre := by
  cases t with
  | var x => rw [pre_var]; rfl
  | app f ts => rw [pre_app, pres_flat]; rfl
theorem nns_sum : ∀ ts : List Tm, Tm.nns ts = nnL ts + ts.length
  | [] => by rw [nns_nil]; rfl
  | t :: ts => by
    rw [nns_cons, nns_sum ts]
    unfold nnL
    rw [List.map_cons, List.sum_cons, List.length_cons]; omega
theorem nnL_args (t : Tm) : nnL t.args + t.args.length + 1 ≤ t.nn := by
  cases t with
  | var x => rw [nn_var]; exact Nat.le_refl _
  | app f ts =>
    rw [nn_app, nns_sum]
    show nnL ts + ts.length + 1 ≤ _
    omega
theorem nnL_rev (ts : List Tm) : nnL ts.reverse = nnL ts := by
  unfold nnL
  rw [List.map_reverse, List.sum_reverse]
/-- what is still to come of a stack -/
def prL (ds : List Tm) : List Tm := ds.reverse.flatMap Tm.pre
theorem prL_snoc (ds : List Tm) (t : Tm) : prL (ds ++ [t]) = t.pre ++ prL ds := by unfold prL; simp
theorem prL_args (ds : List Tm) (t : Tm) : t :: prL (ds ++ t.args.reverse) = t.pre ++ prL ds := by
  unfold prL
  rw [pre_args, List.reverse_append, List.reverse_reverse, List.flatMap_append]; rfl
theorem pre_len : ∀ (n : Nat) (t : Tm), t.nn ≤ n → t.pre.length ≤ t.nn
  | 0, t, h => by
    have := nnL_args t
    omega
  | n + 1, t, h => by
    have a := nnL_args t
    have go : ∀ us : List Tm, (∀ u, u ∈ us → u.nn ≤ n) → (us.flatMap Tm.pre).length ≤ nnL us := fun us => by
      induction us with
      | nil => intro _; exact Nat.le_refl _
      | cons u us ih =>
        intro hu
        have h1 := pre_len n u (hu u List.mem_cons_self)
        have h2 := ih fun v hv => hu v (List.mem_cons_of_mem _ hv)
        unfold nnL at h2 ⊢
        rw [List.flatMap_cons, List.length_append, List.map_cons, List.sum_cons]; omega
    have mem : ∀ us : List Tm, ∀ u, u ∈ us → u.nn ≤ nnL us := fun us => by
      induction us with
      | nil => intro u hu; cases hu
      | cons w us ih =>
        intro u hu
        unfold nnL at ih ⊢
        rw [List.map_cons, List.sum_cons]
        rcases List.mem_cons.mp hu with rfl | hu
        · omega
        · have := ih u hu; omega
    have := go t.args fun u hu => by have := mem t.args u hu; omega
    rw [pre_args, List.length_cons]; omega
theorem rev_tup (ds : List FV) : oU (gRevS none) (.v (.tup ds)) = pur (.v (.tup ds.reverse)) := lift_ok fun s => rfl
theorem oLu_t (ds : List FV) : oLu (.tup ds) = pur ds := rfl
end P
/-! R38: words with marks: free, bound, binders; a sentence read up to its first fault. -/
namespace P
open PySem PySem.Spec PyProof.Rows L2 G
abbrev Mk := PySem.Str × PySem.Str
/-! ### the first fault -/
def fo {α : Type} (f : Option Nat) (d : α) (u r : List W3) : Res α := match f with
  | none => .ok d r
  | some k => .bad (u.drop k ++ r)
section
variable {F R : List (Str × Nat)} {kn : List Str}
/-! ### terms -/
variable (F)
mutual
def Tm.un : Tm → Prop
  | .var x => Nm false x ∧ x ∉ resS ∧ lookA F x = none
  | .app f ts => lookA F f = some ts.length ∧ Tm.uns ts
def Tm.uns : List Tm → Prop
  | [] => True
  | t :: ts => t.un ∧ Tm.uns ts
end
variable {F}
theorem un_var {x : Str} : (Tm.var x).un F ↔ (Nm false x ∧ x ∉ resS ∧ lookA F x = none) := by simp [Tm.un]
theorem un_app {f : Str} {ts : List Tm} : (Tm.app f ts).un F ↔ lookA F f = some ts.length ∧ ∀ t, t ∈ ts → t.un F := by
  have : ∀ ts : List Tm, Tm.uns F ts ↔ ∀ t, t ∈ ts → t.un F := fun ts => by
    induction ts with
    | nil => simp [Tm.uns]
    | cons t ts ih => simp [Tm.uns, ih]
  simp [Tm.un, this]
/-! ### sentences -/
variable (F R)
def Sn.un (D : Nat) : Sn → Prop
  | .eq a b => a.un F ∧ b.un F ∧ a.dep ≤ D ∧ b.dep ≤ D
  | .at' x ts => lookA R x = some ts.length ∧ ∀ t, t ∈ ts → t.un F ∧ t.dep ≤ D
  | .nt s => s.un D
  | .bd b x s => b ∈ (["all", "some"] : List Str) ∧ (Wk (sgs x) ∧ x.length ≤ 13) ∧ s.un D
  | .pr o a b => o ∈ pairsL ∧ a.un D ∧ b.un D
variable {F R}
end
end P
/-! R39: a sentence read up to its first fault. -/
namespace P
open PySem PySem.Spec PyProof.Rows L2 G
end P
/-! R40: free unknowns, depth, fillings, binders renamed. -/
namespace P
open PySem PySem.Spec PyProof.Rows L2 G
/-! ### each once -/
/-! ### unknowns -/
def isV : Tm → Option Str
  | .var x => some x
  | _ => none
def Tm.vs (t : Tm) : List Str := t.pre.filterMap isV
/-! ### depth -/
/-! ### fillings -/
def hide (σ : Sb) (kb : List Str) : Sb := σ.filter fun p => !decide (p.1 ∈ kb)
mutual
def Tm.fl (σ : Sb) : Tm → Tm
  | .var x => (lookA σ x).getD (.var x)
  | .app f ts => .app f (Tm.fls σ ts)
def Tm.fls (σ : Sb) : List Tm → List Tm
  | [] => []
  | t :: ts => t.fl σ :: Tm.fls σ ts
end
def Sn.fl : Sb → Sn → Sn
  | σ, .eq a b => .eq (a.fl σ) (b.fl σ)
  | σ, .at' x ts => .at' x (ts.map (Tm.fl σ))
  | σ, .nt s => .nt (s.fl σ)
  | σ, .bd b x s => .bd b x (s.fl (hide σ [x]))
  | σ, .pr o a b => .pr o (a.fl σ) (b.fl σ)
/-! ### binders -/
end P
/-! R41: checks that end well or with an error, by the first fault. -/
namespace P
open PySem PySem.Spec PyProof.Rows L2 G
def fE (b : Bool) : Exn := ⟨if b = true then "BadTerm" else "BadSentence", none⟩
/-- m ends at h with a, or with the fault's error -/
def Ck {α : Type} (m : M α) (h : FH) (a : α) (f : Option Bool) : Prop := match f with
  | none => m h = .ok a h
  | some b => ∃ x, m h = .ex (fE b) (h ++ x)
theorem bnd_ex {α β : Type} {m : M α} {k : α → M β} {h h' : FH} {z : Exn} (e : m h = .ex z h') : bnd m k h = .ex z h' := by
  show (m h).bind k = _
  rw [e]; rfl
theorem Ck.pur {α : Type} (a : α) (h : FH) : Ck (P.pur a) h a none := rfl
theorem Ck.bnd {α β : Type} {m : M α} {k : α → M β} {h : FH} {a : α} {b : β} {f g : Option Bool} (c : Ck m h a f) (d : f = none → Ck (k a) h b g) : Ck (P.bnd m k) h b (f.or g) := by
  cases f with
  | none =>
    have d := d rfl
    have e : P.bnd m k h = k a h := bnd_ok c
    rw [Option.none_or]
    cases g with
    | none => exact e.trans d
    | some q =>
      obtain ⟨x, d⟩ := d
      exact ⟨x, e.trans d⟩
  | some q =>
    obtain ⟨x, c⟩ := c
    exact ⟨x, bnd_ex c⟩
/-- a step that only reads, first -/
theorem Ck.run {α β : Type} {m : M α} {k : α → M β} {h : FH} {a : α} {b : β} {f : Option Bool} (e : m h = .ok a h) (d : Ck (k a) h b f) : Ck (P.bnd m k) h b f := by
  have := Ck.bnd (f := none) (show Ck m h a none from e) fun _ => d
  rwa [Option.none_or] at this
/-- the whole of a method, that laid some things aside -/
theorem Ck.gc {m : M RV} {h : FH} {y : FH} {f : Option Bool} (lo : LowH h) (e : match f with | none => m h = .ok (.v .non) (h ++ y) | some b => ∃ x, m h = .ex (fE b) (h ++ x)) : Ck (gcM m) h (.v .non) f := by
  cases f with
  | none => exact gc_val e lo rfl fun i z => by cases z
  | some b =>
    obtain ⟨x, e⟩ := e
    refine ⟨x, ?_⟩
    unfold gcM
    rw [e]
/-! ### the first fault's sort -/
/-! ### fillings are still sentences -/
section
variable {F R : List (Str × Nat)}
theorem gd_unT {kn : List Str} (hk : KnOk F kn) : ∀ (d : Nat) (t : Tm), t.dep ≤ d → t.gd F kn → t.un F
  | d, .var x, _, h => un_var.mpr (hk x (gd_var.mp h))
  | 0, .app f ts, h, _ => by rw [dep_app] at h; omega
  | d + 1, .app f ts, h, g => by
    rw [dep_app] at h
    obtain ⟨g1, g2, g3⟩ := gd_app.mp g
    exact un_app.mpr ⟨g1, fun t ht => gd_unT hk d t (by have := deps_mem ht; omega) (g3 t ht)⟩
end
end P
/-! R42: some of a list, drawn. -/
namespace P
open PySem PySem.Spec PyProof.Rows L2 G
end P
/-! R43: what the reader reads is data. -/
namespace P
open PySem PySem.Spec PyProof.Rows L2 G
end P
/-! R44: what the reader leaves is an end of what it was given. -/
namespace P
open PySem PySem.Spec PyProof.Rows L2 G
def Sf {α : Type} (x : Res α) (ws : List W3) : Prop := match x with
  | .ok _ r => r <:+ ws
  | .bad r => r <:+ ws
  | .no => True
theorem Sf.bind {α β : Type} {x : Res α} {ws : List W3} {k : α → List W3 → Res β} (h : Sf x ws) (hk : ∀ a r, Sf (k a r) r) : Sf (x.bind k) ws := by
  cases x with
  | no => trivial
  | bad r => exact h
  | ok a r =>
    have h : r <:+ ws := h
    have := hk a r
    show Sf (k a r) ws
    cases e : k a r with
    | no => trivial
    | bad r2 => rw [e] at this; exact List.IsSuffix.trans this h
    | ok b r2 => rw [e] at this; exact List.IsSuffix.trans this h
theorem Sf.map {α β : Type} {x : Res α} {ws : List W3} {k : α → β} (h : Sf x ws) : Sf (x.map k) ws := by
  cases x with
  | no => trivial
  | bad r => exact h
  | ok a r => exact h
theorem Sf.withW {α : Type} {ws : List W3} {k : PySem.Str → Res α} (h : ∀ w r, ws = w :: r → Sf (k w.1) ws) : Sf (withW ws k) ws := by
  cases ws with
  | nil => trivial
  | cons w r => exact h w r rfl
theorem sf_tk (b : Bool) (ws : List W3) : Sf (tk b ws) ws := by
  cases ws with
  | nil => trivial
  | cons w r =>
    cases b with
    | true => exact List.suffix_cons w r
    | false => exact List.suffix_refl _
theorem sf_mkk (m : PySem.Str) (ws : List W3) : Sf (mkk m ws) ws := Sf.withW fun w r e => sf_tk _ ws
theorem sf_many {tm : List W3 → Res FV} (h : ∀ ws, Sf (tm ws) ws) : ∀ (ms : List PySem.Str) (ws : List W3), Sf (many tm ms ws) ws
  | [], ws => List.suffix_refl ws
  | m :: ms, ws => by
    rw [many]
    exact (sf_mkk m ws).bind fun _ r => (h r).bind fun x r2 => (sf_many h ms r2).map
theorem sf_row {sm : List W3 → Res FV} (h : ∀ ws, Sf (sm ws) ws) : ∀ (g : Nat) (ws : List W3), Sf (row sm g ws) ws
  | 0, ws => trivial
  | g + 1, ws => by
    rw [row]
    refine Sf.withW fun w r e => ?_
    split
    · exact (sf_tk true ws).bind fun l r => (h r).bind fun p r2 => (sf_row h g r2).map
    · exact List.suffix_refl ws
structure RdS (q : Rd) : Prop where
  term : ∀ kn ws, Sf (q.term kn ws) ws
  args : ∀ nm kn ws, Sf (q.args nm kn ws) ws
  sent : ∀ kn ws, Sf (q.sent kn ws) ws
  simp : ∀ kn ws, Sf (q.simp kn ws) ws
  bound : ∀ kn ws, Sf (q.bound kn ws) ws
  eqn : ∀ kn ws, Sf (q.eqn kn ws) ws
theorem rd_S (F R : List (PySem.Str × Nat)) : ∀ f, RdS (rd F R f)
  | 0 => ⟨fun _ _ => trivial, fun _ _ _ => trivial, fun _ _ => trivial, fun _ _ => trivial, fun _ _ => trivial, fun _ _ => trivial⟩
  | f + 1 => by
    have I := rd_S F R f
    refine ⟨fun kn ws => ?_, fun nm kn ws => ?_, fun kn ws => ?_, fun kn ws => ?_, fun kn ws => ?_, fun kn ws => ?_⟩
    · show Sf (termB F (rd F R f) kn ws) ws
      unfold termB
      refine Sf.withW fun w r e => ?_
      split
      · exact (sf_tk true ws).map
      · exact (sf_tk _ ws).bind fun nm r => (I.args nm kn r).map
    · show Sf (argsB F R (rd F R f) nm kn ws) ws
      unfold argsB
      split
      · trivial
      · exact List.suffix_refl ws
      · exact (sf_many (fun ws => I.term kn ws) _ ws).bind fun xs r => (sf_mkk ")" r).map
    · exact (I.simp kn ws).bind fun p r => (sf_row (fun ws => I.simp kn ws) _ r).map
    · show Sf (simpB R (rd F R f) kn ws) ws
      unfold simpB
      refine Sf.withW fun w r e => ?_
      split
      · exact (sf_tk true ws).bind fun _ r => (I.simp kn r).map
      split
      · exact I.bound kn ws
      split
      · exact (sf_tk true ws).bind fun _ r => (I.sent kn r).bind fun p r2 => (sf_mkk ")" r2).map
      split
      · exact (sf_tk true ws).bind fun _ r => (I.args _ kn r).map
      · exact I.eqn kn ws
    · exact (sf_tk true ws).bind fun b r => Sf.withW fun w t e => (sf_tk _ r).bind fun nm r2 => (sf_mkk "." r2).bind fun _ r3 => (I.sent _ r3).map
    · exact (I.term kn ws).bind fun l r => Sf.withW fun w t e => (sf_tk _ r).bind fun m r2 => (I.term kn r2).map
end P
/-! R45: what is read hangs on the words up to one that is never taken. -/
namespace P
open PySem PySem.Spec PyProof.Rows L2 G
section
variable (t t' : List W3)
def RlR {α : Type} (x x' : Res α) : Prop := match x, x' with
  | .no, .no => True
  | .bad r, .bad r' => ∃ v v', TX v = TX v' ∧ r = v ++ t ∧ r' = v' ++ t'
  | .ok a r, .ok b r' => a = b ∧ ∃ v v', TX v = TX v' ∧ r = v ++ t ∧ r' = v' ++ t'
  | _, _ => False
end
section
variable {t t' : List W3}
theorem RlR.bind {α β : Type} {x x' : Res α} {k : α → List W3 → Res β} (h : RlR t t' x x') (hk : ∀ a v v', TX v = TX v' → RlR t t' (k a (v ++ t)) (k a (v' ++ t'))) : RlR t t' (x.bind k) (x'.bind k) := by
  cases x <;> cases x'
  · obtain ⟨rfl, v, v', e, rfl, rfl⟩ := h
    exact hk _ v v' e
  · exact h.elim
  · exact h.elim
  · exact h.elim
  · exact h
  · exact h.elim
  · exact h.elim
  · exact h.elim
  · trivial
theorem RlR.map {α β : Type} {x x' : Res α} {k : α → β} (h : RlR t t' x x') : RlR t t' (x.map k) (x'.map k) := by
  cases x <;> cases x'
  · obtain ⟨rfl, h⟩ := h
    exact ⟨rfl, h⟩
  · exact h.elim
  · exact h.elim
  · exact h.elim
  · exact h
  · exact h.elim
  · exact h.elim
  · exact h.elim
  · trivial
variable {b b' : W3} {y y' : List W3} (ht : t = b :: y) (ht' : t' = b' :: y') (eb : b.1 = b'.1)
include ht ht' eb
end
end P
/-! R46: how deep the reader goes: a stack of brackets, nots and quantifiers. -/
namespace P
open PySem PySem.Spec PyProof.Rows L2 G
inductive En where
  | b | n | q
  deriving DecidableEq
def En.wt : En → Nat
  | .b => 2
  | .n => 1
  | .q => 3
def hgt (S : List En) : Nat := (S.map En.wt).sum
def dropN : List En → List En
  | .n :: S => dropN S
  | S => S
def dropB : List En → Option (List En)
  | [] => none
  | .b :: S => some S
  | _ :: S => dropB S
def stepE (S : List En) (w : PySem.Str) : Option (List En) :=
  if w = "(" then some (.b :: S)
  else if w = "not" then some (.n :: S)
  else if w ∈ (["all", "some"] : List PySem.Str) then some (.q :: S)
  else if w ∈ pairsL then some (dropN S)
  else if w = ")" then dropB S
  else some S
def Fit (M : Nat) : List En → List W3 → Prop
  | S, [] => hgt S ≤ M
  | S, w :: ws => hgt S ≤ M ∧ match stepE S w.1 with
    | none => True
    | some S' => Fit M S' ws
theorem Fit.le {M : Nat} {S : List En} {ws : List W3} (h : Fit M S ws) : hgt S ≤ M := by
  cases ws with
  | nil => exact h
  | cons w ws => exact h.1
theorem Fit.go {M : Nat} {S S' : List En} {w : W3} {ws : List W3} (h : Fit M S (w :: ws)) (e : stepE S w.1 = some S') : Fit M S' ws := by
  have := h.2
  rw [e] at this
  exact this
def NQ (X : List En) : Prop := ∀ x, x ∈ X → x ≠ .b
def Ns (X : List En) : Prop := ∀ x, x ∈ X → x = .n
section
variable (b : W3)
def Out {α : Type} (x : Res α) (Q : List W3 → Prop) : Prop := match x with
  | .no => False
  | .bad _ => True
  | .ok _ r => ∃ v, r = v ++ [b] ∧ Q v
end
section
variable {b : W3}
theorem Out.bind {α β : Type} {x : Res α} {k : α → List W3 → Res β} {Q R : List W3 → Prop} (h : Out b x Q) (hk : ∀ a v, Q v → Out b (k a (v ++ [b])) R) : Out b (x.bind k) R := by
  cases x with
  | no => exact h.elim
  | bad r => trivial
  | ok a r =>
    obtain ⟨v, rfl, q⟩ := h
    exact hk a v q
theorem Out.map {α β : Type} {x : Res α} {k : α → β} {Q : List W3 → Prop} (h : Out b x Q) : Out b (x.map k) Q := by
  cases x with
  | no => exact h.elim
  | bad r => trivial
  | ok a r => exact h
theorem Out.mono {α : Type} {x : Res α} {Q R : List W3 → Prop} (h : Out b x Q) (k : ∀ v, Q v → R v) : Out b x R := by
  cases x with
  | no => exact h.elim
  | bad r => trivial
  | ok a r =>
    obtain ⟨v, e, q⟩ := h
    exact ⟨v, e, k v q⟩
variable {M : Nat} {F R : List (PySem.Str × Nat)}
theorem cap_nres {x : PySem.Str} (h : Nm true x) : x ∉ resS := fun z => by
  obtain ⟨c, l, e, hc⟩ := h.hd
  rw [if_pos rfl] at hc
  have : ∀ y, y ∈ resS → ∃ c l, sgs y = c :: l ∧ 97 ≤ c := by
    intro y hy
    have : ∀ y, y ∈ resS → (match sgs y with | c :: _ => decide (97 ≤ c) | [] => false) = true := by decide +kernel
    have := this y hy
    cases q : sgs y with
    | nil => rw [q] at this; cases this
    | cons c l =>
      rw [q] at this
      exact ⟨c, l, rfl, of_decide_eq_true this⟩
  obtain ⟨c', l', e', h'⟩ := this x z
  rw [e] at e'
  obtain ⟨rfl, _⟩ := List.cons.inj e'
  omega
end
end P
/-! R47: how high the stack gets over pieces of words. -/
namespace P
open PySem PySem.Spec PyProof.Rows L2 G
/-- heights over words; H bounds them -/
def FitS (M : Nat) : List En → List PySem.Str → Prop
  | S, [] => hgt S ≤ M
  | S, w :: ws => hgt S ≤ M ∧ match stepE S w with
    | none => True
    | some S' => FitS M S' ws
theorem FitS.le {M : Nat} {S : List En} {ws : List PySem.Str} (h : FitS M S ws) : hgt S ≤ M := by
  cases ws with
  | nil => exact h
  | cons w ws => exact h.1
theorem FitS.up {M M' : Nat} (l : M ≤ M') : ∀ (ws : List PySem.Str) (S : List En), FitS M S ws → FitS M' S ws
  | [], S, h => Nat.le_trans h l
  | w :: ws, S, h => by
    have h : hgt S ≤ M ∧ _ := h
    refine ⟨Nat.le_trans h.1 l, ?_⟩
    have h2 := h.2
    cases e : stepE S w with
    | none => trivial
    | some S' =>
      rw [e] at h2
      exact FitS.up l ws S' h2
/-- the run goes through, to S' -/
def Rn : List En → List PySem.Str → List En → Prop
  | S, [], S' => S = S'
  | S, w :: ws, S' => ∃ S1, stepE S w = some S1 ∧ Rn S1 ws S'
theorem Rn.app : ∀ {a b : List PySem.Str} {S S1 S2 : List En}, Rn S a S1 → Rn S1 b S2 → Rn S (a ++ b) S2
  | [], b, S, S1, S2, h, k => by
    have h : S = S1 := h
    rw [h]; exact k
  | w :: a, b, S, S1, S2, ⟨S3, e, h⟩, k => ⟨S3, e, Rn.app h k⟩
theorem Rn.split : ∀ {a b : List PySem.Str} {S S2 : List En}, Rn S (a ++ b) S2 → ∃ S1, Rn S a S1 ∧ Rn S1 b S2
  | [], b, S, S2, h => ⟨S, rfl, h⟩
  | w :: a, b, S, S2, ⟨S3, e, h⟩ => by
    obtain ⟨S1, h1, h2⟩ := Rn.split (a := a) h
    exact ⟨S1, ⟨S3, e, h1⟩, h2⟩
theorem fit_split {M : Nat} : ∀ (a b : List PySem.Str) (S S1 : List En), FitS M S (a ++ b) → Rn S a S1 → FitS M S1 b
  | [], b, S, S1, h, r => by
    have r : S = S1 := r
    rw [← r]; exact h
  | w :: a, b, S, S1, h, ⟨S3, e, r⟩ => by
    have h2 := (show hgt S ≤ M ∧ _ from h).2
    rw [e] at h2
    exact fit_split a b S3 S1 h2 r
/-- up to a's end, then on -/
theorem fit_app {M : Nat} : ∀ (a b : List PySem.Str) (S : List En), FitS M S a → (∀ S1, Rn S a S1 → FitS M S1 b) → FitS M S (a ++ b)
  | [], b, S, h, k => k S rfl
  | w :: a, b, S, h, k => by
    have h : hgt S ≤ M ∧ _ := h
    refine ⟨h.1, ?_⟩
    have h2 := h.2
    cases e : stepE S w with
    | none => trivial
    | some S' =>
      rw [e] at h2
      exact fit_app a b S' h2 fun S1 r => k S1 ⟨S', e, r⟩
theorem fit_pre {M : Nat} : ∀ (a b : List PySem.Str) (S : List En), FitS M S (a ++ b) → FitS M S a
  | [], b, S, h => h.le
  | w :: a, b, S, h => by
    have h : hgt S ≤ M ∧ _ := h
    refine ⟨h.1, ?_⟩
    have h2 := h.2
    cases e : stepE S w with
    | none => trivial
    | some S' =>
      rw [e] at h2
      exact fit_pre a b S' h2
theorem hgt_app (a b : List En) : hgt (a ++ b) = hgt a + hgt b := by
  unfold hgt
  rw [List.map_append, List.sum_append]
theorem hgt_dropN : ∀ S : List En, hgt (dropN S) ≤ hgt S
  | [] => Nat.le_refl _
  | .n :: S => by
    have := hgt_dropN S
    show hgt (dropN S) ≤ hgt ([.n] ++ S)
    rw [hgt_app]; omega
  | .b :: S => Nat.le_refl _
  | .q :: S => Nat.le_refl _
theorem hgt_dropB : ∀ {S S' : List En}, dropB S = some S' → hgt S' ≤ hgt S
  | [], S', e => by cases e
  | .b :: S, S', e => by
    cases e
    show _ ≤ hgt ([.b] ++ S)
    rw [hgt_app]; omega
  | .n :: S, S', e => by
    have := hgt_dropB (S := S) e
    show _ ≤ hgt ([.n] ++ S)
    rw [hgt_app]; omega
  | .q :: S, S', e => by
    have := hgt_dropB (S := S) e
    show _ ≤ hgt ([.q] ++ S)
    rw [hgt_app]; omega
theorem dropN_app : ∀ Y S : List En, (dropN (Y ++ S) = dropN S ∧ Ns Y) ∨ (dropN (Y ++ S) = dropN Y ++ S)
  | [], S => .inl ⟨rfl, fun x hx => by cases hx⟩
  | .n :: Y, S => by
    rcases dropN_app Y S with ⟨h1, h2⟩ | h
    · exact .inl ⟨h1, fun x hx => by
        rcases List.mem_cons.mp hx with rfl | hx
        · rfl
        · exact h2 x hx⟩
    · exact .inr h
  | .b :: Y, S => .inr rfl
  | .q :: Y, S => .inr rfl
theorem dropB_app : ∀ Y S : List En, (dropB (Y ++ S) = dropB S ∧ dropB Y = none) ∨ (∃ Y', dropB Y = some Y' ∧ dropB (Y ++ S) = some (Y' ++ S))
  | [], S => .inl ⟨rfl, rfl⟩
  | .b :: Y, S => .inr ⟨Y, rfl, rfl⟩
  | .n :: Y, S => dropB_app Y S
  | .q :: Y, S => dropB_app Y S
theorem dropN_all : ∀ {Y S : List En}, Ns Y → dropN (Y ++ S) = dropN S
  | [], S, _ => rfl
  | y :: Y, S, h => by
    rw [h y List.mem_cons_self]
    exact dropN_all (Y := Y) fun x hx => h x (List.mem_cons_of_mem _ hx)
/-- a step either pushes, drops nots, closes, or does nothing -/
theorem step_cases (w : PySem.Str) : (∃ x : En, ∀ S, stepE S w = some (x :: S)) ∨ (∀ S, stepE S w = some (dropN S)) ∨ (∀ S, stepE S w = dropB S) ∨ (∀ S, stepE S w = some S) := by
  unfold stepE
  by_cases h1 : w = "("
  · exact .inl ⟨.b, fun S => if_pos h1⟩
  by_cases h2 : w = "not"
  · exact .inl ⟨.n, fun S => by rw [if_neg h1, if_pos h2]⟩
  by_cases h3 : w ∈ (["all", "some"] : List PySem.Str)
  · exact .inl ⟨.q, fun S => by rw [if_neg h1, if_neg h2, if_pos h3]⟩
  by_cases h4 : w ∈ pairsL
  · exact .inr (.inl fun S => by rw [if_neg h1, if_neg h2, if_neg h3, if_pos h4])
  by_cases h5 : w = ")"
  · exact .inr (.inr (.inl fun S => by rw [if_neg h1, if_neg h2, if_neg h3, if_neg h4, if_pos h5]))
  · exact .inr (.inr (.inr fun S => by rw [if_neg h1, if_neg h2, if_neg h3, if_neg h4, if_neg h5]))
/-- what a piece of words adds does not hang on what lies below -/
theorem win {H h0 : Nat} : ∀ (ws : List PySem.Str) (Y S1 S0 S2 : List En), FitS H (Y ++ S1) ws → Rn (Y ++ S1) ws S2 → hgt S0 ≤ h0 → FitS (h0 + H) (Y ++ S0) ws
  | [], Y, S1, S0, S2, f, _, l => by
    have f : hgt (Y ++ S1) ≤ H := f
    show hgt (Y ++ S0) ≤ h0 + H
    rw [hgt_app] at f ⊢
    omega
  | w :: ws, Y, S1, S0, S2, f, ⟨S3, e, r⟩, l => by
    have f : hgt (Y ++ S1) ≤ H ∧ _ := f
    have f2 := f.2
    rw [e] at f2
    have f2 : FitS H S3 ws := f2
    refine ⟨by have := f.1; rw [hgt_app] at this ⊢; omega, ?_⟩
    rcases step_cases w with ⟨x, hs⟩ | hs | hs | hs
    · rw [hs] at e ⊢
      have e := Option.some.inj e
      subst e
      exact win ws (x :: Y) S1 S0 S2 f2 r l
    · rw [hs] at e ⊢
      have e := Option.some.inj e
      subst e
      by_cases ns : Ns Y
      · rw [dropN_all ns] at f2 r ⊢
        have := hgt_dropN S0
        exact win ws [] (dropN S1) (dropN S0) S2 f2 r (by omega)
      · have h1 : dropN (Y ++ S1) = dropN Y ++ S1 := (dropN_app Y S1).resolve_left fun z => ns z.2
        have h3 : dropN (Y ++ S0) = dropN Y ++ S0 := (dropN_app Y S0).resolve_left fun z => ns z.2
        rw [h1] at f2 r
        rw [h3]
        exact win ws (dropN Y) S1 S0 S2 f2 r l
    · rw [hs] at e ⊢
      rcases dropB_app Y S1 with ⟨h1, h2⟩ | ⟨Y', h1, h2⟩
      · have h3 : dropB (Y ++ S0) = dropB S0 := by
          rcases dropB_app Y S0 with ⟨h, _⟩ | ⟨Y', h, _⟩
          · exact h
          · rw [h2] at h; cases h
        rw [h3]
        cases q : dropB S0 with
        | none => trivial
        | some S0' =>
          have := hgt_dropB q
          exact win ws [] S3 S0' S2 f2 r (by omega)
      · have h3 : dropB (Y ++ S0) = some (Y' ++ S0) := by
          rcases dropB_app Y S0 with ⟨_, h⟩ | ⟨Y2, h, h4⟩
          · rw [h1] at h; cases h
          · rw [h1] at h
            cases h
            exact h4
        rw [h3]
        rw [h2] at e
        have e := Option.some.inj e
        subst e
        exact win ws Y' S1 S0 S2 f2 r l
    · rw [hs] at e ⊢
      have e := Option.some.inj e
      subst e
      exact win ws Y S1 S0 S2 f2 r l
end P
/-! R48: how high the stack gets over the words of a sentence. -/
namespace P
open PySem PySem.Spec PyProof.Rows L2 G
/-- over these words the stack gets at most H higher; what is left of them are nots and quantifiers, nots alone if they are not open -/
def Hw (op : Bool) (H : Nat) (W : List PySem.Str) : Prop := ∀ (S : List En) (M : Nat), hgt S + H ≤ M → FitS M S W ∧ ∃ X, NQ X ∧ (op = false → Ns X) ∧ Rn S W (X ++ S)
/-- .. and nothing is left -/
def Hx (H : Nat) (W : List PySem.Str) : Prop := ∀ (S : List En) (M : Nat), hgt S + H ≤ M → FitS M S W ∧ Rn S W S
theorem Hx.up {H H' : Nat} {W : List PySem.Str} (h : Hx H W) (l : H ≤ H') : Hx H' W := fun S M l2 => h S M (by omega)
theorem Hw.up {op : Bool} {H H' : Nat} {W : List PySem.Str} (h : Hw op H W) (l : H ≤ H') : Hw op H' W := fun S M l2 => h S M (by omega)
/-- behind a bracket -/
def HwB (H : Nat) (W : List PySem.Str) : Prop := ∀ (S : List En) (M : Nat), hgt (.b :: S) + H ≤ M → FitS M (.b :: S) W ∧ ∃ X, NQ X ∧ Rn (.b :: S) W (X ++ .b :: S)
theorem Hw.b {op : Bool} {H : Nat} {W : List PySem.Str} (h : Hw op H W) : HwB H W := fun S M l => by
  obtain ⟨f, X, nq, _, r⟩ := h (.b :: S) M l
  exact ⟨f, X, nq, r⟩
/-! ### terms -/
end P
/-! R49: a sentence's text read, and its words read by the law. -/
namespace P
open PySem PySem.Spec PyProof.Rows L2 G
end P
/-! R50: words made of windows of good words and of words of one's own. -/
namespace P
open PySem PySem.Spec PyProof.Rows L2 G
/-- a piece of words that stay within H -/
def Win (H : Nat) (c : List PySem.Str) : Prop := ∃ a b S2, FitS H [] (a ++ (c ++ b)) ∧ Rn [] (a ++ (c ++ b)) S2
theorem Win.left {H : Nat} {c d : List PySem.Str} (h : Win H (c ++ d)) : Win H c := by
  obtain ⟨a, b, S2, f, r⟩ := h
  refine ⟨a, d ++ b, S2, ?_, ?_⟩
  · rw [← List.append_assoc c]; exact f
  · rw [← List.append_assoc c]; exact r
theorem Win.right {H : Nat} {c d : List PySem.Str} (h : Win H (c ++ d)) : Win H d := by
  obtain ⟨a, b, S2, f, r⟩ := h
  refine ⟨a ++ c, b, S2, ?_, ?_⟩
  · rw [List.append_assoc, ← List.append_assoc c]; exact f
  · rw [List.append_assoc, ← List.append_assoc c]; exact r
theorem Win.fit {H : Nat} {c : List PySem.Str} (h : Win H c) {S0 : List En} {h0 : Nat} (l : hgt S0 ≤ h0) : FitS (h0 + H) S0 c := by
  obtain ⟨a, b, S2, f, r⟩ := h
  obtain ⟨Sa, ra, r2⟩ := r.split
  obtain ⟨Sc, rc, _⟩ := r2.split
  have f2 := fit_pre c b Sa (fit_split a (c ++ b) [] Sa f ra)
  have := win (h0 := h0) c [] Sa S0 Sc (by rw [List.nil_append]; exact f2) (by rw [List.nil_append]; exact rc) l
  rwa [List.nil_append] at this
inductive Mix (H : Nat) : Nat → Nat → List PySem.Str → Prop
  | nil : Mix H 0 0 []
  | tok {n j x : Nat} {w : PySem.Str} {W : List PySem.Str} : (∀ S S', stepE S w = some S' → hgt S' ≤ hgt S + x) → Mix H n j W → Mix H (n + x) j (w :: W)
  | win {n j : Nat} {c W : List PySem.Str} : Win H c → Mix H n j W → Mix H n (j + 1) (c ++ W)
theorem Mix.fit {H n j : Nat} {W : List PySem.Str} (m : Mix H n j W) : ∀ {S0 : List En} {h0 : Nat}, hgt S0 ≤ h0 → FitS (h0 + n + j * H) S0 W := by
  induction m with
  | nil =>
    intro S0 h0 l
    show hgt S0 ≤ _
    omega
  | @tok n j x w W hx _ ih =>
    intro S0 h0 l
    refine ⟨by omega, ?_⟩
    cases e : stepE S0 w with
    | none => trivial
    | some S' =>
      have := hx S0 S' e
      have := ih (S0 := S') (h0 := h0 + x) (by omega)
      exact FitS.up (by omega) W S' this
  | @win n j c W hw _ ih =>
    intro S0 h0 l
    have f := hw.fit l
    have e : (j + 1) * H = j * H + H := Nat.succ_mul j H
    refine fit_app c W S0 (FitS.up (by omega) c S0 f) fun S1 r => ?_
    have h1 : hgt S1 ≤ h0 + H := by
      have := fit_split c [] S0 S1 (by rw [List.append_nil]; exact f) r
      exact this
    exact FitS.up (by omega) W S1 (ih h1)
theorem Mix.app {H n1 j1 n2 j2 : Nat} {a b : List PySem.Str} (h1 : Mix H n1 j1 a) (h2 : Mix H n2 j2 b) : Mix H (n2 + n1) (j2 + j1) (a ++ b) := by
  induction h1 with
  | nil => exact h2
  | @tok n j x w W hx _ ih =>
    have := Mix.tok hx ih
    rwa [Nat.add_assoc] at this
  | @win n j c W hw _ ih =>
    have := Mix.win hw ih
    rw [List.append_assoc]
    exact this
theorem Mix.drop {H n j : Nat} {W : List PySem.Str} (m : Mix H n j W) : ∀ a b : List PySem.Str, W = a ++ b → ∃ n' j', n' ≤ n ∧ j' ≤ j ∧ Mix H n' j' b := by
  induction m with
  | nil =>
    intro a b e
    obtain ⟨_, rfl⟩ := List.append_eq_nil_iff.mp e.symm
    exact ⟨0, 0, Nat.le_refl _, Nat.le_refl _, .nil⟩
  | @tok n j x w W hx m ih =>
    intro a b e
    cases a with
    | nil =>
      have e : w :: W = b := e
      rw [← e]
      exact ⟨n + x, j, Nat.le_refl _, Nat.le_refl _, .tok hx m⟩
    | cons y a =>
      obtain ⟨_, e⟩ := List.cons.inj e
      obtain ⟨n', j', h1, h2, h3⟩ := ih a b e
      exact ⟨n', j', by omega, h2, h3⟩
  | @win n j c W hw m ih =>
    intro a b e
    rcases List.append_eq_append_iff.mp e with ⟨d, e1, e2⟩ | ⟨d, e1, e2⟩
    · obtain ⟨n', j', h1, h2, h3⟩ := ih d b e2
      exact ⟨n', j', h1, by omega, h3⟩
    · rw [e2]
      rw [e1] at hw
      exact ⟨n, j + 1, Nat.le_refl _, Nat.le_refl _, .win hw.right m⟩
theorem Mix.split {H n j : Nat} {W : List PySem.Str} (m : Mix H n j W) : ∀ a b : List PySem.Str, W = a ++ b → ∃ n1 j1 n2 j2, Mix H n1 j1 a ∧ Mix H n2 j2 b ∧ n1 + n2 ≤ n ∧ j1 + j2 ≤ j + 1 := by
  induction m with
  | nil =>
    intro a b e
    obtain ⟨rfl, rfl⟩ := List.append_eq_nil_iff.mp e.symm
    exact ⟨0, 0, 0, 0, .nil, .nil, Nat.le_refl _, by omega⟩
  | @tok n j x w W hx m ih =>
    intro a b e
    cases a with
    | nil =>
      have e : w :: W = b := e
      rw [← e]
      exact ⟨0, 0, n + x, j, .nil, .tok hx m, by omega, by omega⟩
    | cons y a =>
      obtain ⟨ew, e'⟩ := List.cons.inj e
      subst ew
      obtain ⟨n1, j1, n2, j2, h1, h2, h3, h4⟩ := ih a b e'
      exact ⟨n1 + x, j1, n2, j2, .tok hx h1, h2, by omega, h4⟩
  | @win n j c W hw m ih =>
    intro a b e
    rcases List.append_eq_append_iff.mp e with ⟨d, e1, e2⟩ | ⟨d, e1, e2⟩
    · obtain ⟨n1, j1, n2, j2, h1, h2, h3, h4⟩ := ih d b e2
      rw [e1]
      exact ⟨n1, j1 + 1, n2, j2, .win hw h1, h2, h3, by omega⟩
    · rw [e1] at hw
      have ma : Mix H 0 1 a := by
        have := Mix.win (W := []) hw.left Mix.nil
        rwa [List.append_nil] at this
      rw [e2]
      exact ⟨0, 1, n, j + 1, ma, .win hw.right m, by omega, by omega⟩
end P
/-! R51: what is read of a text is what is read of its words. -/
namespace P
open PySem PySem.Spec PyProof.Rows L2 G
end P
/-! R52: how deep the brackets of terms and atoms nest (a bracket right behind a name with places); what spoiling does to it. -/
namespace P
open PySem PySem.Spec PyProof.Rows L2 G
section
variable (F R : List (PySem.Str × Nat))
def nsg : Nat → Bool → List PySem.Str → Nat
  | k, _, [] => k
  | k, b, w :: ws => max k (if w = "(" then nsg (if b = true then k + 1 else k) false ws else if w = ")" then nsg (k - 1) false ws else nsg k (arOf F R w).isSome ws)
end
section
variable {F R : List (PySem.Str × Nat)}
theorem nsg_ge (k : Nat) (b : Bool) (ws : List PySem.Str) : k ≤ nsg F R k b ws := by
  cases ws with
  | nil => exact Nat.le_refl _
  | cons w ws => rw [nsg]; omega
theorem nsg_mono : ∀ (ws : List PySem.Str) {k k' : Nat} {b b' : Bool}, k ≤ k' → (b = true → b' = true) → nsg F R k b ws ≤ nsg F R k' b' ws
  | [], k, k', b, b', h, _ => h
  | w :: ws, k, k', b, b', h, hb => by
    rw [nsg, nsg]
    have : (if w = "(" then nsg F R (if b = true then k + 1 else k) false ws else if w = ")" then nsg F R (k - 1) false ws else nsg F R k (arOf F R w).isSome ws) ≤ (if w = "(" then nsg F R (if b' = true then k' + 1 else k') false ws else if w = ")" then nsg F R (k' - 1) false ws else nsg F R k' (arOf F R w).isSome ws) := by
      split
      · refine nsg_mono ws ?_ id
        cases b with
        | false => rw [if_neg Bool.false_ne_true]; split <;> omega
        | true => rw [if_pos rfl, hb rfl, if_pos rfl]; omega
      · split
        · exact nsg_mono ws (by omega) id
        · exact nsg_mono ws h id
    omega
theorem nsg_pre : ∀ (a c : List PySem.Str) (k : Nat) (b : Bool), nsg F R k b a ≤ nsg F R k b (a ++ c)
  | [], c, k, b => nsg_ge k b c
  | w :: a, c, k, b => by
    rw [List.cons_append, nsg, nsg]
    have : (if w = "(" then nsg F R (if b = true then k + 1 else k) false a else if w = ")" then nsg F R (k - 1) false a else nsg F R k (arOf F R w).isSome a) ≤ (if w = "(" then nsg F R (if b = true then k + 1 else k) false (a ++ c) else if w = ")" then nsg F R (k - 1) false (a ++ c) else nsg F R k (arOf F R w).isSome (a ++ c)) := by
      split
      · exact nsg_pre a c _ _
      · split
        · exact nsg_pre a c _ _
        · exact nsg_pre a c _ _
    omega
theorem nsg_suf : ∀ (a c : List PySem.Str) (k : Nat) (b : Bool), nsg F R 0 false c ≤ nsg F R k b (a ++ c)
  | [], c, k, b => nsg_mono c (Nat.zero_le _) (fun h => by cases h)
  | w :: a, c, k, b => by
    rw [List.cons_append, nsg]
    refine Nat.le_trans ?_ (Nat.le_max_right _ _)
    split
    · exact nsg_suf a c _ _
    · split
      · exact nsg_suf a c _ _
      · exact nsg_suf a c _ _
end
end P
/-! R53: how deep a grouped row is. -/
namespace P
open PySem PySem.Spec PyProof.Rows L2 G
theorem dp_3 (w : PySem.Str) (p q : FV) : (FV.tup [.str w, p, q]).py.depth = max p.py.depth q.py.depth + 1 := by
  simp only [FV.py, FV.pys, PyData.depth, PyData.depthAll]
  omega
theorem dp_2 (w : PySem.Str) (p : FV) : (FV.tup [.str w, p]).py.depth = p.py.depth + 1 := by
  simp only [FV.py, FV.pys, PyData.depth, PyData.depthAll]
  omega
theorem dp_s (w : PySem.Str) : (FV.str w).py.depth = 0 := by simp only [FV.py, PyData.depth]
theorem dp_all {D : Nat} : ∀ xs : List FV, (∀ x, x ∈ xs → x.py.depth ≤ D) → PyData.depthAll (FV.pys xs) ≤ D
  | [], _ => by rw [FV.pys]; simp only [PyData.depthAll]; omega
  | x :: xs, h => by
    have h1 := h x List.mem_cons_self
    have h2 := dp_all xs fun y hy => h y (List.mem_cons_of_mem _ hy)
    rw [FV.pys]
    simp only [PyData.depthAll]
    omega
theorem dp_t {D : Nat} (w : PySem.Str) {xs : List FV} (h : ∀ x, x ∈ xs → x.py.depth ≤ D) : (FV.tup (.str w :: xs)).py.depth ≤ D + 1 := by
  have := dp_all (D := D) (.str w :: xs) fun x hx => by
    rcases List.mem_cons.mp hx with rfl | hx
    · rw [dp_s]; omega
    · exact h x hx
  simp only [FV.py, PyData.depth]
  omega
def DpOk (B : Nat) (y : FV × List (PySem.Str × FV)) : Prop := y.1.py.depth + y.2.length ≤ B ∧ ∀ z, z ∈ y.2 → z.2.py.depth + y.2.length ≤ B
theorem jl_d (w : PySem.Str) : ∀ (ls : List (PySem.Str × FV)) (p : FV) (B : Nat), DpOk B (p, ls) → DpOk B (jl w p ls) ∧ (jl w p ls).2.length ≤ ls.length
  | [], p, B, h => ⟨h, Nat.le_refl _⟩
  | (o, q) :: ls, p, B, h => by
    obtain ⟨h1, h2⟩ := h
    have hq := h2 (o, q) List.mem_cons_self
    simp only [List.length_cons] at h1 h2 hq
    rw [jl_c]
    split
    · obtain ⟨a, b⟩ := jl_d w ls (.tup [.str w, p, q]) B ⟨by show (FV.tup [.str w, p, q]).py.depth + ls.length ≤ B; rw [dp_3]; omega, fun z hz => by
        have := h2 z (List.mem_cons_of_mem _ hz)
        show z.2.py.depth + ls.length ≤ B
        omega⟩
      exact ⟨a, by rw [List.length_cons]; omega⟩
    · obtain ⟨⟨a1, a2⟩, b⟩ := jl_d w ls q (B - 1) ⟨by show q.py.depth + ls.length ≤ B - 1; omega, fun z hz => by
        have := h2 z (List.mem_cons_of_mem _ hz)
        show z.2.py.depth + ls.length ≤ B - 1
        omega⟩
      refine ⟨⟨by show p.py.depth + ((jl w q ls).2.length + 1) ≤ B; omega, fun z hz => ?_⟩, by show (jl w q ls).2.length + 1 ≤ ls.length + 1; omega⟩
      show z.2.py.depth + ((jl w q ls).2.length + 1) ≤ B
      rcases List.mem_cons.mp hz with rfl | hz
      · show (jl w q ls).1.py.depth + ((jl w q ls).2.length + 1) ≤ B
        omega
      · have := a2 z hz
        omega
theorem jr_d (w : PySem.Str) : ∀ (ls : List (PySem.Str × FV)) (p : FV) (B : Nat), DpOk B (p, ls) → DpOk B (jr w p ls) ∧ (jr w p ls).2.length ≤ ls.length
  | [], p, B, h => ⟨h, Nat.le_refl _⟩
  | (o, q) :: ls, p, B, h => by
    obtain ⟨h1, h2⟩ := h
    have hq := h2 (o, q) List.mem_cons_self
    simp only [List.length_cons] at h1 h2 hq
    obtain ⟨⟨a1, a2⟩, b⟩ := jr_d w ls q (B - 1) ⟨by show q.py.depth + ls.length ≤ B - 1; omega, fun z hz => by
      have := h2 z (List.mem_cons_of_mem _ hz)
      show z.2.py.depth + ls.length ≤ B - 1
      omega⟩
    rw [jr_c]
    split
    · refine ⟨⟨?_, fun z hz => ?_⟩, by show (jr w q ls).2.length ≤ ls.length + 1; omega⟩
      · show (FV.tup [.str w, p, (jr w q ls).1]).py.depth + (jr w q ls).2.length ≤ B
        rw [dp_3]
        omega
      · have := a2 z hz
        show z.2.py.depth + (jr w q ls).2.length ≤ B
        omega
    · refine ⟨⟨by show p.py.depth + ((jr w q ls).2.length + 1) ≤ B; omega, fun z hz => ?_⟩, by show (jr w q ls).2.length + 1 ≤ ls.length + 1; omega⟩
      show z.2.py.depth + ((jr w q ls).2.length + 1) ≤ B
      rcases List.mem_cons.mp hz with rfl | hz
      · show (jr w q ls).1.py.depth + ((jr w q ls).2.length + 1) ≤ B
        omega
      · have := a2 z hz
        omega
theorem grp_d {p : FV} {ls : List (PySem.Str × FV)} {B : Nat} (h : DpOk B (p, ls)) : (grp p ls).py.depth ≤ B := by
  unfold grp
  have st : ∀ (ws : List PySem.Str) (y : FV × List (PySem.Str × FV)), DpOk B y → (ws.foldl (fun y w => stepG w y) y).1.py.depth ≤ B := fun ws => by
    induction ws with
    | nil => intro y a; have := a.1; show y.1.py.depth ≤ B; omega
    | cons w ws ih =>
      intro y a
      rw [List.foldl_cons]
      refine ih _ ?_
      unfold stepG
      split
      · exact (jr_d w y.2 y.1 B a).1
      · exact (jl_d w y.2 y.1 B a).1
  exact st pairsL (p, ls) h
end P
/-! R54: what is read of a term is no deeper than its brackets nest. -/
namespace P
open PySem PySem.Spec PyProof.Rows L2 G
theorem inv_bind {α β : Type} {x : Res α} {k : α → List W3 → Res β} {b : β} {r : List W3} (h : x.bind k = .ok b r) : ∃ a r1, x = .ok a r1 ∧ k a r1 = .ok b r := by
  cases x with
  | no => cases h
  | bad r => cases h
  | ok a r1 => exact ⟨a, r1, rfl, h⟩
theorem inv_map {α β : Type} {x : Res α} {f : α → β} {b : β} {r : List W3} (h : x.map f = .ok b r) : ∃ a, x = .ok a r ∧ b = f a := by
  cases x with
  | no => cases h
  | bad r => cases h
  | ok a r1 => cases h; exact ⟨a, rfl, rfl⟩
theorem inv_withW {α : Type} {ws : List W3} {k : PySem.Str → Res α} {b : α} {r : List W3} (h : withW ws k = .ok b r) : ∃ w t, ws = w :: t ∧ k w.1 = .ok b r := by
  cases ws with
  | nil => cases h
  | cons w t => exact ⟨w, t, rfl, h⟩
theorem inv_tk {acc : Bool} {ws : List W3} {a : PySem.Str} {r : List W3} (h : tk acc ws = .ok a r) : acc = true ∧ ∃ w, ws = w :: r ∧ a = w.1 := by
  cases ws with
  | nil => cases h
  | cons w t =>
    cases acc with
    | true => cases h; exact ⟨rfl, w, rfl, rfl⟩
    | false => cases h
theorem inv_mkk {m : PySem.Str} {ws : List W3} {a : PySem.Str} {r : List W3} (h : mkk m ws = .ok a r) : ∃ w, ws = w :: r ∧ w.1 = m := by
  obtain ⟨w, t, e, h⟩ := inv_withW h
  obtain ⟨h1, w2, e2, _⟩ := inv_tk h
  rw [e] at e2
  cases e2
  exact ⟨w, e, of_decide_eq_true h1⟩
section
variable (F R : List (PySem.Str × Nat))
def ns (k : Nat) (b : Bool) (ws : List W3) : Nat := nsg F R k b (TX ws)
/-- a piece read from k brackets deep: what comes behind stands as deep, and the piece is no deeper than its brackets -/
def Tc (d : Nat) (ws : List W3) (xs : List FV) (r : List W3) (b : Bool) : Prop := ∀ k, ns F R k false r ≤ ns F R k b ws ∧ ∀ x, x ∈ xs → k + d + x.py.depth ≤ ns F R k b ws + 1
end
section
variable {F R : List (PySem.Str × Nat)}
theorem ns_w {w : W3} {t : List W3} (h1 : w.1 ≠ "(") (h2 : w.1 ≠ ")") (k : Nat) (b : Bool) : ns F R k (arOf F R w.1).isSome t ≤ ns F R k b (w :: t) := by
  show nsg F R k _ (TX t) ≤ nsg F R k b (w.1 :: TX t)
  rw [nsg, if_neg h1, if_neg h2]
  omega
theorem ns_f {k : Nat} {b : Bool} {t : List W3} : ns F R k false t ≤ ns F R k b t := nsg_mono _ (Nat.le_refl _) (fun h => by cases h)
theorem ns_w' {w : W3} {t : List W3} (h1 : w.1 ≠ "(") (h2 : w.1 ≠ ")") (k : Nat) (b : Bool) : ns F R k false t ≤ ns F R k b (w :: t) := Nat.le_trans ns_f (ns_w h1 h2 k b)
theorem ns_o {w : W3} {t : List W3} (h : w.1 = "(") (k : Nat) : ns F R (k + 1) false t ≤ ns F R k true (w :: t) := by
  show nsg F R (k + 1) _ (TX t) ≤ nsg F R k true (w.1 :: TX t)
  rw [nsg, if_pos h, if_pos rfl]
  omega
theorem ns_c {w : W3} {t : List W3} (h : w.1 = ")") (k : Nat) (b : Bool) : ns F R (k - 1) false t ≤ ns F R k b (w :: t) := by
  show nsg F R (k - 1) _ (TX t) ≤ nsg F R k b (w.1 :: TX t)
  rw [nsg, h, if_neg (by decide +kernel), if_pos rfl]
  omega
theorem ns_k (k : Nat) (b : Bool) (t : List W3) : k ≤ ns F R k b t := nsg_ge k b _
theorem many_c {tm : List W3 → Res FV} (ht : ∀ ws t r, tm ws = .ok t r → ∀ b, Tc F R 0 ws [t] r b) : ∀ (m : Nat) (ws : List W3) (xs : List FV) (r : List W3), many tm (List.replicate m ",") ws = .ok xs r → ∀ b, Tc F R 0 ws xs r b
  | 0, ws, xs, r, h, b => by
    rw [List.replicate_zero, many] at h
    cases h
    exact fun k => ⟨ns_f, fun x hx => by cases hx⟩
  | m + 1, ws, xs, r, h, b => by
    rw [List.replicate_succ, many] at h
    obtain ⟨a, r1, e1, h⟩ := inv_bind h
    obtain ⟨x, r2, e2, h⟩ := inv_bind h
    obtain ⟨ys, e3, rfl⟩ := inv_map h
    obtain ⟨w, rfl, ew⟩ := inv_mkk e1
    intro k
    have i1 := ns_w' (F := F) (R := R) (w := w) (t := r1) (by rw [ew]; decide +kernel) (by rw [ew]; decide +kernel) k b
    have i2 := ht r1 x r2 e2 false k
    have i3 := many_c ht m r2 ys r e3 false k
    refine ⟨by omega, fun y hy => ?_⟩
    rcases List.mem_cons.mp hy with rfl | hy
    · have := i2.2 y (by simp); omega
    · have := i3.2 y hy; omega
structure NoMk (F : List (PySem.Str × Nat)) : Prop where
  o : lookA F "(" = none
  c : lookA F ")" = none
def KnM (kn : List PySem.Str) : Prop := ("(" : PySem.Str) ∉ kn ∧ (")" : PySem.Str) ∉ kn
theorem term_c (hF : NoMk F) : ∀ f, (∀ kn, KnM kn → ∀ ws t r, (rd F R f).term kn ws = .ok t r → ∀ b, Tc F R 0 ws [t] r b) ∧ (∀ nm kn, KnM kn → ∀ ws xs r, (rd F R f).args nm kn ws = .ok xs r → Tc F R 1 ws xs r true)
  | 0 => ⟨(fun kn _ ws t r h => by cases h), (fun nm kn _ ws xs r h => by cases h)⟩
  | f + 1 => by
    obtain ⟨I1, I2⟩ := term_c hF f
    refine ⟨fun kn hk ws t r h b => ?_, fun nm kn hk ws xs r h => ?_⟩
    · have h : termB F (rd F R f) kn ws = .ok t r := h
      unfold termB at h
      obtain ⟨w, s, rfl, h⟩ := inv_withW h
      split at h
      · rename_i hw
        obtain ⟨a, e, rfl⟩ := inv_map h
        obtain ⟨_, w2, e2, _⟩ := inv_tk e
        cases e2
        intro k
        have i := ns_w' (F := F) (R := R) (w := w) (t := r) (fun e => hk.1 (e ▸ hw)) (fun e => hk.2 (e ▸ hw)) k b
        refine ⟨i, fun x hx => ?_⟩
        have : x = FV.str a := by simpa using hx
        rw [this, dp_s]
        have := ns_k (F := F) (R := R) k b (w :: r)
        omega
      · obtain ⟨a, r1, e, h⟩ := inv_bind h
        obtain ⟨hs, w2, e2, ea⟩ := inv_tk e
        cases e2
        subst ea
        obtain ⟨xs, e3, rfl⟩ := inv_map h
        have i2 := I2 w.1 kn hk s xs r e3
        have sm : (arOf F R w.1).isSome = true := by
          unfold arOf
          cases z : lookA F w.1 with
          | none => rw [z] at hs; cases hs
          | some n => rfl
        intro k
        have i := ns_w (F := F) (R := R) (w := w) (t := s) (fun e => by rw [e, hF.o] at hs; cases hs) (fun e => by rw [e, hF.c] at hs; cases hs) k b
        rw [sm] at i
        obtain ⟨j1, j2⟩ := i2 k
        refine ⟨by omega, fun x hx => ?_⟩
        have : x = FV.tup (.str w.1 :: xs) := by simpa using hx
        rw [this]
        have kk := ns_k (F := F) (R := R) k b (w :: s)
        have := dp_t (D := ns F R k b (w :: s) - k) w.1 (xs := xs) fun y hy => by
          have := j2 y hy
          omega
        omega
    · have h : argsB F R (rd F R f) nm kn ws = .ok xs r := h
      unfold argsB at h
      split at h
      · cases h
      · cases h
        exact fun k => ⟨ns_f, fun x hx => by cases hx⟩
      · rename_i m _
        obtain ⟨ys, r1, e, h⟩ := inv_bind h
        obtain ⟨_, e2, rfl⟩ := inv_map h
        obtain ⟨c, rfl, ec⟩ := inv_mkk e2
        rw [many] at e
        obtain ⟨_, s, e1, e⟩ := inv_bind e
        obtain ⟨x, s2, e3, e⟩ := inv_bind e
        obtain ⟨zs, e4, rfl⟩ := inv_map e
        obtain ⟨o, rfl, eo⟩ := inv_mkk e1
        intro k
        have i1 := ns_o (F := F) (R := R) (t := s) eo k
        have i2 := I1 kn hk s x s2 e3 false (k + 1)
        have i3 := many_c (fun ws t r h b => I1 kn hk ws t r h b) m s2 zs (c :: r) e4 false (k + 1)
        have i4 := ns_c (F := F) (R := R) (t := r) ec (k + 1) false
        rw [Nat.add_sub_cancel] at i4
        refine ⟨by omega, fun y hy => ?_⟩
        rcases List.mem_cons.mp hy with rfl | hy
        · have := i2.2 y (by simp); omega
        · have := i3.2 y hy; omega
end
end P
/-! R55: what is read of a sentence is no deeper than its nots, quantifiers and pairs, and the brackets of its terms. -/
namespace P
open PySem PySem.Spec PyProof.Rows L2 G
def opw (x : PySem.Str) : Bool := decide (x ∈ pairsL) || (decide (x = "not") || decide (x ∈ (["all", "some"] : List PySem.Str)))
def cn (ws : List W3) : Nat := ws.countP fun w => opw w.1
theorem cn_suf {r ws : List W3} (h : r <:+ ws) : cn r ≤ cn ws := h.sublist.countP_le
theorem cn_c (w : W3) (r : List W3) : cn r ≤ cn (w :: r) := cn_suf (List.suffix_cons w r)
theorem cn_o {w : W3} (r : List W3) (h : opw w.1 = true) : cn (w :: r) = cn r + 1 := by
  unfold cn
  exact List.countP_cons_of_pos (p := fun w : W3 => opw w.1) (a := w) (l := r) h
theorem op_p {x : PySem.Str} (h : x ∈ pairsL) : opw x = true := by unfold opw; rw [decide_eq_true h]; rfl
theorem op_n {x : PySem.Str} (h : x = "not") : opw x = true := by unfold opw; rw [decide_eq_true h]; simp
theorem op_q {x : PySem.Str} (h : x ∈ (["all", "some"] : List PySem.Str)) : opw x = true := by unfold opw; rw [decide_eq_true h]; simp
section
variable {F R : List (PySem.Str × Nat)}
theorem ns_suf {r ws : List W3} (h : r <:+ ws) : ns F R 0 false r ≤ ns F R 0 false ws := by
  obtain ⟨a, rfl⟩ := h
  unfold ns TX
  rw [List.map_append]
  exact nsg_suf _ _ 0 false
theorem row_d {sm : List W3 → Res FV} {N C : Nat} (hs : ∀ ws, Sf (sm ws) ws) (hd : ∀ ws p r, ns F R 0 false ws ≤ N → sm ws = .ok p r → p.py.depth + cn r ≤ cn ws + C) : ∀ (g : Nat) (ws : List W3) (ls : List (PySem.Str × FV)) (r : List W3), ns F R 0 false ws ≤ N → row sm g ws = .ok ls r → ls.length + cn r ≤ cn ws ∧ ∀ y, y ∈ ls → y.2.py.depth + ls.length + cn r ≤ cn ws + C
  | 0, ws, ls, r, _, h => by cases h
  | g + 1, ws, ls, r, hN, h => by
    rw [row] at h
    obtain ⟨w, t, rfl, h⟩ := inv_withW h
    split at h
    · rename_i hw
      obtain ⟨l, r1, e1, h⟩ := inv_bind h
      obtain ⟨p, r2, e2, h⟩ := inv_bind h
      obtain ⟨ls', e3, rfl⟩ := inv_map h
      obtain ⟨_, w2, e, _⟩ := inv_tk e1
      cases e
      have c1 := cn_o t (op_p hw)
      have n1 := ns_suf (F := F) (R := R) (List.suffix_cons w t)
      have s2 : r2 <:+ t := by have := hs t; rw [e2] at this; exact this
      have n2 := ns_suf (F := F) (R := R) s2
      have c2 := cn_suf s2
      have d := hd t p r2 (by omega) e2
      obtain ⟨i1, i2⟩ := row_d hs hd g r2 ls' r (by omega) e3
      rw [List.length_cons]
      refine ⟨by omega, fun y hy => ?_⟩
      rcases List.mem_cons.mp hy with rfl | hy
      · show p.py.depth + (ls'.length + 1) + cn r ≤ _
        omega
      · have := i2 y hy
        omega
    · cases h
      exact ⟨by rw [List.length_nil]; omega, fun y hy => by cases hy⟩
structure RdD (N : Nat) (q : Rd) : Prop where
  sent : ∀ kn, KnM kn → ∀ ws p r, ns F R 0 false ws ≤ N → q.sent kn ws = .ok p r → p.py.depth + cn r ≤ cn ws + (N + 3)
  simp : ∀ kn, KnM kn → ∀ ws p r, ns F R 0 false ws ≤ N → q.simp kn ws = .ok p r → p.py.depth + cn r ≤ cn ws + (N + 3)
  bound : ∀ kn, KnM kn → ∀ w ws p r, ns F R 0 false (w :: ws) ≤ N → q.bound kn (w :: ws) = .ok p r → p.py.depth + cn r ≤ cn ws + 1 + (N + 3)
  eqn : ∀ kn, KnM kn → ∀ ws p r, ns F R 0 false ws ≤ N → q.eqn kn ws = .ok p r → p.py.depth + cn r ≤ cn ws + (N + 3)
theorem small_mk : smallB "(" = false ∧ smallB ")" = false := by decide +kernel
theorem rd_D (hF : NoMk F) (hR : NoMk R) (N : Nat) : ∀ f, RdD (F := F) (R := R) N (rd F R f)
  | 0 => ⟨(fun _ _ _ _ _ _ h => by cases h), (fun _ _ _ _ _ _ h => by cases h), (fun _ _ _ _ _ _ _ h => by cases h), (fun _ _ _ _ _ _ h => by cases h)⟩
  | f + 1 => by
    have I := rd_D hF hR N f
    have S := rd_S F R f
    obtain ⟨T1, T2⟩ := term_c (R := R) hF f
    refine ⟨fun kn hk ws p r hN h => ?_, fun kn hk ws p r hN h => ?_, fun kn hk w ws p r hN h => ?_, fun kn hk ws p r hN h => ?_⟩
    · have h : sentB (rd F R f) kn ws = .ok p r := h
      unfold sentB at h
      obtain ⟨p0, r1, e1, h⟩ := inv_bind h
      obtain ⟨ls, e2, rfl⟩ := inv_map h
      have s1 : r1 <:+ ws := by have := S.simp kn ws; rw [e1] at this; exact this
      have n1 := ns_suf (F := F) (R := R) s1
      have c1 := cn_suf s1
      have d0 := I.simp kn hk ws p0 r1 hN e1
      obtain ⟨i1, i2⟩ := row_d (F := F) (R := R) (N := N) (C := N + 3) (fun ws => S.simp kn ws) (fun ws p r hN h => I.simp kn hk ws p r hN h) FUEL r1 ls r (by omega) e2
      have := grp_d (p := p0) (ls := ls) (B := cn ws + (N + 3) - cn r) ⟨by show p0.py.depth + ls.length ≤ _; omega, fun z hz => by
        have := i2 z hz
        show z.2.py.depth + ls.length ≤ _
        omega⟩
      omega
    · have h : simpB R (rd F R f) kn ws = .ok p r := h
      unfold simpB at h
      obtain ⟨w, t, rfl, h⟩ := inv_withW h
      have nt := ns_suf (F := F) (R := R) (List.suffix_cons w t)
      have ct := cn_c w t
      split at h
      · rename_i hw
        obtain ⟨a, r1, e1, h⟩ := inv_bind h
        obtain ⟨q, e2, rfl⟩ := inv_map h
        obtain ⟨_, w2, e, _⟩ := inv_tk e1
        cases e
        have := I.simp kn hk t q r (by omega) e2
        rw [cn_o t (op_n hw), dp_2]
        omega
      split at h
      · rename_i hw
        have := I.bound kn hk w t p r hN h
        rw [cn_o t (op_q hw)]
        omega
      split at h
      · obtain ⟨a, r1, e1, h⟩ := inv_bind h
        obtain ⟨q, r2, e2, h⟩ := inv_bind h
        obtain ⟨_, e3, rfl⟩ := inv_map h
        obtain ⟨_, w2, e, _⟩ := inv_tk e1
        cases e
        obtain ⟨c, rfl, _⟩ := inv_mkk e3
        have := I.sent kn hk t p (c :: r) (by omega) e2
        have := cn_c c r
        omega
      split at h
      · rename_i hn _ ho hr
        obtain ⟨a, r1, e1, h⟩ := inv_bind h
        obtain ⟨xs, e2, rfl⟩ := inv_map h
        obtain ⟨_, w2, e, _⟩ := inv_tk e1
        cases e
        have hc : w.1 ≠ ")" := fun e => by rw [e, hR.c] at hr; cases hr
        have sm : (arOf F R w.1).isSome = true := by
          unfold arOf
          cases lookA F w.1 with
          | some n => rfl
          | none => exact hr
        have i := ns_w (F := F) (R := R) (w := w) (t := t) ho hc 0 false
        rw [sm] at i
        have j := T2 w.1 kn hk t xs r e2 0
        have d := dp_t (D := N) w.1 (xs := xs) fun y hy => by
          have := j.2 y hy
          omega
        have sr : r <:+ t := by have := S.args w.1 kn t; rw [e2] at this; exact this
        have := cn_suf sr
        rw [dp_2]
        omega
      · exact I.eqn kn hk (w :: t) p r hN h
    · have h : boundB F R (rd F R f) kn (w :: ws) = .ok p r := h
      unfold boundB at h
      obtain ⟨b, r1, e1, h⟩ := inv_bind h
      obtain ⟨_, w2, e, _⟩ := inv_tk e1
      cases e
      obtain ⟨x, t, rfl, h⟩ := inv_withW h
      obtain ⟨nm, r2, e2, h⟩ := inv_bind h
      obtain ⟨d, r3, e3, h⟩ := inv_bind h
      obtain ⟨q, e4, rfl⟩ := inv_map h
      obtain ⟨hs, w3, e, en⟩ := inv_tk e2
      cases e
      obtain ⟨c, rfl, _⟩ := inv_mkk e3
      have sm : smallB x.1 = true := by
        cases z : smallB x.1 with
        | true => rfl
        | false => rw [z] at hs; cases hs
      have hk2 : KnM (kn ++ [nm]) := by
        rw [en]
        refine ⟨fun hm => ?_, fun hm => ?_⟩
        · rcases List.mem_append.mp hm with hm | hm
          · exact hk.1 hm
          · have : ("(" : PySem.Str) = x.1 := by simpa using hm
            rw [← this, small_mk.1] at sm; cases sm
        · rcases List.mem_append.mp hm with hm | hm
          · exact hk.2 hm
          · have : (")" : PySem.Str) = x.1 := by simpa using hm
            rw [← this, small_mk.2] at sm; cases sm
      have s3 : r3 <:+ w :: x :: c :: r3 := ⟨[w, x, c], rfl⟩
      have s4 : r3 <:+ x :: c :: r3 := ⟨[x, c], rfl⟩
      have n3 := ns_suf (F := F) (R := R) s3
      have c3 := cn_suf s4
      have := I.sent (kn ++ [nm]) hk2 r3 q r (by omega) e4
      rw [dp_3, dp_s]
      omega
    · have h : eqnB (rd F R f) kn ws = .ok p r := h
      unfold eqnB at h
      obtain ⟨l, r1, e1, h⟩ := inv_bind h
      obtain ⟨x, t, rfl, h⟩ := inv_withW h
      obtain ⟨m, r2, e2, h⟩ := inv_bind h
      obtain ⟨u, e3, rfl⟩ := inv_map h
      obtain ⟨_, w3, e, _⟩ := inv_tk e2
      cases e
      have s1 : x :: t <:+ ws := by have := S.term kn ws; rw [e1] at this; exact this
      have s2 : t <:+ ws := (List.suffix_cons x t).trans s1
      have s3 : r <:+ t := by have := S.term kn t; rw [e3] at this; exact this
      have n2 := ns_suf (F := F) (R := R) s2
      have c2 := cn_suf (s3.trans s2)
      have a := (T1 kn hk ws l (x :: t) e1 false 0).2 l (by simp)
      have b := (T1 kn hk t u r e3 false 0).2 u (by simp)
      split
      · rw [dp_3]; omega
      · rw [dp_2, dp_3]; omega
end
end P
/-! R56: words whose brackets close again: how deep the terms in them nest. -/
namespace P
open PySem PySem.Spec PyProof.Rows L2 G
section
variable (F R : List (PySem.Str × Nat))
def Cl (m : Nat) (W : List PySem.Str) : Prop := ∀ k c M, k + m ≤ M → nsg F R k true c ≤ M → nsg F R k false (W ++ c) ≤ M
end
section
variable {F R : List (PySem.Str × Nat)}
theorem nsg_w {w : PySem.Str} (h1 : w ≠ "(") (h2 : w ≠ ")") (k : Nat) (b : Bool) (c : List PySem.Str) : nsg F R k b (w :: c) = max k (nsg F R k (arOf F R w).isSome c) := by rw [nsg, if_neg h1, if_neg h2]
theorem nsg_t (k : Nat) (b : Bool) (c : List PySem.Str) : nsg F R k b c ≤ nsg F R k true c := nsg_mono c (Nat.le_refl _) (fun _ => rfl)
theorem nsg_o (k : Nat) (c : List PySem.Str) : nsg F R k false ("(" :: c) = max k (nsg F R k false c) := by rw [nsg, if_pos rfl, if_neg Bool.false_ne_true]
theorem nsg_ot (k : Nat) (c : List PySem.Str) : nsg F R k true ("(" :: c) = max k (nsg F R (k + 1) false c) := by rw [nsg, if_pos rfl, if_pos rfl]
theorem nsg_c (k : Nat) (b : Bool) (c : List PySem.Str) : nsg F R k b (")" :: c) = max k (nsg F R (k - 1) false c) := by rw [nsg, if_neg (by decide +kernel), if_pos rfl]
theorem Cl.up {m n : Nat} {W : List PySem.Str} (h : Cl F R m W) (l : m ≤ n) : Cl F R n W := fun k c M a b => h k c M (by omega) b
theorem Cl.nil : Cl F R 0 [] := fun k c M _ b => Nat.le_trans (nsg_t k false c) b
theorem Cl.name {w : PySem.Str} (h1 : w ≠ "(") (h2 : w ≠ ")") : Cl F R 0 [w] := fun k c M a b => by
  show nsg F R k false (w :: c) ≤ M
  rw [nsg_w h1 h2]
  have := nsg_t (F := F) (R := R) k (arOf F R w).isSome c
  omega
theorem Cl.mark {m : Nat} {a b : List PySem.Str} {w : PySem.Str} (h : Cl F R m a) (h1 : w ≠ "(") (h2 : w ≠ ")") (h3 : arOf F R w = none) (h' : Cl F R m b) : Cl F R m (a ++ w :: b) := fun k c M x y => by
  rw [List.append_assoc]
  refine h k _ M x ?_
  rw [List.cons_append, nsg_w h1 h2, h3]
  have := h' k c M x y
  show max k (nsg F R k false (b ++ c)) ≤ M
  omega
theorem Cl.pre {m : Nat} {b : List PySem.Str} {w : PySem.Str} (h1 : w ≠ "(") (h2 : w ≠ ")") (h3 : arOf F R w = none) (h' : Cl F R m b) : Cl F R m (w :: b) := by
  have := Cl.mark ((Cl.nil (F := F) (R := R)).up (Nat.zero_le m)) h1 h2 h3 h'
  exact this
theorem Cl.wrap {m : Nat} {W : List PySem.Str} (h : Cl F R m W) : Cl F R m ("(" :: (W ++ ([")"] : List PySem.Str))) := fun k c M x y => by
  rw [List.cons_append, nsg_o, List.append_assoc]
  have := h k (")" :: c) M x (by
    rw [nsg_c]
    have := nsg_mono (F := F) (R := R) c (show k - 1 ≤ k by omega) (b := false) (b' := true) (fun z => by cases z)
    omega)
  show max k (nsg F R k false (W ++ (")" : PySem.Str) :: c)) ≤ M
  omega
theorem Cl.call {m : Nat} {W : List PySem.Str} {w : PySem.Str} (h1 : w ≠ "(") (h2 : w ≠ ")") (h : Cl F R m W) : Cl F R (m + 1) (w :: "(" :: (W ++ ([")"] : List PySem.Str))) := fun k c M x y => by
  rw [List.cons_append, nsg_w h1 h2, List.cons_append, List.append_assoc]
  have i := nsg_t (F := F) (R := R) k (arOf F R w).isSome ("(" :: (W ++ (([")"] : List PySem.Str) ++ c)))
  rw [nsg_ot] at i
  have := h (k + 1) (")" :: c) M (by omega) (by
    rw [nsg_c, Nat.add_sub_cancel]
    have := nsg_t (F := F) (R := R) k false c
    omega)
  have e : W ++ (([")"] : List PySem.Str) ++ c) = W ++ (")" : PySem.Str) :: c := rfl
  rw [e] at i ⊢
  omega
theorem Cl.ns {m : Nat} {W : List PySem.Str} (h : Cl F R m W) : nsg F R 0 false W ≤ m := by
  have := h 0 [] m (by omega) (Nat.zero_le m)
  rwa [List.append_nil] at this
/-- brackets all around -/
theorem Cl.outer {m : Nat} {W : List PySem.Str} (h : Cl F R m W) : ∀ d : Nat, Cl F R m (List.replicate d ("(" : PySem.Str) ++ (W ++ List.replicate d (")" : PySem.Str)))
  | 0 => by
    show Cl F R m (W ++ [])
    rwa [List.append_nil]
  | d + 1 => by
    have := (h.outer d).wrap
    rw [List.append_assoc, List.append_assoc] at this
    rw [List.replicate_succ, List.replicate_succ' (n := d) (a := (")" : PySem.Str))]
    exact this
end
end P
/-! R57: words of terms nest as deep as the term. -/
namespace P
open PySem PySem.Spec PyProof.Rows L2 G
section
variable {F R : List (PySem.Str × Nat)} {kn : List PySem.Str}
variable (hF : ∀ x, (lookA F x).isSome = true → x ≠ "(" ∧ x ≠ ")") (hk : ∀ x, x ∈ kn → x ≠ "(" ∧ x ≠ ")") (hc : arOf F R "," = none)
include hF hk hc
mutual
theorem cl_t : ∀ t : Tm, t.gd F kn → Cl F R t.dep t.ws
  | .var x, h => by
    have h : x ∈ kn := by simpa [Tm.gd] using h
    rw [ws_var, dep_var]
    exact Cl.name (hk x h).1 (hk x h).2
  | .app f [], h => by
    have h : lookA F f = some 0 := (gd_app.mp h).1
    have hf := hF f (by rw [h]; rfl)
    rw [ws_app, argw_nil]
    exact (Cl.name hf.1 hf.2).up (Nat.zero_le _)
  | .app f (t :: ts), h => by
    have h : lookA F f = some (t :: ts).length ∧ f ∉ kn ∧ t.gd F kn ∧ Tm.gds F kn ts := by
      have h := h
      rw [Tm.gd, Tm.gds] at h
      exact h
    have hf := hF f (by rw [h.1]; rfl)
    have i := cl_ts ts h.2.2.2 (m := Tm.deps (t :: ts)) (by simp only [Tm.deps]; omega) t.ws ((cl_t t h.2.2.1).up (by simp only [Tm.deps]; omega))
    rw [ws_app, argw_cons, dep_app]
    exact Cl.call hf.1 hf.2 i
theorem cl_ts : ∀ ts : List Tm, Tm.gds F kn ts → ∀ {m : Nat}, Tm.deps ts ≤ m → ∀ a : List PySem.Str, Cl F R m a → Cl F R m (a ++ Tm.argw "," ts)
  | [], _, m, _, a, ha => by rw [argw_nil, List.append_nil]; exact ha
  | t :: ts, h, m, l, a, ha => by
    have h : t.gd F kn ∧ Tm.gds F kn ts := by
      rw [Tm.gds] at h
      exact h
    simp only [Tm.deps] at l
    have i := cl_ts ts h.2 (m := m) (by omega) (a ++ ("," : PySem.Str) :: t.ws) (ha.mark (by decide +kernel) (by decide +kernel) hc ((cl_t t h.1).up (by omega)))
    rw [argw_cons]
    rw [List.append_assoc] at i
    exact i
end
end
end P
/-! R58: words of sentences, loose: how many nots, quantifiers and pair words, how deep the terms in them nest. -/
namespace P
open PySem PySem.Spec PyProof.Rows L2 G
def cnS (W : List PySem.Str) : Nat := W.countP opw
theorem cnS_nil : cnS [] = 0 := rfl
theorem cnS_app (a b : List PySem.Str) : cnS (a ++ b) = cnS a + cnS b := List.countP_append
theorem cnS_cons (w : PySem.Str) (b : List PySem.Str) : cnS (w :: b) = cnS b + (if opw w = true then 1 else 0) := List.countP_cons
theorem cnS_f {w : PySem.Str} (b : List PySem.Str) (h : opw w = false) : cnS (w :: b) = cnS b := by rw [cnS_cons, h]; rfl
theorem cnS_t {w : PySem.Str} (b : List PySem.Str) : cnS (w :: b) ≤ cnS b + 1 := by rw [cnS_cons]; split <;> omega
theorem opw_nm {x : PySem.Str} (hr : x ∉ resS) : opw x = false := by
  have a : ∀ y, y ∈ pairsL → y ∈ resS := by decide +kernel
  have b : ∀ y, y ∈ (["all", "some"] : List PySem.Str) → y ∈ resS := by decide +kernel
  unfold opw
  rw [decide_eq_false (fun z => hr (a x z)), decide_eq_false (fun z => hr (by rw [z]; decide +kernel)), decide_eq_false (fun z => hr (b x z))]
  rfl
theorem cn_of (ws : List W3) : cn ws = cnS (ws.map (·.1)) := by
  unfold cn cnS
  rw [List.countP_map]; rfl
section
variable {F R : List (PySem.Str × Nat)} {kn : List PySem.Str}
theorem arOf_ok (ok : SgOk F R) {w : PySem.Str} {k : Nat} (h : arOf F R w = some k) : (∃ cap, Nm cap w) ∧ w ∉ resS := by
  unfold arOf at h
  cases e : lookA F w with
  | some j => have := lookA_mem' e; exact ⟨⟨false, ok.fn _ this⟩, ok.fr _ this⟩
  | none => rw [e] at h; have := lookA_mem' h; exact ⟨⟨true, ok.rn _ this⟩, cap_nres (ok.rn _ this)⟩
theorem arOf_res (ok : SgOk F R) {w : PySem.Str} (h : w ∈ resS) : arOf F R w = none := by
  cases e : arOf F R w with
  | none => rfl
  | some k => exact absurd h (arOf_ok ok e).2
theorem arOf_mk (ok : SgOk F R) {w : PySem.Str} (c : Nat) (h : c ∈ sgs w) (hc : isSg c = false) : arOf F R w = none := by
  cases e : arOf F R w with
  | none => rfl
  | some k =>
    obtain ⟨⟨cap, nm⟩, _⟩ := arOf_ok ok e
    have := nm.sg c h
    rw [hc] at this; cases this
theorem nm_br2 {cap : Bool} {x : PySem.Str} (h : Nm cap x) : x ≠ "(" ∧ x ≠ ")" := by
  constructor
  · rintro rfl
    have := h.sg 40 (by decide +kernel)
    revert this; decide
  · rintro rfl
    have := h.sg 41 (by decide +kernel)
    revert this; decide
theorem cn_args : ∀ (ts : List Tm) (m : PySem.Str), opw m = false → (∀ t, t ∈ ts → cnS t.ws = 0) → cnS (Tm.argw m ts) = 0
  | [], m, _, _ => by rw [argw_nil]; rfl
  | t :: ts, m, hm, h => by
    rw [argw_cons, cnS_f _ hm, cnS_app, h t List.mem_cons_self, cn_args ts ("," : PySem.Str) (by decide +kernel) fun u hu => h u (List.mem_cons_of_mem _ hu)]
theorem cn_app2 {f : PySem.Str} (hf : f ∉ resS) {ts : List Tm} (h : ∀ t, t ∈ ts → cnS t.ws = 0) : cnS (f :: (Tm.argw "(" ts ++ endw ts)) = 0 := by
  rw [cnS_f _ (opw_nm hf), cnS_app, cn_args ts ("(" : PySem.Str) (by decide +kernel) h]
  cases ts with
  | nil => rfl
  | cons t ts => exact cnS_f (w := ")") [] (by decide +kernel)
theorem cn_tm (hF : ∀ p, p ∈ F → Nm false p.1 ∧ p.1 ∉ resS) : ∀ (d : Nat) (t : Tm), t.dep ≤ d → t.un F → cnS t.ws = 0
  | d, .var x, _, h => by
    rw [ws_var]
    obtain ⟨_, rx, _⟩ := un_var.mp h
    exact cnS_f [] (opw_nm rx)
  | 0, .app f ts, h, _ => by rw [dep_app] at h; omega
  | d + 1, .app f ts, h, g => by
    rw [dep_app] at h
    obtain ⟨g1, g2⟩ := un_app.mp g
    have := hF _ (lookA_mem' g1)
    rw [ws_app]
    exact cn_app2 this.2 fun t ht => cn_tm hF d t (by have := deps_mem ht; omega) (g2 t ht)
theorem gds_all : ∀ ts : List Tm, (∀ t, t ∈ ts → t.gd F kn) → Tm.gds F kn ts
  | [], _ => by simp [Tm.gds]
  | t :: ts, h => by
    rw [Tm.gds]
    exact ⟨h t List.mem_cons_self, gds_all ts fun u hu => h u (List.mem_cons_of_mem _ hu)⟩
theorem deps_all {d : Nat} : ∀ ts : List Tm, (∀ t, t ∈ ts → t.dep ≤ d) → Tm.deps ts ≤ d
  | [], _ => by simp [Tm.deps]
  | t :: ts, h => by
    have := h t List.mem_cons_self
    have := deps_all ts fun u hu => h u (List.mem_cons_of_mem _ hu)
    simp only [Tm.deps]; omega
def Ex (F R : List (PySem.Str × Nat)) (k : Nat) (W : List PySem.Str) : Prop := Cl F R 3 W ∧ cnS W + 1 ≤ 2 ^ k
theorem Ex.up {k k2 : Nat} {W : List PySem.Str} (h : Ex F R k W) (l : k ≤ k2) : Ex F R k2 W := ⟨h.1, Nat.le_trans h.2 (Nat.pow_le_pow_right (by decide) l)⟩
theorem Ex.wrap {k : Nat} {W : List PySem.Str} (h : Ex F R k W) : Ex F R k ("(" :: (W ++ ([")"] : List PySem.Str))) := ⟨h.1.wrap, by
  rw [cnS_f (w := "(") _ (by decide +kernel), cnS_app, cnS_f [] (w := ")") (by decide +kernel), cnS_nil]
  exact h.2⟩
theorem p2 (k : Nat) : 2 ^ (k + 1) = 2 ^ k + 2 ^ k := by rw [Nat.pow_succ]; omega
variable (ok : SgOk F R)
include ok
theorem Ex.nt {k : Nat} {W : List PySem.Str} (h : Ex F R k W) : Ex F R (k + 1) ("not" :: W) := ⟨h.1.pre (by decide +kernel) (by decide +kernel) (arOf_res ok (by decide +kernel)), by
  have := cnS_t (w := "not") W
  have := h.2
  rw [p2]; omega⟩
theorem Ex.bd {k : Nat} {b x : PySem.Str} {W : List PySem.Str} (hb : b ∈ (["all", "some"] : List PySem.Str)) (hx : Nm false x) (hr : x ∉ resS) (h : Ex F R k W) : Ex F R (k + 1) (b :: x :: "." :: W) := by
  have q : b ∈ resS ∧ b ≠ "(" ∧ b ≠ ")" := by
    have : ∀ y, y ∈ (["all", "some"] : List PySem.Str) → y ∈ resS ∧ y ≠ "(" ∧ y ≠ ")" := by decide +kernel
    exact this b hb
  refine ⟨Cl.pre q.2.1 q.2.2 (arOf_res ok q.1) ?_, ?_⟩
  · exact Cl.mark (a := [x]) ((Cl.name (nm_br2 hx).1 (nm_br2 hx).2).up (Nat.zero_le _)) (by decide +kernel) (by decide +kernel) (arOf_mk ok 46 (by decide +kernel) (by decide +kernel)) h.1
  · have := cnS_t (w := b) (x :: "." :: W)
    rw [cnS_f _ (opw_nm hr), cnS_f _ (w := ".") (by decide +kernel)] at this
    have := h.2
    rw [p2]; omega
theorem Ex.pr {k : Nat} {o : PySem.Str} {A B : List PySem.Str} (ho : o ∈ pairsL) (ha : Ex F R k A) (hb : Ex F R k B) : Ex F R (k + 1) ("(" :: ((A ++ o :: B) ++ ([")"] : List PySem.Str))) := by
  have q : o ∈ resS ∧ o ≠ "(" ∧ o ≠ ")" := by
    have : ∀ y, y ∈ pairsL → y ∈ resS ∧ y ≠ "(" ∧ y ≠ ")" := by decide +kernel
    exact this o ho
  refine Ex.wrap ⟨Cl.mark ha.1 q.2.1 q.2.2 (arOf_res ok q.1) hb.1, ?_⟩
  rw [cnS_app]
  have := cnS_t (w := o) B
  have := ha.2
  have := hb.2
  rw [p2]; omega
theorem cl_ok (hk : KnOk F kn) {t : Tm} (g : t.gd F kn) (d : t.dep ≤ 2) : Cl F R 2 t.ws :=
  (cl_t (R := R) (fun x h => by
    cases e : lookA F x with
    | none => rw [e] at h; cases h
    | some k => exact nm_br2 (ok.fn _ (lookA_mem' e))) (fun x h => nm_br2 (hk x h).1) (arOf_mk ok 44 (by decide +kernel) (by decide +kernel)) t g).up d
theorem Ex.eq (hk : KnOk F kn) {a b : Tm} (h : a.gd F kn ∧ b.gd F kn ∧ a.dep ≤ 2 ∧ b.dep ≤ 2) {m : PySem.Str} (hm : m = "=" ∨ m = "!=") (k : Nat) : Ex F R k (a.ws ++ m :: b.ws) := by
  have hF : ∀ p, p ∈ F → Nm false p.1 ∧ p.1 ∉ resS := fun p hp => ⟨ok.fn p hp, ok.fr p hp⟩
  have q : m ≠ "(" ∧ m ≠ ")" ∧ opw m = false ∧ arOf F R m = none := by
    rcases hm with rfl | rfl
    · exact ⟨by decide +kernel, by decide +kernel, by decide +kernel, arOf_mk ok 61 (by decide +kernel) (by decide +kernel)⟩
    · exact ⟨by decide +kernel, by decide +kernel, by decide +kernel, arOf_mk ok 61 (by decide +kernel) (by decide +kernel)⟩
  refine ⟨Cl.mark ((cl_ok ok hk h.1 h.2.2.1).up (by decide)) q.1 q.2.1 q.2.2.2 ((cl_ok ok hk h.2.1 h.2.2.2).up (by decide)), ?_⟩
  rw [cnS_app, cnS_f _ q.2.2.1, cn_tm hF 2 a h.2.2.1 (gd_unT hk 2 a h.2.2.1 h.1), cn_tm hF 2 b h.2.2.2 (gd_unT hk 2 b h.2.2.2 h.2.1)]
  exact Nat.one_le_two_pow
theorem Ex.at (hk : KnOk F kn) {x : PySem.Str} {ts : List Tm} (hx : Nm true x) (h : ∀ t, t ∈ ts → t.gd F kn ∧ t.dep ≤ 2) (k : Nat) : Ex F R k (x :: (Tm.argw "(" ts ++ endw ts)) := by
  have hF : ∀ p, p ∈ F → Nm false p.1 ∧ p.1 ∉ resS := fun p hp => ⟨ok.fn p hp, ok.fr p hp⟩
  have b := nm_br2 hx
  refine ⟨?_, ?_⟩
  · cases ts with
    | nil => rw [argw_nil]; exact (Cl.name b.1 b.2).up (Nat.zero_le _)
    | cons t ts =>
      have i := cl_ts (R := R) (fun x h => by
        cases e : lookA F x with
        | none => rw [e] at h; cases h
        | some k => exact nm_br2 (ok.fn _ (lookA_mem' e))) (fun x h => nm_br2 (hk x h).1) (arOf_mk ok 44 (by decide +kernel) (by decide +kernel)) ts (gds_all ts fun u hu => (h u (List.mem_cons_of_mem _ hu)).1) (m := 2) (deps_all ts fun u hu => (h u (List.mem_cons_of_mem _ hu)).2) t.ws (cl_ok ok hk (h t List.mem_cons_self).1 (h t List.mem_cons_self).2)
      rw [argw_cons]
      exact Cl.call b.1 b.2 i
  · rw [cn_app2 (cap_nres hx) fun t ht => cn_tm hF 2 t (h t ht).2 (gd_unT hk 2 t (h t ht).2 (h t ht).1)]
    exact Nat.one_le_two_pow
end
end P
/-! R59: words as a reader that stops somewhere asks for them: how high, how many, how deep; spoilt; cut. -/
namespace P
open PySem PySem.Spec PyProof.Rows L2 G
section
variable {F R : List (PySem.Str × Nat)}
theorem nsg_end : ∀ (ws : List PySem.Str) (k : Nat) (b : Bool), nsg F R k b (ws ++ [("" : PySem.Str)]) = nsg F R k b ws
  | [], k, b => by
    show nsg F R k b [("" : PySem.Str)] = k
    rw [nsg_w (by decide +kernel) (by decide +kernel)]
    show max k k = k
    omega
  | w :: ws, k, b => by
    rw [List.cons_append, nsg, nsg, nsg_end ws, nsg_end ws, nsg_end ws]
theorem cnS_pre (a b : List PySem.Str) : cnS a ≤ cnS (a ++ b) := by rw [cnS_app]; omega
theorem cnS_end (ws : List PySem.Str) : cnS (ws ++ [("" : PySem.Str)]) = cnS ws := by
  rw [cnS_app, cnS_f [] (w := "") (by decide +kernel)]; rfl
/-- no higher than M, no more than c of them, nested no deeper than N -/
structure Okw (F R : List (PySem.Str × Nat)) (M c N : Nat) (W : List PySem.Str) : Prop where
  fit : FitS M [] W
  cn : cnS W ≤ c
  ns : nsg F R 0 false W ≤ N
theorem Okw.take {M c N : Nat} {W : List PySem.Str} (h : Okw F R M c N W) (k : Nat) : Okw F R M c N (W.take k) := by
  have e := List.take_append_drop k W
  refine ⟨fit_pre _ (W.drop k) _ (by rw [e]; exact h.fit), ?_, ?_⟩
  · have := cnS_pre (W.take k) (W.drop k)
    rw [e] at this
    exact Nat.le_trans this h.cn
  · have := nsg_pre (F := F) (R := R) (W.take k) (W.drop k) 0 false
    rw [e] at this
    exact Nat.le_trans this h.ns
structure Okm (F R : List (PySem.Str × Nat)) (H n j c N : Nat) (W : List PySem.Str) : Prop where
  mix : ∃ n' j', n' ≤ n ∧ j' ≤ j ∧ Mix H n' j' W
  cn : cnS W ≤ c
  ns : nsg F R 0 false W ≤ N
theorem Okm.up {H n j c N n2 j2 c2 N2 : Nat} {W : List PySem.Str} (h : Okm F R H n j c N W) (a : n ≤ n2) (b : j ≤ j2) (e : c ≤ c2) (f : N ≤ N2) : Okm F R H n2 j2 c2 N2 W := by
  obtain ⟨n', j', h1, h2, mx⟩ := h.mix
  exact ⟨⟨n', j', by omega, by omega, mx⟩, Nat.le_trans h.cn e, Nat.le_trans h.ns f⟩
theorem nomk (ok : SgOk F R) : NoMk F ∧ NoMk R := by
  have br : ∀ {cap : Bool} {x : PySem.Str}, Nm cap x → x ≠ "(" ∧ x ≠ ")" := nm_br2
  refine ⟨⟨?_, ?_⟩, ⟨?_, ?_⟩⟩
  · cases e : lookA F "(" with
    | none => rfl
    | some k => exact absurd rfl (nm_br2 (ok.fn _ (lookA_mem' e))).1
  · cases e : lookA F ")" with
    | none => rfl
    | some k => exact absurd rfl (nm_br2 (ok.fn _ (lookA_mem' e))).2
  · cases e : lookA R "(" with
    | none => rfl
    | some k => exact absurd rfl (nm_br2 (ok.rn _ (lookA_mem' e))).1
  · cases e : lookA R ")" with
    | none => rfl
    | some k => exact absurd rfl (nm_br2 (ok.rn _ (lookA_mem' e))).2
/-- what is read of such words is no deeper than that -/
theorem Okw.depth (ok : SgOk F R) {M c N f : Nat} {W : List PySem.Str} (h : Okw F R M c N W) {kn : List PySem.Str} (hk : ∀ x, x ∈ kn → Nm false x) {zs : List W3} (ez : TX zs = W ++ [("" : PySem.Str)]) {d : FV} {r : List W3} (e : (rd F R f).sent kn zs = .ok d r) : d.py.depth ≤ c + (N + 3) := by
  have km : KnM kn := ⟨fun z => (nm_br2 (hk _ z)).1 rfl, fun z => (nm_br2 (hk _ z)).2 rfl⟩
  have := (rd_D (nomk ok).1 (nomk ok).2 N f).sent kn km zs d r (by
    show nsg F R 0 false (TX zs) ≤ N
    rw [ez, nsg_end]; exact h.ns) e
  have c1 := h.cn
  rw [cn_of zs, show zs.map (·.1) = TX zs from rfl, ez, cnS_end] at this
  omega
end
end P
/-! R60: places in terms: parts at them, other parts put there. -/
namespace P
open PySem PySem.Spec PyProof.Rows L2 G
def Tm.at' : Tm → List Nat → Option Tm
  | t, [] => some t
  | t, k :: p => match t.args[k]? with
    | none => none
    | some u => u.at' p
def Tm.put : List Nat → Tm → Tm → Tm
  | [], u, _ => u
  | k :: p, u, .var x => .var x
  | k :: p, u, .app f ts => match ts[k]? with
    | none => .app f ts
    | some v => .app f (ts.set k (Tm.put p u v))
mutual
def Tm.pls : Tm → List (List Nat)
  | .var _ => [[]]
  | .app _ ts => [] :: Tm.plss 0 ts
def Tm.plss : Nat → List Tm → List (List Nat)
  | _, [] => []
  | k, t :: ts => t.pls.map (k :: ·) ++ Tm.plss (k + 1) ts
end
theorem pls_var (x : PySem.Str) : (Tm.var x).pls = [[]] := by simp [Tm.pls]
theorem pls_app (f : PySem.Str) (ts : List Tm) : (Tm.app f ts).pls = [] :: Tm.plss 0 ts := by simp [Tm.pls]
theorem plss_nil (k : Nat) : Tm.plss k [] = [] := by simp [Tm.plss]
theorem plss_cons (k : Nat) (t : Tm) (ts : List Tm) : Tm.plss k (t :: ts) = t.pls.map (k :: ·) ++ Tm.plss (k + 1) ts := by simp [Tm.plss]
theorem at_nil (t : Tm) : t.at' [] = some t := by rw [Tm.at']
theorem at_cons (t : Tm) (k : Nat) (p : List Nat) : t.at' (k :: p) = match t.args[k]? with | none => none | some u => u.at' p := by rw [Tm.at']
theorem at_app {f : PySem.Str} {ts : List Tm} {k : Nat} {u : Tm} (p : List Nat) (h : ts[k]? = some u) : (Tm.app f ts).at' (k :: p) = u.at' p := by
  rw [at_cons, show (Tm.app f ts).args = ts from rfl, h]
mutual
/-- the parts at the places are the parts, in one order -/
theorem pls_at : ∀ t : Tm, t.pls.map t.at' = t.pre.map some
  | .var x => by rw [pls_var, pre_var, List.map_cons, List.map_nil, at_nil]; rfl
  | .app f ts => by
    rw [pls_app, pre_app, List.map_cons, List.map_cons, at_nil]
    exact congrArg _ (plss_at f [] ts)
theorem plss_at : ∀ (f : PySem.Str) (pr ts : List Tm), (Tm.plss pr.length ts).map (Tm.app f (pr ++ ts)).at' = (Tm.pres ts).map some
  | f, pr, [] => by rw [plss_nil, pres_nil]; rfl
  | f, pr, t :: ts => by
    rw [plss_cons, pres_cons, List.map_append, List.map_append, List.map_map]
    have e1 : t.pls.map ((Tm.app f (pr ++ t :: ts)).at' ∘ (pr.length :: ·)) = t.pls.map t.at' := by
      refine List.map_congr_left fun p _ => ?_
      show (Tm.app f (pr ++ t :: ts)).at' (pr.length :: p) = _
      exact at_app p (by rw [List.getElem?_append_right (Nat.le_refl _), Nat.sub_self]; rfl)
    have e2 := plss_at f (pr ++ [t]) ts
    rw [List.length_append, List.length_singleton, List.append_assoc] at e2
    have e2 : (Tm.plss (pr.length + 1) ts).map (Tm.app f (pr ++ t :: ts)).at' = (Tm.pres ts).map some := e2
    rw [e1, pls_at t, e2]
end
theorem pls_mem {t : Tm} {p : List Nat} (h : p ∈ t.pls) : ∃ u, t.at' p = some u ∧ u ∈ t.pre := by
  have : t.at' p ∈ t.pls.map t.at' := List.mem_map.mpr ⟨p, h, rfl⟩
  rw [pls_at] at this
  obtain ⟨u, hu, e⟩ := List.mem_map.mp this
  exact ⟨u, e.symm, hu⟩
theorem pls_len (t : Tm) : t.pls.length = t.pre.length := by
  have := congrArg List.length (pls_at t)
  rwa [List.length_map, List.length_map] at this
/-- parts lie no deeper, and places are no longer than the term is deep -/
theorem at_dep : ∀ (p : List Nat) (t u : Tm), t.at' p = some u → p.length + u.dep ≤ t.dep
  | [], t, u, h => by
    rw [at_nil] at h; cases h
    show 0 + _ ≤ _; omega
  | k :: p, t, u, h => by
    rw [at_cons] at h
    split at h
    · cases h
    · rename_i v e
      have := at_dep p v u h
      cases t with
      | var x => cases e
      | app f ts =>
        have m := deps_mem (List.mem_of_getElem? (show ts[k]? = some v from e))
        rw [dep_app, List.length_cons]
        omega
theorem put_nil (u t : Tm) : Tm.put [] u t = u := by rw [Tm.put]
theorem put_app {f : PySem.Str} {ts : List Tm} {k : Nat} {v : Tm} (p : List Nat) (u : Tm) (h : ts[k]? = some v) : Tm.put (k :: p) u (.app f ts) = .app f (ts.set k (Tm.put p u v)) := by
  rw [Tm.put, h]
theorem at_some {t : Tm} {k : Nat} {p : List Nat} {o : Tm} (h : t.at' (k :: p) = some o) : ∃ f ts v, t = .app f ts ∧ ts[k]? = some v ∧ v.at' p = some o := by
  cases t with
  | var x => rw [at_cons] at h; cases h
  | app f ts =>
    rw [at_cons] at h
    split at h
    · cases h
    · rename_i v e
      exact ⟨f, ts, v, rfl, e, h⟩
theorem put_at' : ∀ (p : List Nat) (t o u : Tm), t.at' p = some o → (Tm.put p u t).at' p = some u
  | [], t, o, u, h => by rw [put_nil, at_nil]
  | k :: p, t, o, u, h => by
    obtain ⟨f, ts, v, rfl, e, h2⟩ := at_some h
    rw [put_app p u e, at_app p (u := Tm.put p u v) (List.getElem?_set_self (List.getElem?_eq_some_iff.mp e).1)]
    exact put_at' p v o u h2
theorem put_put : ∀ (p : List Nat) (t o u : Tm), t.at' p = some o → Tm.put p o (Tm.put p u t) = t
  | [], t, o, u, h => by rw [at_nil] at h; cases h; rw [put_nil]
  | k :: p, t, o, u, h => by
    obtain ⟨f, ts, v, rfl, e, h2⟩ := at_some h
    have l := (List.getElem?_eq_some_iff.mp e).1
    rw [put_app p u e, put_app p o (v := Tm.put p u v) (List.getElem?_set_self l), put_put p v o u h2, List.set_set]
    congr 1
    apply List.ext_getElem?
    intro i
    by_cases hi : k = i
    · subst hi
      rw [List.getElem?_set_self l, e]
    · rw [List.getElem?_set_ne hi]
theorem nns_set : ∀ (ts : List Tm) (k : Nat) (v w : Tm), ts[k]? = some v → Tm.nns (ts.set k w) + v.nn = Tm.nns ts + w.nn
  | [], k, v, w, h => by cases h
  | t :: ts, 0, v, w, h => by
    have := Option.some.inj h
    subst this
    rw [List.set_cons_zero, nns_cons, nns_cons]; omega
  | t :: ts, k + 1, v, w, h => by
    have := nns_set ts k v w h
    rw [List.set_cons_succ, nns_cons, nns_cons]; omega
theorem put_nn : ∀ (p : List Nat) (t o u : Tm), t.at' p = some o → (Tm.put p u t).nn ≤ t.nn + u.nn
  | [], t, o, u, h => by rw [put_nil]; omega
  | k :: p, t, o, u, h => by
    obtain ⟨f, ts, v, rfl, e, h2⟩ := at_some h
    have a := put_nn p v o u h2
    have b := nns_set ts k v (Tm.put p u v) e
    rw [put_app p u e, nn_app, nn_app]; omega
theorem deps_set : ∀ (ts : List Tm) (k : Nat) (w : Tm), Tm.deps (ts.set k w) ≤ max (Tm.deps ts) w.dep
  | [], k, w => by rw [List.set_nil]; omega
  | t :: ts, 0, w => by rw [List.set_cons_zero, deps_cons, deps_cons]; omega
  | t :: ts, k + 1, w => by
    have := deps_set ts k w
    rw [List.set_cons_succ, deps_cons, deps_cons]; omega
theorem put_dep : ∀ (p : List Nat) (t o u : Tm), t.at' p = some o → (Tm.put p u t).dep ≤ t.dep + u.dep
  | [], t, o, u, h => by rw [put_nil]; omega
  | k :: p, t, o, u, h => by
    obtain ⟨f, ts, v, rfl, e, h2⟩ := at_some h
    have a := put_dep p v o u h2
    have b := deps_set ts k (Tm.put p u v)
    have m := deps_mem (List.mem_of_getElem? e)
    rw [put_app p u e, dep_app, dep_app]; omega
theorem encT : Enc Tm.fv (fun t => t.dep ≤ 60) := ⟨fv_pure, fun a h => by rw [fv_depth]; exact h, fun a b => by rw [fv_eqv, Tm.beq_dec]⟩
/-- places as the program has them -/
def plF (p : List Nat) : FV := .tup (p.map fun k => FV.int (k : Nat))
theorem pl_pure (p : List Nat) : (plF p).pure = true := by
  have : ∀ l : List Nat, FV.pures (l.map fun k => FV.int (k : Nat)) = true := fun l => by
    induction l with
    | nil => rfl
    | cons a l ih => rw [List.map_cons, FV.pures, ih]; rfl
  exact this p
theorem pl_depth (p : List Nat) : (plF p).py.depth ≤ 1 := by
  have : ∀ l : List Nat, PyData.depthAll (FV.pys (l.map fun k => FV.int (k : Nat))) = 0 := fun l => by
    induction l with
    | nil => rfl
    | cons a l ih => rw [List.map_cons, FV.pys, PyData.depthAll, ih]; rfl
  show PyData.depthAll (FV.pys (p.map fun k => FV.int (k : Nat))) + 1 ≤ 1
  rw [this]
  exact Nat.le_refl 1
theorem pls_pure (ps : List (List Nat)) : FV.pures (ps.map plF) = true := by
  induction ps with
  | nil => rfl
  | cons a l ih => rw [List.map_cons, FV.pures, ih, pl_pure]; rfl
theorem pls_depth (ps : List (List Nat)) : PyData.depthAll (FV.pys (ps.map plF)) ≤ 1 := by
  induction ps with
  | nil => exact Nat.zero_le _
  | cons a l ih =>
    rw [List.map_cons, FV.pys, PyData.depthAll]
    have := pl_depth a
    omega
end P
/-! the program as plain functions -/
namespace Q86
open PySem P
def eT : ETab := [("BadPlace", "BadPlace", true), ("BadPlace", "WorldOrPaperError", true)]
structure Tab where
  d_places_of : FV → M RV
  d_part_at : FV → FV → M RV
  d_replace_at : FV → FV → FV → M RV
  d_parts_of : FV → M RV
  d_unknowns_of : FV → M RV
  d_term_size : FV → M RV
  d_arguments : FV → M RV
  d_check_index : FV → FV → M RV
  d_all_parts : FV → M RV
  d_law_start : FV → M RV
  d_law_take : FV → FV → M RV
  d_law_term : FV → FV → M RV
  d_law_places : FV → M RV
  d_law_part : FV → FV → M RV
  d_law_put : FV → FV → FV → M RV
  d_law_refused : FV → FV → M RV
  d_law_listed : FV → M RV
  d_law : FV → M RV
def n_places_of (t : Tab) (v_term : FV) : M (Fl Unit Empty) :=
  (bnd (mL (bnd (mV (oTup [])) fun v_1 => (oLst [v_1]))) fun places_2 => (bnd (bnd (mV (t.d_arguments v_term)) fun v_4 => (bnd (oSq v_4) fun xs_3 => pur (enumF 0 xs_3))) fun xs_16 => seqN (forN (fun places_7 d => bindT (bTup (bCons some (bCons some bNil))) d (fun | (index_6, (argument_5, ())) => (bnd (mV (bnd (bnd (mV (t.d_places_of argument_5)) fun v_9 => (oW v_9)) (filL (item some (fun place_10 => (pur true)) (fun place_10 => (bnd (oTup [index_6]) fun t_11 => (oB gAdd t_11 (.v place_10)))))))) fun v_14 => (bnd (oL v_14) fun es_13 => bnd (oExt places_7 es_13) fun places_8 => (pur (.nx places_8)))))) xs_16 places_2) (fun places_15 => (pur (.rt (.l places_15))))))
def n_part_at (t : Tab) (v_term v_place : FV) : M (Fl Unit Empty) :=
  (bnd (pur v_term) fun part_1 => (bnd (oW v_place) fun xs_7 => seqN (forN (fun part_3 index_2 => (bnd (t.d_check_index part_3 index_2) fun _ => (bnd (mV (bnd (oB gAdd (.v index_2) (.v (.int 1))) fun t_4 => (oB gIx (.v part_3) t_4))) fun part_5 => (pur (.nx part_5))))) xs_7 part_1) (fun part_6 => (ret (pur (.v part_6))))))
def n_replace_at (t : Tab) (v_term v_place v_part : FV) : M (Fl Unit Empty) :=
  (bnd (mL (oLst [v_term])) fun way_1 => (bnd (oW v_place) fun xs_29 => seqN (forN (fun way_3 index_2 => (bnd (bnd (mV (bnd (oU gNeg (.v (.int 1))) fun t_4 => (oB gIx (.bl way_3) t_4))) fun v_5 => (t.d_check_index v_5 index_2)) fun _ => (bnd (mV (bnd (bnd (oU gNeg (.v (.int 1))) fun t_7 => (oB gIx (.bl way_3) t_7)) fun t_8 => (bnd (oB gAdd (.v index_2) (.v (.int 1))) fun t_9 => (oB gIx t_8 t_9)))) fun v_10 => (bnd (oApp way_3 v_10) fun way_6 => (pur (.nx way_6)))))) xs_29 way_1) (fun way_11 => (bnd (pur v_part) fun replaced_12 => (bnd (bnd (mV (oZipTL v_place (.fl way_11))) fun v_14 => (bnd (oLs v_14) fun xs_13 => pur xs_13.reverse)) fun xs_28 => seqN (forN (fun replaced_17 d => bindT (bTup (bCons some (bCons some bNil))) d (fun | (index_16, (holder_15, ())) => (bnd (mV (bnd (bnd (bnd (bnd (oB gAdd (.v index_16) (.v (.int 1))) fun t_18 => (oPt t_18)) fun o_19 => (oSl (.v holder_15) none o_19)) fun t_20 => (bnd (oTup [replaced_17]) fun t_21 => (oB gAdd t_20 t_21))) fun t_24 => (bnd (bnd (bnd (oB gAdd (.v index_16) (.v (.int 2))) fun t_22 => (oPt t_22)) fun o_23 => (oSl (.v holder_15) o_23 none)) fun t_25 => (oB gAdd t_24 t_25)))) fun replaced_26 => (pur (.nx replaced_26))))) xs_28 replaced_12) (fun replaced_27 => (ret (pur (.v replaced_27)))))))))
def n_parts_of (t : Tab) (v_term : FV) : M (Fl Unit Empty) :=
  (bnd (mL (oLst [])) fun parts_1 => (bnd (bnd (mV (t.d_all_parts v_term)) fun v_2 => (oW v_2)) fun xs_8 => seqN (forN (fun parts_4 part_3 => (bnd (oC (gMx true) (.v part_3) (.bl parts_4)) fun c_5 => if c_5 = true then (bnd (oApp parts_4 part_3) fun parts_6 => (pur (.nx parts_6))) else (pur (.nx parts_4)))) xs_8 parts_1) (fun parts_7 => (pur (.rt (.l parts_7))))))
def n_unknowns_of (t : Tab) (v_term : FV) : M (Fl Unit Empty) :=
  (bnd (mD (pur (.d []))) fun found_1 => (bnd (bnd (mV (t.d_all_parts v_term)) fun v_2 => (oW v_2)) fun xs_9 => seqN (forN (fun found_4 part_3 => (bnd (bnd (oU (gIs "str") (.v part_3)) fun t_5 => (oT t_5)) fun c_6 => if c_6 = true then (bnd (oPut found_4 (.v part_3) (.bl true)) fun found_7 => (pur (.nx found_7))) else (pur (.nx found_4)))) xs_9 found_1) (fun found_8 => (ret (oU gList (.bd found_8))))))
def n_term_size (t : Tab) (v_term : FV) : M (Fl Unit Empty) :=
  (ret (bnd (t.d_all_parts v_term) fun t_1 => (oU gLen t_1)))
def n_arguments (t : Tab) (v_term : FV) : M (Fl Unit Empty) :=
  (bnd (bnd (oU (gIs "str") (.v v_term)) fun t_1 => (oT t_1)) fun c_2 => if c_2 = true then ret (oTup []) else (ret (oSl (.v v_term) (some 1) none)))
def n_check_index (t : Tab) (v_part v_index : FV) : M (Fl Unit Empty) :=
  (bnd (mNot (oChain gLe gLt (.v (.int 0)) (.v v_index) (bnd (t.d_arguments v_part) fun t_1 => (oU gLen t_1)))) fun c_2 => if c_2 = true then (thr "BadPlace") else (pur (.nx ())))
def n_all_parts (t : Tab) (v_term : FV) : M (Fl Unit Empty) :=
  (bnd (mL (oLst [])) fun parts_1 => (bnd (mL (oLst [v_term])) fun due_2 => (seqN (whileN (fun | (parts_3, due_4) => (bnd (oU gLen (.bl due_4)) fun t_5 => (oC gGt t_5 (.v (.int 0))))) (fun | (parts_3, due_4) => (bnd (oPopO due_4) (fun | (part_7, due_6) => (bnd (oApp parts_3 part_7) fun parts_8 => (bnd (mV (bnd (t.d_arguments part_7) fun t_10 => (oU (gRevS none) t_10))) fun v_12 => (bnd (oLu v_12) fun es_11 => bnd (oExt due_6 es_11) fun due_9 => (pur (.nx (parts_8, due_9))))))))) FUEL (parts_1, due_2)) (fun | (parts_14, due_15) => (pur (.rt (.l parts_14)))))))
def n_law_start (t : Tab) (v_law_script : FV) : M (Fl Unit Empty) :=
  (bnd (mL (oLst [])) fun law_row_1 => (bnd (pur (.int 17)) fun law_seed_2 => (bnd (bnd (oU gLen (.v v_law_script)) fun t_3 => (oR1 t_3)) fun xs_44 => seqN (forN (fun | (law_row_5, law_seed_6), law_k_4 => (bnd (mV (bnd (oB gIx (.v v_law_script) (.v law_k_4)) fun t_7 => (oU gAbs t_7))) fun law_cell_8 => (bnd (mV (bnd (bnd (bnd (bnd (oB gMul (.v law_seed_6) (.v (.int 31))) fun t_9 => (oB gAdd t_9 (.v law_cell_8))) fun t_10 => (oB gAdd t_10 (.v law_k_4))) fun t_11 => (oU gInt t_11)) fun t_12 => (oB gMod t_12 (.v (.int 2147483647))))) fun law_seed_13 => (bnd (bnd (oB gPow (.v (.int 10)) (.v (.int 18))) fun t_14 => (oC gGe (.v law_cell_8) t_14)) fun c_15 => if c_15 = true then (bnd (mV (bnd (oB gPow (.v (.int 10)) (.v (.int 18))) fun t_16 => (oB gMns (.v law_cell_8) t_16))) fun law_cell_17 => (bnd (oR1 (.v (.int 60))) fun xs_28 => seqN (forN (fun | (law_row_19, law_cell_20), law_j_18 => (bnd (oC gGt (.v law_cell_20) (.v (.int 0))) fun c_21 => if c_21 = true then (bnd (mV (bnd (oU gInt (.v law_cell_20)) fun t_23 => (oB gMod t_23 (.v (.int 840))))) fun v_25 => (bnd (oApp law_row_19 v_25) fun law_row_22 => (bnd (mV (oB gDiv (.v law_cell_20) (.v (.int 840)))) fun law_cell_24 => (pur (.nx (law_row_22, law_cell_24)))))) else (pur (.nx (law_row_19, law_cell_20))))) xs_28 (law_row_5, law_cell_17)) (fun | (law_row_26, law_cell_27) => (pur (.nx (law_row_26, law_seed_13)))))) else (bnd (mV (bnd (bnd (bnd (bnd (oB gAdd (.v law_cell_8) (.v (.int 1))) fun t_29 => (oB gMul t_29 (.v (.int 48271)))) fun t_30 => (bnd (oB gMul (.v law_k_4) (.v (.int 69621))) fun t_31 => (oB gAdd t_30 t_31))) fun t_32 => (oU gInt t_32)) fun t_33 => (oB gMod t_33 (.v (.int 2147483647))))) fun law_mixed_34 => (bnd (mV (bnd (bnd (bnd (oB gMul (.v law_mixed_34) (.v (.int 40692))) fun t_35 => (oB gAdd t_35 (.v (.int 5)))) fun t_36 => (oU gInt t_36)) fun t_37 => (oB gMod t_37 (.v (.int 2147483399))))) fun law_mixed_38 => (bnd (mV (bnd (oB gDiv (.v law_mixed_38) (.v (.int 13))) fun t_40 => (oB gMod t_40 (.v (.int 840))))) fun v_41 => (bnd (oApp law_row_5 v_41) fun law_row_39 => (pur (.nx (law_row_39, law_seed_13))))))))))) xs_44 (law_row_1, law_seed_2)) (fun | (law_row_42, law_seed_43) => (ret (oLst [(.fl law_row_42), (.int 0), law_seed_43]))))))
def n_law_take (t : Tab) (v_law_state v_law_many : FV) : M (Fl Unit Empty) :=
  (bnd (mV (oB gIx (.v v_law_state) (.v (.int 1)))) fun law_at_1 => (bnd (mV (oB gAdd (.v law_at_1) (.v (.int 1)))) fun v_20 => (bnd (oSet v_20 (.v v_law_state) (.v (.int 1))) fun _ => (bnd (bnd (bnd (oB gIx (.v v_law_state) (.v (.int 0))) fun t_2 => (oU gLen t_2)) fun t_3 => (oC gLt (.v law_at_1) t_3)) fun c_4 => if c_4 = true then ret (bnd (bnd (bnd (oB gIx (.v v_law_state) (.v (.int 0))) fun t_5 => (oB gIx t_5 (.v law_at_1))) fun t_6 => (oU gInt t_6)) fun t_7 => (oB gMod t_7 (.v v_law_many))) else (bnd (mV (bnd (bnd (bnd (bnd (oB gIx (.v v_law_state) (.v (.int 2))) fun t_8 => (bnd (oB gMul (.v law_at_1) (.v (.int 40503))) fun t_9 => (oB gAdd t_8 t_9))) fun t_10 => (oB gMul t_10 (.v (.int 48271)))) fun t_11 => (oU gInt t_11)) fun t_12 => (oB gMod t_12 (.v (.int 2147483647))))) fun law_mixed_13 => (bnd (mV (bnd (bnd (bnd (oB gMul (.v law_mixed_13) (.v (.int 69621))) fun t_14 => (bnd (oB gMul (.v law_at_1) (.v law_at_1)) fun t_15 => (oB gAdd t_14 t_15))) fun t_16 => (oU gInt t_16)) fun t_17 => (oB gMod t_17 (.v (.int 2147483629))))) fun law_mixed_18 => (ret (bnd (oB gDiv (.v law_mixed_18) (.v (.int 11))) fun t_19 => (oB gMod t_19 (.v v_law_many))))))))))
def n_law_term (t : Tab) (v_law_state v_law_depth : FV) : M (Fl Unit Empty) :=
  (bnd (mV (t.d_law_take v_law_state (.int 8))) fun law_kind_1 => (bnd (mOr (oC (gQ false) (.v v_law_depth) (.v (.int 0))) (oC gLt (.v law_kind_1) (.v (.int 3)))) fun c_2 => if c_2 = true then up (bnd (mV (bnd (mV (oTup [(.str "a")])) fun v_3 => (bnd (mV (oTup [(.str "b")])) fun v_4 => (bnd (mV (oTup [(.str "longname12")])) fun v_5 => (oLst [(.str "x"), (.str "y"), (.str "z9"), v_3, v_4, v_5]))))) fun law_leaves_6 => (ret (bnd (t.d_law_take v_law_state (.int 6)) fun t_7 => (oB gIx (.v law_leaves_6) t_7)))) else (bnd (oC gLt (.v law_kind_1) (.v (.int 5))) fun c_8 => if c_8 = true then ret (bnd (mV (bnd (mV (oB gMns (.v v_law_depth) (.v (.int 1)))) fun v_9 => (t.d_law_term v_law_state v_9))) fun v_10 => (oTup [(.str "f"), v_10])) else (bnd (oC gLt (.v law_kind_1) (.v (.int 7))) fun c_11 => if c_11 = true then ret (bnd (mV (bnd (mV (oB gMns (.v v_law_depth) (.v (.int 1)))) fun v_12 => (t.d_law_term v_law_state v_12))) fun v_14 => (bnd (mV (bnd (mV (oB gMns (.v v_law_depth) (.v (.int 1)))) fun v_13 => (t.d_law_term v_law_state v_13))) fun v_15 => (oTup [(.str "g"), v_14, v_15]))) else (ret (bnd (mV (bnd (mV (oB gMns (.v v_law_depth) (.v (.int 1)))) fun v_16 => (t.d_law_term v_law_state v_16))) fun v_19 => (bnd (mV (bnd (mV (oB gMns (.v v_law_depth) (.v (.int 1)))) fun v_17 => (t.d_law_term v_law_state v_17))) fun v_20 => (bnd (mV (bnd (mV (oB gMns (.v v_law_depth) (.v (.int 1)))) fun v_18 => (t.d_law_term v_law_state v_18))) fun v_21 => (oTup [(.str "h2"), v_19, v_20, v_21])))))))))
def n_law_places (t : Tab) (v_law_term_here : FV) : M (Fl Unit Empty) :=
  (bnd (mV (bnd (mV (oTup [])) fun v_1 => (oLst [v_1]))) fun law_places_here_2 => (bnd (mNot (bnd (oU (gIs "str") (.v v_law_term_here)) fun t_3 => (oT t_3))) fun c_4 => seqN (if c_4 = true then (bnd (bnd (oU gLen (.v v_law_term_here)) fun t_6 => (oR2 (.v (.int 1)) t_6)) fun xs_18 => seqN (forN (fun law_places_here_8 law_k_7 => (bnd (mV (bnd (bnd (bnd (mV (bnd (mV (oB gIx (.v v_law_term_here) (.v law_k_7))) fun v_9 => (t.d_law_places v_9))) fun v_10 => (oW v_10)) (filL (item some (fun law_place_11 => (pur true)) (fun law_place_11 => (bnd (bnd (mV (oB gMns (.v law_k_7) (.v (.int 1)))) fun v_12 => (oTup [v_12])) fun t_13 => (oB gAdd t_13 (.v law_place_11))))))) fun t_15 => (oB gAdd (.v law_places_here_8) t_15))) fun law_places_here_16 => (pur (.nx law_places_here_16)))) xs_18 law_places_here_2) (fun law_places_here_17 => (pur (.nx law_places_here_17)))) else (pur (.nx law_places_here_2))) (fun law_places_here_5 => (ret (pur (.v law_places_here_5))))))
def n_law_part (t : Tab) (v_law_term_here v_law_place : FV) : M (Fl Unit Empty) :=
  (bnd (oW v_law_place) fun xs_6 => seqN (forN (fun law_term_here_2 law_k_1 => (bnd (mV (bnd (oB gAdd (.v law_k_1) (.v (.int 1))) fun t_3 => (oB gIx (.v law_term_here_2) t_3))) fun law_term_here_4 => (pur (.nx law_term_here_4)))) xs_6 v_law_term_here) (fun law_term_here_5 => (ret (pur (.v law_term_here_5)))))
def n_law_put (t : Tab) (v_law_term_here v_law_place v_law_part_here : FV) : M (Fl Unit Empty) :=
  (bnd (bnd (oU gLen (.v v_law_place)) fun t_1 => (oC (gQ false) t_1 (.v (.int 0)))) fun c_2 => if c_2 = true then ret (pur (.v v_law_part_here)) else (bnd (mL (oU gList (.v v_law_term_here))) fun law_row_3 => (bnd (mV (bnd (mV (bnd (bnd (oB gIx (.v v_law_place) (.v (.int 0))) fun t_4 => (oB gAdd t_4 (.v (.int 1)))) fun t_5 => (oB gIx (.bl law_row_3) t_5))) fun v_6 => (bnd (mV (oSl (.v v_law_place) (some 1) none)) fun v_7 => (t.d_law_put v_6 v_7 v_law_part_here)))) fun v_10 => (bnd (bnd (oB gIx (.v v_law_place) (.v (.int 0))) fun t_8 => (oB gAdd t_8 (.v (.int 1)))) fun t_11 => (bnd (oSetI law_row_3 t_11 v_10) fun law_row_9 => (ret (oU gTup (.bl law_row_9))))))))
def n_law_refused (t : Tab) (v_law_term_here v_law_place : FV) : M (Fl Unit Empty) :=
  (seqN (tryN eT "WorldOrPaperError" (bnd (t.d_part_at v_law_term_here v_law_place) fun _ => (pur (.nx ()))) (fun _ => (ret (pur (.v (.bl false))))) (fun c => (bnd (mNot (bnd (isN eT c "BadPlace") oT)) fun c_1 => if c_1 = true then (ret (pur (.v (.bl false)))) else (pur (.nx ()))))) (fun _ => (seqN (tryN eT "WorldOrPaperError" (bnd (bnd (mV (oTup [(.str "a")])) fun v_2 => (t.d_replace_at v_law_term_here v_law_place v_2)) fun _ => (pur (.nx ()))) (fun _ => (pur (.nx ()))) (fun c => (ret (isN eT c "BadPlace")))) (fun _ => (ret (pur (.v (.bl false))))))))
def n_law_listed (t : Tab) (v_law_term_here : FV) : M (Fl Unit Empty) :=
  (bnd (mV (bnd (bnd (mV (t.d_law_places v_law_term_here)) fun v_1 => (oW v_1)) (filL (item some (fun law_place_2 => (pur true)) (fun law_place_2 => (t.d_law_part v_law_term_here law_place_2)))))) fun law_parts_4 => (bnd (mL (oLst [])) fun law_found_5 => (bnd (mL (oLst [])) fun law_names_6 => (bnd (oW law_parts_4) fun xs_29 => seqN (forN (fun | (law_found_8, law_names_9), law_part_here_7 => (bnd (oC (gMx true) (.v law_part_here_7) (.bl law_found_8)) fun c_10 => seqN (if c_10 = true then (bnd (oApp law_found_8 law_part_here_7) fun law_found_15 => (pur (.nx law_found_15))) else (pur (.nx law_found_8))) (fun law_found_11 => (bnd (mAnd (bnd (oU (gIs "str") (.v law_part_here_7)) fun t_12 => (oT t_12)) (oC (gMx true) (.v law_part_here_7) (.bl law_names_9))) fun c_13 => if c_13 = true then (bnd (oApp law_names_9 law_part_here_7) fun law_names_14 => (pur (.nx (law_found_11, law_names_14)))) else (pur (.nx (law_found_11, law_names_9))))))) xs_29 (law_found_5, law_names_6)) (fun | (law_found_16, law_names_17) => (bnd (mV (t.d_term_size v_law_term_here)) fun law_size_18 => (bnd (mOr (mNot (bnd (oU (gIs "int") (.v law_size_18)) fun t_19 => (oT t_19))) (mOr (bnd (oU (gIs "bool") (.v law_size_18)) fun t_20 => (oT t_20)) (bnd (oU gLen (.v law_parts_4)) fun t_21 => (oC (gQ true) (.v law_size_18) t_21)))) fun c_22 => if c_22 = true then ret (pur (.v (.bl false))) else (ret (bnd (mB (bnd (t.d_places_of v_law_term_here) fun t_23 => (bnd (t.d_law_places v_law_term_here) fun t_24 => (oC (gQ false) t_23 t_24)))) fun t_28 => (oAndV t_28 (bnd (mB (bnd (t.d_parts_of v_law_term_here) fun t_25 => (oC (gQ false) t_25 (.bl law_found_16)))) fun t_27 => (oAndV t_27 (mB (bnd (t.d_unknowns_of v_law_term_here) fun t_26 => (oC (gQ false) t_26 (.bl law_names_17))))))))))))))))
def n_law (t : Tab) (v_law_script : FV) : M (Fl Unit Empty) :=
  (bnd (mT (t.d_law_start v_law_script)) fun law_state_1 => (bnd (mV (t.d_law_term law_state_1 (.int 4))) fun law_term_here_2 => (bnd (mV (t.d_law_term law_state_1 (.int 2))) fun law_part_here_3 => (bnd (mV (t.d_law_places law_term_here_2)) fun law_places_here_4 => (bnd (mV (bnd (bnd (mV (oU gLen (.v law_places_here_4))) fun v_5 => (t.d_law_take law_state_1 v_5)) fun t_6 => (oB gIx (.v law_places_here_4) t_6))) fun law_place_7 => (bnd (oW law_places_here_4) fun xs_36 => seqN (forN (fun _ law_here_8 => (bnd (bnd (t.d_part_at law_term_here_2 law_here_8) fun t_9 => (bnd (t.d_law_part law_term_here_2 law_here_8) fun t_10 => (oC (gQ true) t_9 t_10))) fun c_11 => if c_11 = true then (ret (pur (.v (.bl false)))) else (pur (.nx ())))) xs_36 ()) (fun _ => (bnd (mV (t.d_law_put law_term_here_2 law_place_7 law_part_here_3)) fun law_due_12 => (bnd (mV (t.d_replace_at law_term_here_2 law_place_7 law_part_here_3)) fun law_actual_13 => (bnd (mOr (oC (gQ true) (.v law_actual_13) (.v law_due_12)) (bnd (t.d_part_at law_actual_13 law_place_7) fun t_14 => (oC (gQ true) t_14 (.v law_part_here_3)))) fun c_15 => if c_15 = true then ret (pur (.v (.bl false))) else (bnd (mV (t.d_law_part law_term_here_2 law_place_7)) fun law_old_16 => (bnd (bnd (t.d_replace_at law_actual_13 law_place_7 law_old_16) fun t_17 => (oC (gQ true) t_17 (.v law_term_here_2))) fun c_18 => if c_18 = true then ret (pur (.v (.bl false))) else (bnd (mV (bnd (bnd (mV (bnd (oU gLen (.v law_old_16)) fun t_19 => (oB gMns t_19 (.v (.int 1))))) fun v_20 => (oTup [v_20])) fun t_21 => (oB gAdd (.v law_place_7) t_21))) fun law_beyond_22 => (bnd (bnd (oU (gIs "str") (.v law_old_16)) fun t_23 => (oT t_23)) fun c_24 => seqN (if c_24 = true then (bnd (mV (bnd (bnd (mV (t.d_law_take law_state_1 (.int 3))) fun v_33 => (oTup [v_33])) fun t_34 => (oB gAdd (.v law_place_7) t_34))) fun law_beyond_35 => (pur (.nx law_beyond_35))) else (pur (.nx law_beyond_22))) (fun law_beyond_25 => (bnd (mOr (mNot (bnd (t.d_law_refused law_term_here_2 law_beyond_25) fun t_26 => (oT t_26))) (mNot (bnd (bnd (mV (bnd (oTup [(.int 0)]) fun t_27 => (oB gAdd (.v law_beyond_25) t_27))) fun v_28 => (t.d_law_refused law_term_here_2 v_28)) fun t_29 => (oT t_29)))) fun c_30 => if c_30 = true then ret (pur (.v (.bl false))) else (ret (bnd (t.d_law_listed law_term_here_2) fun t_32 => (oAndV t_32 (bnd (t.d_law_listed law_part_here_3) fun t_31 => (oAndV t_31 (t.d_law_listed law_due_12))))))))))))))))))))))
def T : Nat → Tab
  | 0 => ⟨fun _ => fail, fun _ _ => fail, fun _ _ _ => fail, fun _ => fail, fun _ => fail, fun _ => fail, fun _ => fail, fun _ _ => fail, fun _ => fail, fun _ => fail, fun _ _ => fail, fun _ _ => fail, fun _ => fail, fun _ _ => fail, fun _ _ _ => fail, fun _ _ => fail, fun _ => fail, fun _ => fail⟩
  | n + 1 => {
      d_places_of := fun a0 => gcM (toF (n_places_of (T n) a0))
      d_part_at := fun a0 a1 => gcM (toF (n_part_at (T n) a0 a1))
      d_replace_at := fun a0 a1 a2 => gcM (toF (n_replace_at (T n) a0 a1 a2))
      d_parts_of := fun a0 => gcM (toF (n_parts_of (T n) a0))
      d_unknowns_of := fun a0 => gcM (toF (n_unknowns_of (T n) a0))
      d_term_size := fun a0 => gcM (toF (n_term_size (T n) a0))
      d_arguments := fun a0 => gcM (toF (n_arguments (T n) a0))
      d_check_index := fun a0 a1 => gcM (toF (n_check_index (T n) a0 a1))
      d_all_parts := fun a0 => gcM (toF (n_all_parts (T n) a0))
      d_law_start := fun a0 => gcM (toF (n_law_start (T n) a0))
      d_law_take := fun a0 a1 => gcM (toF (n_law_take (T n) a0 a1))
      d_law_term := fun a0 a1 => gcM (toF (n_law_term (T n) a0 a1))
      d_law_places := fun a0 => gcM (toF (n_law_places (T n) a0))
      d_law_part := fun a0 a1 => gcM (toF (n_law_part (T n) a0 a1))
      d_law_put := fun a0 a1 a2 => gcM (toF (n_law_put (T n) a0 a1 a2))
      d_law_refused := fun a0 a1 => gcM (toF (n_law_refused (T n) a0 a1))
      d_law_listed := fun a0 => gcM (toF (n_law_listed (T n) a0))
      d_law := fun a0 => gcM (toF (n_law (T n) a0)) }
theorem T_places_of (n : Nat) (a0 : FV) : (T (n + 1)).d_places_of a0 = gcM (toF (n_places_of (T n) a0)) := rfl
theorem T_part_at (n : Nat) (a0 a1 : FV) : (T (n + 1)).d_part_at a0 a1 = gcM (toF (n_part_at (T n) a0 a1)) := rfl
theorem T_replace_at (n : Nat) (a0 a1 a2 : FV) : (T (n + 1)).d_replace_at a0 a1 a2 = gcM (toF (n_replace_at (T n) a0 a1 a2)) := rfl
theorem T_parts_of (n : Nat) (a0 : FV) : (T (n + 1)).d_parts_of a0 = gcM (toF (n_parts_of (T n) a0)) := rfl
theorem T_unknowns_of (n : Nat) (a0 : FV) : (T (n + 1)).d_unknowns_of a0 = gcM (toF (n_unknowns_of (T n) a0)) := rfl
theorem T_term_size (n : Nat) (a0 : FV) : (T (n + 1)).d_term_size a0 = gcM (toF (n_term_size (T n) a0)) := rfl
theorem T__arguments (n : Nat) (a0 : FV) : (T (n + 1)).d_arguments a0 = gcM (toF (n_arguments (T n) a0)) := rfl
theorem T__check_index (n : Nat) (a0 a1 : FV) : (T (n + 1)).d_check_index a0 a1 = gcM (toF (n_check_index (T n) a0 a1)) := rfl
theorem T__all_parts (n : Nat) (a0 : FV) : (T (n + 1)).d_all_parts a0 = gcM (toF (n_all_parts (T n) a0)) := rfl
theorem T__law_start (n : Nat) (a0 : FV) : (T (n + 1)).d_law_start a0 = gcM (toF (n_law_start (T n) a0)) := rfl
theorem T__law_take (n : Nat) (a0 a1 : FV) : (T (n + 1)).d_law_take a0 a1 = gcM (toF (n_law_take (T n) a0 a1)) := rfl
theorem T__law_term (n : Nat) (a0 a1 : FV) : (T (n + 1)).d_law_term a0 a1 = gcM (toF (n_law_term (T n) a0 a1)) := rfl
theorem T__law_places (n : Nat) (a0 : FV) : (T (n + 1)).d_law_places a0 = gcM (toF (n_law_places (T n) a0)) := rfl
theorem T__law_part (n : Nat) (a0 a1 : FV) : (T (n + 1)).d_law_part a0 a1 = gcM (toF (n_law_part (T n) a0 a1)) := rfl
theorem T__law_put (n : Nat) (a0 a1 a2 : FV) : (T (n + 1)).d_law_put a0 a1 a2 = gcM (toF (n_law_put (T n) a0 a1 a2)) := rfl
theorem T__law_refused (n : Nat) (a0 a1 : FV) : (T (n + 1)).d_law_refused a0 a1 = gcM (toF (n_law_refused (T n) a0 a1)) := rfl
theorem T__law_listed (n : Nat) (a0 : FV) : (T (n + 1)).d_law_listed a0 = gcM (toF (n_law_listed (T n) a0)) := rfl
theorem T_law (n : Nat) (a0 : FV) : (T (n + 1)).d_law a0 = gcM (toF (n_law (T n) a0)) := rfl
end Q86
namespace Q86
open PySem PySem.Spec PyProof.Rows L2 G P
def top (i : Nat) : Stmt := PySem.Challenge.pw_worldorpaper_k86_parts_and_places.main.body.getD i (.Pass ⟨0, 0, 0, 0⟩)
section
variable {P : Program} {w : World} {K : PySem.W.Frag} {mg : Str → Option Value} {base : Heap}
/-! ### places_of -/
abbrev s_places_of : Stmt := top 4
abbrev N_places_of : List Str := ["term", "places", "index", "argument", "place"]
theorem sc_places_of : FnScope N_places_of ["term"] (defScope s_places_of) := ⟨rfl, rfl, rfl, by decide +kernel, rfl, by decide +kernel, by decide +kernel⟩
theorem ok_places_of {a : Addr} {fd : FuncData} {n : Nat} {t : Tab} (F : Fun K "places_of" "places_of" s_places_of a fd) (h__arguments : HasF P w K mg base n "_arguments" ["term"] (f1 t.d_arguments)) (h_places_of : HasF P w K mg base n "places_of" ["term"] (f1 t.d_places_of))  (m_enumerate : mg "enumerate" = none)       :
    FnOk P w K mg base (L2.CX P w) (n + 1) a fd ["term"] (spP ⟨K, mg⟩ (f1 fun v_term => toF (n_places_of t v_term))) :=
  mk_fnP (nL := 4) (b := b1 (n_places_of t)) F sc_places_of rfl rfl (arg1 fun _ => trivial) fun cdv A outer s H E hr => by
    have tk : Tk (CxP P w K mg base N_places_of "places_of" (defScope s_places_of) a cdv A outer s H E) (fun cls d _ H => E cls d H) := .inl (takes_of rfl rfl rfl rfl)
    have te : TkE (CxP P w K mg base N_places_of "places_of" (defScope s_places_of) a cdv A outer s H E) (fun cls d _ H => E cls d H) := te_own (takes_of rfl rfl rfl rfl)
    have hp : PassesOwn (model P w) (CxP P w K mg base N_places_of "places_of" (defScope s_places_of) a cdv A outer s H E).A (CxP P w K mg base N_places_of "places_of" (defScope s_places_of) a cdv A outer s H E).env (CxP P w K mg base N_places_of "places_of" (defScope s_places_of) a cdv A outer s H E).xe := passes_of rfl
    have hN : (CxP P w K mg base N_places_of "places_of" (defScope s_places_of) a cdv A outer s H E).N.Nodup := sc_places_of.nd
    have w0 : ∀ {Γ : Sl}, SubX none Γ := trivial
    exact arg1 fun v_term E' => (show JB _ _ _ _ _ _ _ _ (n_places_of t v_term) from (jb_setL 1 w0 hN (JE.to (je_lst (ja_cons (je_tup ja_nil) ja_nil)) fun _ => rfl) (Γ' := fun places_2 => [some (.v v_term), some (.l places_2), none, none, none]) (fun places_2 => (jb_for (A := List FV) ((fun places_15 => [some (.v v_term), some (.l places_15), none, none, none] : (List FV) → Sl)) places_2 (Γb := fun | places_7, (index_6, (argument_5, ())) => [some (.v v_term), some (.l places_7), some (.v index_6), some (.v argument_5), none]) (hΓ := fun | places_7, (index_6, (argument_5, ())) => rfl) w0 hp rfl (JI.to (ji_enum m_enumerate (je_call tk h__arguments hr (Nat.le_refl _) (ja_cons (je_var (r := .v v_term) 0 rfl) ja_nil))) fun _ => rfl) (jg_tup rfl (jg_cons (jg_name 2 hN) (jg_cons (jg_name 3 hN) jg_nil))) (fun | places_7, (index_6, (argument_5, ())) => (jb_extend 1 w0 (JE.to (je_lc [("place", 4)] rfl hN (JI.to (ji_seq (je_call tk h_places_of hr (Nat.le_refl _) (ja_cons (je_var (r := .v argument_5) 3 rfl) ja_nil))) fun _ => rfl) (blkOk_by (N := N_places_of) (sc := defScope s_places_of) (by decide +kernel)) (jgb_name 4 (fun _ _ _ _ _ => hN)) (by decide) (fun place_10 => fun _ _ _ _ _ => (JTs.to jts_nil fun _ => rfl)) (fun place_10 => fun _ _ _ _ _ => (JE.to (je_add (je_tup (ja_cons (je_var (r := .v index_6) 2 rfl) ja_nil)) (je_var (r := .v place_10) 4 rfl)) fun _ => rfl)) (hΓ := fun place_10 => rfl) (Γc := fun place_10 => [some (.v v_term), some (.l places_7), some (.v index_6), some (.v argument_5), some (.v place_10)]) (t := fun place_10 => (pur true)) (fe := fun place_10 => (bnd (oTup [index_6]) fun t_11 => (oB gAdd t_11 (.v place_10))))) fun _ => rfl) (Γ' := fun places_8 => [some (.v v_term), some (.l places_8), some (.v index_6), some (.v argument_5), none]) (fun places_8 => (jb_nil (a := places_8) (.keep (.keep (.drop (.drop (.keep .nil))))))))) (.keep (.keep (.keep (.keep (.keep .nil))))) (fun places_15 => (jb_retS 1))))))
/-! ### part_at -/
abbrev s_part_at : Stmt := top 5
abbrev N_part_at : List Str := ["term", "place", "part", "index"]
theorem sc_part_at : FnScope N_part_at ["term", "place"] (defScope s_part_at) := ⟨rfl, rfl, rfl, by decide +kernel, rfl, by decide +kernel, by decide +kernel⟩
theorem ok_part_at {a : Addr} {fd : FuncData} {n : Nat} {t : Tab} (F : Fun K "part_at" "part_at" s_part_at a fd) (h__check_index : HasF P w K mg base n "_check_index" ["part", "index"] (f2 t.d_check_index))         :
    FnOk P w K mg base (L2.CX P w) (n + 1) a fd ["term", "place"] (spP ⟨K, mg⟩ (f2 fun v_term v_place => toF (n_part_at t v_term v_place))) :=
  mk_fnP (nL := 2) (b := b2 (n_part_at t)) F sc_part_at rfl rfl (arg2 fun _ _ => trivial) fun cdv A outer s H E hr => by
    have tk : Tk (CxP P w K mg base N_part_at "part_at" (defScope s_part_at) a cdv A outer s H E) (fun cls d _ H => E cls d H) := .inl (takes_of rfl rfl rfl rfl)
    have te : TkE (CxP P w K mg base N_part_at "part_at" (defScope s_part_at) a cdv A outer s H E) (fun cls d _ H => E cls d H) := te_own (takes_of rfl rfl rfl rfl)
    have hp : PassesOwn (model P w) (CxP P w K mg base N_part_at "part_at" (defScope s_part_at) a cdv A outer s H E).A (CxP P w K mg base N_part_at "part_at" (defScope s_part_at) a cdv A outer s H E).env (CxP P w K mg base N_part_at "part_at" (defScope s_part_at) a cdv A outer s H E).xe := passes_of rfl
    have hN : (CxP P w K mg base N_part_at "part_at" (defScope s_part_at) a cdv A outer s H E).N.Nodup := sc_part_at.nd
    have w0 : ∀ {Γ : Sl}, SubX none Γ := trivial
    exact arg2 fun v_term v_place E' => (show JB _ _ _ _ _ _ _ _ (n_part_at t v_term v_place) from (jb_set 2 w0 hN (JE.to (je_var (r := .v v_term) 0 rfl) fun _ => rfl) (Γ' := fun part_1 => [some (.v v_term), some (.v v_place), some (.v part_1), none]) (fun part_1 => (jb_forS (A := FV) ((fun part_6 => [some (.v v_term), some (.v v_place), some (.v part_6), none] : (FV) → Sl)) part_1 (Γb := fun part_3 index_2 => [some (.v v_term), some (.v v_place), some (.v part_3), some (.v index_2)]) (hΓ := fun part_3 index_2 => rfl) w0 hp rfl (JI.to (ji_seq (je_var (r := .v v_place) 1 rfl)) fun _ => rfl) (jg_name 3 hN) (fun part_3 index_2 => (jb_expr w0 (JE.to (je_call tk h__check_index hr (Nat.le_refl _) (ja_cons (je_var (r := .v part_3) 2 rfl) (ja_cons (je_var (r := .v index_2) 3 rfl) ja_nil))) fun _ => rfl) (jb_set 2 w0 hN (JE.to (je_ix hr (je_var (r := .v part_3) 2 rfl) (je_add (je_var (r := .v index_2) 3 rfl) je_int)) fun _ => rfl) (Γ' := fun part_5 => [some (.v v_term), some (.v v_place), some (.v part_5), some (.v index_2)]) (fun part_5 => (jb_nil (a := part_5) (.keep (.keep (.keep (.drop .nil))))))))) (.keep (.keep (.keep (.keep .nil)))) (fun part_6 => (jb_ret w0 (JE.to (je_var (r := .v part_6) 2 rfl) fun _ => rfl)))))))
/-! ### replace_at -/
abbrev s_replace_at : Stmt := top 6
abbrev N_replace_at : List Str := ["term", "place", "part", "way", "index", "replaced", "holder"]
theorem sc_replace_at : FnScope N_replace_at ["term", "place", "part"] (defScope s_replace_at) := ⟨rfl, rfl, rfl, by decide +kernel, rfl, by decide +kernel, by decide +kernel⟩
theorem ok_replace_at {a : Addr} {fd : FuncData} {n : Nat} {t : Tab} (F : Fun K "replace_at" "replace_at" s_replace_at a fd) (h__check_index : HasF P w K mg base n "_check_index" ["part", "index"] (f2 t.d_check_index))  (m_reversed : mg "reversed" = none) (m_list : mg "list" = none) (m_zip : mg "zip" = none)       :
    FnOk P w K mg base (L2.CX P w) (n + 1) a fd ["term", "place", "part"] (spP ⟨K, mg⟩ (f3 fun v_term v_place v_part => toF (n_replace_at t v_term v_place v_part))) :=
  mk_fnP (nL := 4) (b := b3 (n_replace_at t)) F sc_replace_at rfl rfl (arg3 fun _ _ _ => trivial) fun cdv A outer s H E hr => by
    have tk : Tk (CxP P w K mg base N_replace_at "replace_at" (defScope s_replace_at) a cdv A outer s H E) (fun cls d _ H => E cls d H) := .inl (takes_of rfl rfl rfl rfl)
    have te : TkE (CxP P w K mg base N_replace_at "replace_at" (defScope s_replace_at) a cdv A outer s H E) (fun cls d _ H => E cls d H) := te_own (takes_of rfl rfl rfl rfl)
    have hp : PassesOwn (model P w) (CxP P w K mg base N_replace_at "replace_at" (defScope s_replace_at) a cdv A outer s H E).A (CxP P w K mg base N_replace_at "replace_at" (defScope s_replace_at) a cdv A outer s H E).env (CxP P w K mg base N_replace_at "replace_at" (defScope s_replace_at) a cdv A outer s H E).xe := passes_of rfl
    have hN : (CxP P w K mg base N_replace_at "replace_at" (defScope s_replace_at) a cdv A outer s H E).N.Nodup := sc_replace_at.nd
    have w0 : ∀ {Γ : Sl}, SubX none Γ := trivial
    exact arg3 fun v_term v_place v_part E' => (show JB _ _ _ _ _ _ _ _ (n_replace_at t v_term v_place v_part) from (jb_setL 3 w0 hN (JE.to (je_lst (ja_cons (je_var (r := .v v_term) 0 rfl) ja_nil)) fun _ => rfl) (Γ' := fun way_1 => [some (.v v_term), some (.v v_place), some (.v v_part), some (.l way_1), none, none, none]) (fun way_1 => (jb_forS (A := List FV) ((fun way_11 => [some (.v v_term), some (.v v_place), some (.v v_part), some (.l way_11), none, none, none] : (List FV) → Sl)) way_1 (Γb := fun way_3 index_2 => [some (.v v_term), some (.v v_place), some (.v v_part), some (.l way_3), some (.v index_2), none, none]) (hΓ := fun way_3 index_2 => rfl) w0 hp rfl (JI.to (ji_seq (je_var (r := .v v_place) 1 rfl)) fun _ => rfl) (jg_name 4 hN) (fun way_3 index_2 => (jb_expr w0 (JE.to (je_call tk h__check_index hr (Nat.le_refl _) (ja_cons (je_ix hr (je_var (r := .l way_3) 3 rfl) (je_neg je_int)) (ja_cons (je_var (r := .v index_2) 4 rfl) ja_nil))) fun _ => rfl) (jb_append 3 w0 (JE.to (je_ix hr (je_ix hr (je_var (r := .l way_3) 3 rfl) (je_neg je_int)) (je_add (je_var (r := .v index_2) 4 rfl) je_int)) fun _ => rfl) (Γ' := fun way_6 => [some (.v v_term), some (.v v_place), some (.v v_part), some (.l way_6), some (.v index_2), none, none]) (fun way_6 => (jb_nil (a := way_6) (.keep (.keep (.keep (.keep (.drop (.keep (.keep .nil)))))))))))) (.keep (.keep (.keep (.keep (.keep (.keep (.keep .nil))))))) (fun way_11 => (jb_set 5 w0 hN (JE.to (je_var (r := .v v_part) 2 rfl) fun _ => rfl) (Γ' := fun replaced_12 => [some (.v v_term), some (.v v_place), some (.v v_part), some (.l way_11), none, some (.v replaced_12), none]) (fun replaced_12 => (jb_frz 3 (r := (.l way_11)) (d := (.fl way_11)) rfl rfl (Γ' := [some (.v v_term), some (.v v_place), some (.v v_part), some (.v (.fl way_11)), none, some (.v replaced_12), none]) (jb_for (A := FV) ((fun replaced_27 => [some (.v v_term), some (.v v_place), some (.v v_part), some (.v (.fl way_11)), none, some (.v replaced_27), none] : (FV) → Sl)) replaced_12 (Γb := fun | replaced_17, (index_16, (holder_15, ())) => [some (.v v_term), some (.v v_place), some (.v v_part), some (.v (.fl way_11)), some (.v index_16), some (.v replaced_17), some (.v holder_15)]) (hΓ := fun | replaced_17, (index_16, (holder_15, ())) => rfl) w0 hp rfl (JI.to (ji_rev m_reversed (je_listZip rfl m_list m_zip (je_var (r := .v v_place) 1 rfl) (je_var (r := .v (.fl way_11)) 3 rfl))) fun _ => rfl) (jg_tup rfl (jg_cons (jg_name 4 hN) (jg_cons (jg_name 6 hN) jg_nil))) (fun | replaced_17, (index_16, (holder_15, ())) => (jb_set 5 w0 hN (JE.to (je_add (je_add (je_sl (je_var (r := .v holder_15) 6 rfl) jp_none (jp_some (je_add (je_var (r := .v index_16) 4 rfl) je_int))) (je_tup (ja_cons (je_var (r := .v replaced_17) 5 rfl) ja_nil))) (je_sl (je_var (r := .v holder_15) 6 rfl) (jp_some (je_add (je_var (r := .v index_16) 4 rfl) je_int)) jp_none)) fun _ => rfl) (Γ' := fun replaced_26 => [some (.v v_term), some (.v v_place), some (.v v_part), some (.v (.fl way_11)), some (.v index_16), some (.v replaced_26), some (.v holder_15)]) (fun replaced_26 => (jb_nil (a := replaced_26) (.keep (.keep (.keep (.keep (.drop (.keep (.drop .nil))))))))))) (.keep (.keep (.keep (.keep (.keep (.keep (.keep .nil))))))) (fun replaced_27 => (jb_ret w0 (JE.to (je_var (r := .v replaced_27) 5 rfl) fun _ => rfl))))))))))))
/-! ### parts_of -/
abbrev s_parts_of : Stmt := top 7
abbrev N_parts_of : List Str := ["term", "parts", "part"]
theorem sc_parts_of : FnScope N_parts_of ["term"] (defScope s_parts_of) := ⟨rfl, rfl, rfl, by decide +kernel, rfl, by decide +kernel, by decide +kernel⟩
theorem ok_parts_of {a : Addr} {fd : FuncData} {n : Nat} {t : Tab} (F : Fun K "parts_of" "parts_of" s_parts_of a fd) (h__all_parts : HasF P w K mg base n "_all_parts" ["term"] (f1 t.d_all_parts))         :
    FnOk P w K mg base (L2.CX P w) (n + 1) a fd ["term"] (spP ⟨K, mg⟩ (f1 fun v_term => toF (n_parts_of t v_term))) :=
  mk_fnP (nL := 2) (b := b1 (n_parts_of t)) F sc_parts_of rfl rfl (arg1 fun _ => trivial) fun cdv A outer s H E hr => by
    have tk : Tk (CxP P w K mg base N_parts_of "parts_of" (defScope s_parts_of) a cdv A outer s H E) (fun cls d _ H => E cls d H) := .inl (takes_of rfl rfl rfl rfl)
    have te : TkE (CxP P w K mg base N_parts_of "parts_of" (defScope s_parts_of) a cdv A outer s H E) (fun cls d _ H => E cls d H) := te_own (takes_of rfl rfl rfl rfl)
    have hp : PassesOwn (model P w) (CxP P w K mg base N_parts_of "parts_of" (defScope s_parts_of) a cdv A outer s H E).A (CxP P w K mg base N_parts_of "parts_of" (defScope s_parts_of) a cdv A outer s H E).env (CxP P w K mg base N_parts_of "parts_of" (defScope s_parts_of) a cdv A outer s H E).xe := passes_of rfl
    have hN : (CxP P w K mg base N_parts_of "parts_of" (defScope s_parts_of) a cdv A outer s H E).N.Nodup := sc_parts_of.nd
    have w0 : ∀ {Γ : Sl}, SubX none Γ := trivial
    exact arg1 fun v_term E' => (show JB _ _ _ _ _ _ _ _ (n_parts_of t v_term) from (jb_setL 1 w0 hN (JE.to (je_lst ja_nil) fun _ => rfl) (Γ' := fun parts_1 => [some (.v v_term), some (.l parts_1), none]) (fun parts_1 => (jb_forS (A := List FV) ((fun parts_7 => [some (.v v_term), some (.l parts_7), none] : (List FV) → Sl)) parts_1 (Γb := fun parts_4 part_3 => [some (.v v_term), some (.l parts_4), some (.v part_3)]) (hΓ := fun parts_4 part_3 => rfl) w0 hp rfl (JI.to (ji_seq (je_call tk h__all_parts hr (Nat.le_refl _) (ja_cons (je_var (r := .v v_term) 0 rfl) ja_nil))) fun _ => rfl) (jg_name 2 hN) (fun parts_4 part_3 => (jb_ifE w0 (JT.to (jt_nmx hr (je_var (r := .v part_3) 2 rfl) (je_var (r := .l parts_4) 1 rfl)) fun _ => rfl) (jb_append 1 w0 (JE.to (je_var (r := .v part_3) 2 rfl) fun _ => rfl) (Γ' := fun parts_6 => [some (.v v_term), some (.l parts_6), some (.v part_3)]) (fun parts_6 => (jb_nil (a := parts_6) (.keep (.keep (.drop .nil)))))) (jb_nil (a := parts_4) (.keep (.keep (.drop .nil)))))) (.keep (.keep (.keep .nil))) (fun parts_7 => (jb_retS 1))))))
/-! ### unknowns_of -/
abbrev s_unknowns_of : Stmt := top 8
abbrev N_unknowns_of : List Str := ["term", "found", "part"]
theorem sc_unknowns_of : FnScope N_unknowns_of ["term"] (defScope s_unknowns_of) := ⟨rfl, rfl, rfl, by decide +kernel, rfl, by decide +kernel, by decide +kernel⟩
theorem ok_unknowns_of {a : Addr} {fd : FuncData} {n : Nat} {t : Tab} (F : Fun K "unknowns_of" "unknowns_of" s_unknowns_of a fd) (h__all_parts : HasF P w K mg base n "_all_parts" ["term"] (f1 t.d_all_parts))  (m_isinstance : mg "isinstance" = none) (m_str : mg "str" = none) (m_list : mg "list" = none)       :
    FnOk P w K mg base (L2.CX P w) (n + 1) a fd ["term"] (spP ⟨K, mg⟩ (f1 fun v_term => toF (n_unknowns_of t v_term))) :=
  mk_fnP (nL := 2) (b := b1 (n_unknowns_of t)) F sc_unknowns_of rfl rfl (arg1 fun _ => trivial) fun cdv A outer s H E hr => by
    have tk : Tk (CxP P w K mg base N_unknowns_of "unknowns_of" (defScope s_unknowns_of) a cdv A outer s H E) (fun cls d _ H => E cls d H) := .inl (takes_of rfl rfl rfl rfl)
    have te : TkE (CxP P w K mg base N_unknowns_of "unknowns_of" (defScope s_unknowns_of) a cdv A outer s H E) (fun cls d _ H => E cls d H) := te_own (takes_of rfl rfl rfl rfl)
    have hp : PassesOwn (model P w) (CxP P w K mg base N_unknowns_of "unknowns_of" (defScope s_unknowns_of) a cdv A outer s H E).A (CxP P w K mg base N_unknowns_of "unknowns_of" (defScope s_unknowns_of) a cdv A outer s H E).env (CxP P w K mg base N_unknowns_of "unknowns_of" (defScope s_unknowns_of) a cdv A outer s H E).xe := passes_of rfl
    have hN : (CxP P w K mg base N_unknowns_of "unknowns_of" (defScope s_unknowns_of) a cdv A outer s H E).N.Nodup := sc_unknowns_of.nd
    have w0 : ∀ {Γ : Sl}, SubX none Γ := trivial
    exact arg1 fun v_term E' => (show JB _ _ _ _ _ _ _ _ (n_unknowns_of t v_term) from (jb_setD 1 w0 hN (JE.to je_d0 fun _ => rfl) (Γ' := fun found_1 => [some (.v v_term), some (.d found_1), none]) (fun found_1 => (jb_forS (A := List (Key × FV)) ((fun found_8 => [some (.v v_term), some (.d found_8), none] : (List (Key × FV)) → Sl)) found_1 (Γb := fun found_4 part_3 => [some (.v v_term), some (.d found_4), some (.v part_3)]) (hΓ := fun found_4 part_3 => rfl) w0 hp rfl (JI.to (ji_seq (je_call tk h__all_parts hr (Nat.le_refl _) (ja_cons (je_var (r := .v v_term) 0 rfl) ja_nil))) fun _ => rfl) (jg_name 2 hN) (fun found_4 part_3 => (jb_ifE w0 (JT.to (jt_val (je_isi m_isinstance m_str (je_var (r := .v part_3) 2 rfl))) fun _ => rfl) (jb_dput 1 hr w0 (JE.to (je_bl (i := true)) fun _ => rfl) (JE.to (je_var (r := .v part_3) 2 rfl) fun _ => rfl) (Γ' := fun found_7 => [some (.v v_term), some (.d found_7), some (.v part_3)]) (fun found_7 => (jb_nil (a := found_7) (.keep (.keep (.drop .nil)))))) (jb_nil (a := found_4) (.keep (.keep (.drop .nil)))))) (.keep (.keep (.keep .nil))) (fun found_8 => (jb_ret w0 (JE.to (je_list rfl m_list (je_var (r := .d found_8) 1 rfl)) fun _ => rfl)))))))
/-! ### term_size -/
abbrev s_term_size : Stmt := top 9
abbrev N_term_size : List Str := ["term"]
theorem sc_term_size : FnScope N_term_size ["term"] (defScope s_term_size) := ⟨rfl, rfl, rfl, by decide +kernel, rfl, by decide +kernel, by decide +kernel⟩
theorem ok_term_size {a : Addr} {fd : FuncData} {n : Nat} {t : Tab} (F : Fun K "term_size" "term_size" s_term_size a fd) (h__all_parts : HasF P w K mg base n "_all_parts" ["term"] (f1 t.d_all_parts))  (m_len : mg "len" = none)       :
    FnOk P w K mg base (L2.CX P w) (n + 1) a fd ["term"] (spP ⟨K, mg⟩ (f1 fun v_term => toF (n_term_size t v_term))) :=
  mk_fnP (nL := 0) (b := b1 (n_term_size t)) F sc_term_size rfl rfl (arg1 fun _ => trivial) fun cdv A outer s H E hr => by
    have tk : Tk (CxP P w K mg base N_term_size "term_size" (defScope s_term_size) a cdv A outer s H E) (fun cls d _ H => E cls d H) := .inl (takes_of rfl rfl rfl rfl)
    have te : TkE (CxP P w K mg base N_term_size "term_size" (defScope s_term_size) a cdv A outer s H E) (fun cls d _ H => E cls d H) := te_own (takes_of rfl rfl rfl rfl)
    have hp : PassesOwn (model P w) (CxP P w K mg base N_term_size "term_size" (defScope s_term_size) a cdv A outer s H E).A (CxP P w K mg base N_term_size "term_size" (defScope s_term_size) a cdv A outer s H E).env (CxP P w K mg base N_term_size "term_size" (defScope s_term_size) a cdv A outer s H E).xe := passes_of rfl
    have hN : (CxP P w K mg base N_term_size "term_size" (defScope s_term_size) a cdv A outer s H E).N.Nodup := sc_term_size.nd
    have w0 : ∀ {Γ : Sl}, SubX none Γ := trivial
    exact arg1 fun v_term E' => (show JB _ _ _ _ _ _ _ _ (n_term_size t v_term) from (jb_ret w0 (JE.to (je_len m_len (je_call tk h__all_parts hr (Nat.le_refl _) (ja_cons (je_var (r := .v v_term) 0 rfl) ja_nil))) fun _ => rfl)))
/-! ### _arguments -/
abbrev s__arguments : Stmt := top 10
abbrev N__arguments : List Str := ["term"]
theorem sc__arguments : FnScope N__arguments ["term"] (defScope s__arguments) := ⟨rfl, rfl, rfl, by decide +kernel, rfl, by decide +kernel, by decide +kernel⟩
theorem ok__arguments {a : Addr} {fd : FuncData} {n : Nat} {t : Tab} (F : Fun K "_arguments" "_arguments" s__arguments a fd)   (m_isinstance : mg "isinstance" = none) (m_str : mg "str" = none)       :
    FnOk P w K mg base (L2.CX P w) (n + 1) a fd ["term"] (spP ⟨K, mg⟩ (f1 fun v_term => toF (n_arguments t v_term))) :=
  mk_fnP (nL := 0) (b := b1 (n_arguments t)) F sc__arguments rfl rfl (arg1 fun _ => trivial) fun cdv A outer s H E hr => by
    have tk : Tk (CxP P w K mg base N__arguments "_arguments" (defScope s__arguments) a cdv A outer s H E) (fun cls d _ H => E cls d H) := .inl (takes_of rfl rfl rfl rfl)
    have te : TkE (CxP P w K mg base N__arguments "_arguments" (defScope s__arguments) a cdv A outer s H E) (fun cls d _ H => E cls d H) := te_own (takes_of rfl rfl rfl rfl)
    have hp : PassesOwn (model P w) (CxP P w K mg base N__arguments "_arguments" (defScope s__arguments) a cdv A outer s H E).A (CxP P w K mg base N__arguments "_arguments" (defScope s__arguments) a cdv A outer s H E).env (CxP P w K mg base N__arguments "_arguments" (defScope s__arguments) a cdv A outer s H E).xe := passes_of rfl
    have hN : (CxP P w K mg base N__arguments "_arguments" (defScope s__arguments) a cdv A outer s H E).N.Nodup := sc__arguments.nd
    have w0 : ∀ {Γ : Sl}, SubX none Γ := trivial
    exact arg1 fun v_term E' => (show JB _ _ _ _ _ _ _ _ (n_arguments t v_term) from (jb_ifR w0 (JT.to (jt_val (je_isi m_isinstance m_str (je_var (r := .v v_term) 0 rfl))) fun _ => rfl) (JE.to (je_tup ja_nil) fun _ => rfl) (jb_ret w0 (JE.to (je_sl (je_var (r := .v v_term) 0 rfl) (jp_some je_int) jp_none) fun _ => rfl))))
/-! ### _check_index -/
abbrev s__check_index : Stmt := top 11
abbrev N__check_index : List Str := ["part", "index"]
theorem sc__check_index : FnScope N__check_index ["part", "index"] (defScope s__check_index) := ⟨rfl, rfl, rfl, by decide +kernel, rfl, by decide +kernel, by decide +kernel⟩
theorem ok__check_index {a : Addr} {fd : FuncData} {n : Nat} {t : Tab} (F : Fun K "_check_index" "_check_index" s__check_index a fd) (h__arguments : HasF P w K mg base n "_arguments" ["term"] (f1 t.d_arguments))  (m_len : mg "len" = none)  (x_BadPlace : ∃ C, ExcF K mg "BadPlace" C)     :
    FnOk P w K mg base (L2.CX P w) (n + 1) a fd ["part", "index"] (spP ⟨K, mg⟩ (f2 fun v_part v_index => toF (n_check_index t v_part v_index))) :=
  mk_fnP (nL := 0) (b := b2 (n_check_index t)) F sc__check_index rfl rfl (arg2 fun _ _ => trivial) fun cdv A outer s H E hr => by
    have tk : Tk (CxP P w K mg base N__check_index "_check_index" (defScope s__check_index) a cdv A outer s H E) (fun cls d _ H => E cls d H) := .inl (takes_of rfl rfl rfl rfl)
    have te : TkE (CxP P w K mg base N__check_index "_check_index" (defScope s__check_index) a cdv A outer s H E) (fun cls d _ H => E cls d H) := te_own (takes_of rfl rfl rfl rfl)
    have tk1 : Takes (CxP P w K mg base N__check_index "_check_index" (defScope s__check_index) a cdv A outer s H E) (fun cls d _ H => E cls d H) := takes_of rfl rfl rfl rfl
    have hp : PassesOwn (model P w) (CxP P w K mg base N__check_index "_check_index" (defScope s__check_index) a cdv A outer s H E).A (CxP P w K mg base N__check_index "_check_index" (defScope s__check_index) a cdv A outer s H E).env (CxP P w K mg base N__check_index "_check_index" (defScope s__check_index) a cdv A outer s H E).xe := passes_of rfl
    have hN : (CxP P w K mg base N__check_index "_check_index" (defScope s__check_index) a cdv A outer s H E).N.Nodup := sc__check_index.nd
    have w0 : ∀ {Γ : Sl}, SubX none Γ := trivial
    exact arg2 fun v_part v_index E' => (show JB _ _ _ _ _ _ _ _ (n_check_index t v_part v_index) from (jb_ifE w0 (JT.to (jt_not (jt_chain op_leS le_ok op_ltS lt_ok je_int (je_var (r := .v v_index) 1 rfl) (je_len m_len (je_call tk h__arguments hr (Nat.le_refl _) (ja_cons (je_var (r := .v v_part) 0 rfl) ja_nil))))) fun _ => rfl) (jb_raise x_BadPlace rfl tk1 w0) (jb_nil (a := ()) (Sub.rep rfl))))
/-! ### _all_parts -/
abbrev s__all_parts : Stmt := top 12
abbrev N__all_parts : List Str := ["term", "parts", "due", "part"]
theorem sc__all_parts : FnScope N__all_parts ["term"] (defScope s__all_parts) := ⟨rfl, rfl, rfl, by decide +kernel, rfl, by decide +kernel, by decide +kernel⟩
theorem ok__all_parts {a : Addr} {fd : FuncData} {n : Nat} {t : Tab} (F : Fun K "_all_parts" "_all_parts" s__all_parts a fd) (h__arguments : HasF P w K mg base n "_arguments" ["term"] (f1 t.d_arguments))  (m_len : mg "len" = none)       :
    FnOk P w K mg base (L2.CX P w) (n + 1) a fd ["term"] (spP ⟨K, mg⟩ (f1 fun v_term => toF (n_all_parts t v_term))) :=
  mk_fnP (nL := 3) (b := b1 (n_all_parts t)) F sc__all_parts rfl rfl (arg1 fun _ => trivial) fun cdv A outer s H E hr => by
    have tk : Tk (CxP P w K mg base N__all_parts "_all_parts" (defScope s__all_parts) a cdv A outer s H E) (fun cls d _ H => E cls d H) := .inl (takes_of rfl rfl rfl rfl)
    have te : TkE (CxP P w K mg base N__all_parts "_all_parts" (defScope s__all_parts) a cdv A outer s H E) (fun cls d _ H => E cls d H) := te_own (takes_of rfl rfl rfl rfl)
    have hp : PassesOwn (model P w) (CxP P w K mg base N__all_parts "_all_parts" (defScope s__all_parts) a cdv A outer s H E).A (CxP P w K mg base N__all_parts "_all_parts" (defScope s__all_parts) a cdv A outer s H E).env (CxP P w K mg base N__all_parts "_all_parts" (defScope s__all_parts) a cdv A outer s H E).xe := passes_of rfl
    have hN : (CxP P w K mg base N__all_parts "_all_parts" (defScope s__all_parts) a cdv A outer s H E).N.Nodup := sc__all_parts.nd
    have w0 : ∀ {Γ : Sl}, SubX none Γ := trivial
    exact arg1 fun v_term E' => (show JB _ _ _ _ _ _ _ _ (n_all_parts t v_term) from (jb_setL 1 w0 hN (JE.to (je_lst ja_nil) fun _ => rfl) (Γ' := fun parts_1 => [some (.v v_term), some (.l parts_1), none, none]) (fun parts_1 => (jb_setL 2 w0 hN (JE.to (je_lst (ja_cons (je_var (r := .v v_term) 0 rfl) ja_nil)) fun _ => rfl) (Γ' := fun due_2 => [some (.v v_term), some (.l parts_1), some (.l due_2), none]) (fun due_2 => (jb_while (A := List FV × List FV) ((fun | (parts_14, due_15) => [some (.v v_term), some (.l parts_14), some (.l due_15), none] : (List FV × List FV) → Sl)) (parts_1, due_2) FUEL hp (fun | (parts_3, due_4) => w0) (fun | (parts_3, due_4) => (JT.to (jt_gt (je_len m_len (je_var (r := .l due_4) 2 rfl)) je_int) fun _ => rfl)) (fun | (parts_3, due_4) => (jb_popW 3 2 (fun | (part_7, due_6) => [some (.v v_term), some (.l parts_3), some (.l due_6), some (.v part_7)]) w0 hN (fun | (part_7, due_6) => (jb_append 1 w0 (JE.to (je_var (r := .v part_7) 3 rfl) fun _ => rfl) (Γ' := fun parts_8 => [some (.v v_term), some (.l parts_8), some (.l due_6), some (.v part_7)]) (fun parts_8 => (jb_extendU 2 w0 (JE.to (je_revS (je_call tk h__arguments hr (Nat.le_refl _) (ja_cons (je_var (r := .v part_7) 3 rfl) ja_nil))) fun _ => rfl) (Γ' := fun due_9 => [some (.v v_term), some (.l parts_8), some (.l due_9), some (.v part_7)]) (fun due_9 => (jb_nil (a := (parts_8, due_9)) (.keep (.keep (.keep (.drop .nil)))))))))))) (.keep (.keep (.keep (.keep .nil)))) (fun | (parts_14, due_15) => (jb_retS 1))))))))
/-! ### _law_start -/
abbrev s__law_start : Stmt := top 14
abbrev N__law_start : List Str := ["_law_script", "_law_row", "_law_seed", "_law_k", "_law_cell", "_law_j", "_law_mixed"]
theorem sc__law_start : FnScope N__law_start ["_law_script"] (defScope s__law_start) := ⟨rfl, rfl, rfl, by decide +kernel, rfl, by decide +kernel, by decide +kernel⟩
theorem ok__law_start {a : Addr} {fd : FuncData} {n : Nat} {t : Tab} (F : Fun K "_law_start" "_law_start" s__law_start a fd)   (m_range : mg "range" = none) (m_len : mg "len" = none) (m_abs : mg "abs" = none) (m_int : mg "int" = none)       :
    FnOk P w K mg base (L2.CX P w) (n + 1) a fd ["_law_script"] (spP ⟨K, mg⟩ (f1 fun v_law_script => toF (n_law_start t v_law_script))) :=
  mk_fnP (nL := 6) (b := b1 (n_law_start t)) F sc__law_start rfl rfl (arg1 fun _ => trivial) fun cdv A outer s H E hr => by
    have tk : Tk (CxP P w K mg base N__law_start "_law_start" (defScope s__law_start) a cdv A outer s H E) (fun cls d _ H => E cls d H) := .inl (takes_of rfl rfl rfl rfl)
    have te : TkE (CxP P w K mg base N__law_start "_law_start" (defScope s__law_start) a cdv A outer s H E) (fun cls d _ H => E cls d H) := te_own (takes_of rfl rfl rfl rfl)
    have hp : PassesOwn (model P w) (CxP P w K mg base N__law_start "_law_start" (defScope s__law_start) a cdv A outer s H E).A (CxP P w K mg base N__law_start "_law_start" (defScope s__law_start) a cdv A outer s H E).env (CxP P w K mg base N__law_start "_law_start" (defScope s__law_start) a cdv A outer s H E).xe := passes_of rfl
    have hN : (CxP P w K mg base N__law_start "_law_start" (defScope s__law_start) a cdv A outer s H E).N.Nodup := sc__law_start.nd
    have w0 : ∀ {Γ : Sl}, SubX none Γ := trivial
    exact arg1 fun v_law_script E' => (show JB _ _ _ _ _ _ _ _ (n_law_start t v_law_script) from (jb_setL 1 w0 hN (JE.to (je_lst ja_nil) fun _ => rfl) (Γ' := fun law_row_1 => [some (.v v_law_script), some (.l law_row_1), none, none, none, none, none]) (fun law_row_1 => (jb_set 2 w0 hN (JE.to je_int fun _ => rfl) (Γ' := fun law_seed_2 => [some (.v v_law_script), some (.l law_row_1), some (.v law_seed_2), none, none, none, none]) (fun law_seed_2 => (jb_forS (A := List FV × FV) ((fun | (law_row_42, law_seed_43) => [some (.v v_law_script), some (.l law_row_42), some (.v law_seed_43), none, none, none, none] : (List FV × FV) → Sl)) (law_row_1, law_seed_2) (Γb := fun | (law_row_5, law_seed_6), law_k_4 => [some (.v v_law_script), some (.l law_row_5), some (.v law_seed_6), some (.v law_k_4), none, none, none]) (hΓ := fun | (law_row_5, law_seed_6), law_k_4 => rfl) w0 hp rfl (JI.to (ji_range1 m_range (je_len m_len (je_var (r := .v v_law_script) 0 rfl))) fun _ => rfl) (jg_name 3 hN) (fun | (law_row_5, law_seed_6), law_k_4 => (jb_set 4 w0 hN (JE.to (je_abs m_abs (je_ix hr (je_var (r := .v v_law_script) 0 rfl) (je_var (r := .v law_k_4) 3 rfl))) fun _ => rfl) (Γ' := fun law_cell_8 => [some (.v v_law_script), some (.l law_row_5), some (.v law_seed_6), some (.v law_k_4), some (.v law_cell_8), none, none]) (fun law_cell_8 => (jb_set 2 w0 hN (JE.to (je_mod (je_int1 m_int (je_add (je_add (je_mul (je_var (r := .v law_seed_6) 2 rfl) je_int) (je_var (r := .v law_cell_8) 4 rfl)) (je_var (r := .v law_k_4) 3 rfl))) je_int) fun _ => rfl) (Γ' := fun law_seed_13 => [some (.v v_law_script), some (.l law_row_5), some (.v law_seed_13), some (.v law_k_4), some (.v law_cell_8), none, none]) (fun law_seed_13 => (jb_ifE w0 (JT.to (jt_ge (je_var (r := .v law_cell_8) 4 rfl) (je_pow je_int je_int)) fun _ => rfl) (jb_set 4 w0 hN (JE.to (je_sub (je_var (r := .v law_cell_8) 4 rfl) (je_pow je_int je_int)) fun _ => rfl) (Γ' := fun law_cell_17 => [some (.v v_law_script), some (.l law_row_5), some (.v law_seed_13), some (.v law_k_4), some (.v law_cell_17), none, none]) (fun law_cell_17 => (jb_forS (A := List FV × FV) ((fun | (law_row_26, law_cell_27) => [some (.v v_law_script), some (.l law_row_26), some (.v law_seed_13), some (.v law_k_4), some (.v law_cell_27), none, none] : (List FV × FV) → Sl)) (law_row_5, law_cell_17) (Γb := fun | (law_row_19, law_cell_20), law_j_18 => [some (.v v_law_script), some (.l law_row_19), some (.v law_seed_13), some (.v law_k_4), some (.v law_cell_20), some (.v law_j_18), none]) (hΓ := fun | (law_row_19, law_cell_20), law_j_18 => rfl) w0 hp rfl (JI.to (ji_range1 m_range je_int) fun _ => rfl) (jg_name 5 hN) (fun | (law_row_19, law_cell_20), law_j_18 => (jb_ifE w0 (JT.to (jt_gt (je_var (r := .v law_cell_20) 4 rfl) je_int) fun _ => rfl) (jb_append 1 w0 (JE.to (je_mod (je_int1 m_int (je_var (r := .v law_cell_20) 4 rfl)) je_int) fun _ => rfl) (Γ' := fun law_row_22 => [some (.v v_law_script), some (.l law_row_22), some (.v law_seed_13), some (.v law_k_4), some (.v law_cell_20), some (.v law_j_18), none]) (fun law_row_22 => (jb_set 4 w0 hN (JE.to (je_div (je_var (r := .v law_cell_20) 4 rfl) je_int) fun _ => rfl) (Γ' := fun law_cell_24 => [some (.v v_law_script), some (.l law_row_22), some (.v law_seed_13), some (.v law_k_4), some (.v law_cell_24), some (.v law_j_18), none]) (fun law_cell_24 => (jb_nil (a := (law_row_22, law_cell_24)) (.keep (.keep (.keep (.keep (.keep (.drop (.keep .nil)))))))))))) (jb_nil (a := (law_row_19, law_cell_20)) (.keep (.keep (.keep (.keep (.keep (.drop (.keep .nil)))))))))) (.keep (.keep (.keep (.keep (.keep (.keep (.keep .nil))))))) (fun | (law_row_26, law_cell_27) => (jb_nil (a := (law_row_26, law_seed_13)) (.keep (.keep (.keep (.drop (.drop (.keep (.keep .nil)))))))))))) (jb_set 6 w0 hN (JE.to (je_mod (je_int1 m_int (je_add (je_mul (je_add (je_var (r := .v law_cell_8) 4 rfl) je_int) je_int) (je_mul (je_var (r := .v law_k_4) 3 rfl) je_int))) je_int) fun _ => rfl) (Γ' := fun law_mixed_34 => [some (.v v_law_script), some (.l law_row_5), some (.v law_seed_13), some (.v law_k_4), some (.v law_cell_8), none, some (.v law_mixed_34)]) (fun law_mixed_34 => (jb_set 6 w0 hN (JE.to (je_mod (je_int1 m_int (je_add (je_mul (je_var (r := .v law_mixed_34) 6 rfl) je_int) je_int)) je_int) fun _ => rfl) (Γ' := fun law_mixed_38 => [some (.v v_law_script), some (.l law_row_5), some (.v law_seed_13), some (.v law_k_4), some (.v law_cell_8), none, some (.v law_mixed_38)]) (fun law_mixed_38 => (jb_append 1 w0 (JE.to (je_mod (je_div (je_var (r := .v law_mixed_38) 6 rfl) je_int) je_int) fun _ => rfl) (Γ' := fun law_row_39 => [some (.v v_law_script), some (.l law_row_39), some (.v law_seed_13), some (.v law_k_4), some (.v law_cell_8), none, some (.v law_mixed_38)]) (fun law_row_39 => (jb_nil (a := (law_row_39, law_seed_13)) (.keep (.keep (.keep (.drop (.drop (.keep (.drop .nil)))))))))))))))))))) (.keep (.keep (.keep (.keep (.keep (.keep (.keep .nil))))))) (fun | (law_row_42, law_seed_43) => (jb_frz 1 (r := (.l law_row_42)) (d := (.fl law_row_42)) rfl rfl (Γ' := [some (.v v_law_script), some (.v (.fl law_row_42)), some (.v law_seed_43), none, none, none, none]) (jb_ret w0 (JE.to (je_lst (ja_cons (je_var (r := .v (.fl law_row_42)) 1 rfl) (ja_cons je_int (ja_cons (je_var (r := .v law_seed_43) 2 rfl) ja_nil)))) fun _ => rfl))))))))))
/-! ### _law_take -/
abbrev s__law_take : Stmt := top 15
abbrev N__law_take : List Str := ["_law_state", "_law_many", "_law_at", "_law_mixed"]
theorem sc__law_take : FnScope N__law_take ["_law_state", "_law_many"] (defScope s__law_take) := ⟨rfl, rfl, rfl, by decide +kernel, rfl, by decide +kernel, by decide +kernel⟩
theorem ok__law_take {a : Addr} {fd : FuncData} {n : Nat} {t : Tab} (F : Fun K "_law_take" "_law_take" s__law_take a fd)   (m_len : mg "len" = none) (m_int : mg "int" = none)       :
    FnOk P w K mg base (L2.CX P w) (n + 1) a fd ["_law_state", "_law_many"] (spP ⟨K, mg⟩ (f2 fun v_law_state v_law_many => toF (n_law_take t v_law_state v_law_many))) :=
  mk_fnP (nL := 2) (b := b2 (n_law_take t)) F sc__law_take rfl rfl (arg2 fun _ _ => trivial) fun cdv A outer s H E hr => by
    have tk : Tk (CxP P w K mg base N__law_take "_law_take" (defScope s__law_take) a cdv A outer s H E) (fun cls d _ H => E cls d H) := .inl (takes_of rfl rfl rfl rfl)
    have te : TkE (CxP P w K mg base N__law_take "_law_take" (defScope s__law_take) a cdv A outer s H E) (fun cls d _ H => E cls d H) := te_own (takes_of rfl rfl rfl rfl)
    have hp : PassesOwn (model P w) (CxP P w K mg base N__law_take "_law_take" (defScope s__law_take) a cdv A outer s H E).A (CxP P w K mg base N__law_take "_law_take" (defScope s__law_take) a cdv A outer s H E).env (CxP P w K mg base N__law_take "_law_take" (defScope s__law_take) a cdv A outer s H E).xe := passes_of rfl
    have hN : (CxP P w K mg base N__law_take "_law_take" (defScope s__law_take) a cdv A outer s H E).N.Nodup := sc__law_take.nd
    have w0 : ∀ {Γ : Sl}, SubX none Γ := trivial
    exact arg2 fun v_law_state v_law_many E' => (show JB _ _ _ _ _ _ _ _ (n_law_take t v_law_state v_law_many) from (jb_set 2 w0 hN (JE.to (je_ix hr (je_var (r := .v v_law_state) 0 rfl) je_int) fun _ => rfl) (Γ' := fun law_at_1 => [some (.v v_law_state), some (.v v_law_many), some (.v law_at_1), none]) (fun law_at_1 => (jb_put hr w0 (JE.to (je_add (je_var (r := .v law_at_1) 2 rfl) je_int) fun _ => rfl) (JE.to (je_var (r := .v v_law_state) 0 rfl) fun _ => rfl) (JE.to je_int fun _ => rfl) (jb_ifR w0 (JT.to (jt_lt (je_var (r := .v law_at_1) 2 rfl) (je_len m_len (je_ix hr (je_var (r := .v v_law_state) 0 rfl) je_int))) fun _ => rfl) (JE.to (je_mod (je_int1 m_int (je_ix hr (je_ix hr (je_var (r := .v v_law_state) 0 rfl) je_int) (je_var (r := .v law_at_1) 2 rfl))) (je_var (r := .v v_law_many) 1 rfl)) fun _ => rfl) (jb_set 3 w0 hN (JE.to (je_mod (je_int1 m_int (je_mul (je_add (je_ix hr (je_var (r := .v v_law_state) 0 rfl) je_int) (je_mul (je_var (r := .v law_at_1) 2 rfl) je_int)) je_int)) je_int) fun _ => rfl) (Γ' := fun law_mixed_13 => [some (.v v_law_state), some (.v v_law_many), some (.v law_at_1), some (.v law_mixed_13)]) (fun law_mixed_13 => (jb_set 3 w0 hN (JE.to (je_mod (je_int1 m_int (je_add (je_mul (je_var (r := .v law_mixed_13) 3 rfl) je_int) (je_mul (je_var (r := .v law_at_1) 2 rfl) (je_var (r := .v law_at_1) 2 rfl)))) je_int) fun _ => rfl) (Γ' := fun law_mixed_18 => [some (.v v_law_state), some (.v v_law_many), some (.v law_at_1), some (.v law_mixed_18)]) (fun law_mixed_18 => (jb_ret w0 (JE.to (je_mod (je_div (je_var (r := .v law_mixed_18) 3 rfl) je_int) (je_var (r := .v v_law_many) 1 rfl)) fun _ => rfl)))))))))))
/-! ### _law_term -/
abbrev s__law_term : Stmt := top 16
abbrev N__law_term : List Str := ["_law_state", "_law_depth", "_law_kind", "_law_leaves"]
theorem sc__law_term : FnScope N__law_term ["_law_state", "_law_depth"] (defScope s__law_term) := ⟨rfl, rfl, rfl, by decide +kernel, rfl, by decide +kernel, by decide +kernel⟩
theorem ok__law_term {a : Addr} {fd : FuncData} {n : Nat} {t : Tab} (F : Fun K "_law_term" "_law_term" s__law_term a fd) (h__law_take : HasF P w K mg base n "_law_take" ["_law_state", "_law_many"] (f2 t.d_law_take)) (h__law_term : HasF P w K mg base n "_law_term" ["_law_state", "_law_depth"] (f2 t.d_law_term))         :
    FnOk P w K mg base (L2.CX P w) (n + 1) a fd ["_law_state", "_law_depth"] (spP ⟨K, mg⟩ (f2 fun v_law_state v_law_depth => toF (n_law_term t v_law_state v_law_depth))) :=
  mk_fnP (nL := 2) (b := b2 (n_law_term t)) F sc__law_term rfl rfl (arg2 fun _ _ => trivial) fun cdv A outer s H E hr => by
    have tk : Tk (CxP P w K mg base N__law_term "_law_term" (defScope s__law_term) a cdv A outer s H E) (fun cls d _ H => E cls d H) := .inl (takes_of rfl rfl rfl rfl)
    have te : TkE (CxP P w K mg base N__law_term "_law_term" (defScope s__law_term) a cdv A outer s H E) (fun cls d _ H => E cls d H) := te_own (takes_of rfl rfl rfl rfl)
    have hp : PassesOwn (model P w) (CxP P w K mg base N__law_term "_law_term" (defScope s__law_term) a cdv A outer s H E).A (CxP P w K mg base N__law_term "_law_term" (defScope s__law_term) a cdv A outer s H E).env (CxP P w K mg base N__law_term "_law_term" (defScope s__law_term) a cdv A outer s H E).xe := passes_of rfl
    have hN : (CxP P w K mg base N__law_term "_law_term" (defScope s__law_term) a cdv A outer s H E).N.Nodup := sc__law_term.nd
    have w0 : ∀ {Γ : Sl}, SubX none Γ := trivial
    exact arg2 fun v_law_state v_law_depth E' => (show JB _ _ _ _ _ _ _ _ (n_law_term t v_law_state v_law_depth) from (jb_set 2 w0 hN (JE.to (je_call tk h__law_take hr (Nat.le_refl _) (ja_cons (je_var (r := .v v_law_state) 0 rfl) (ja_cons je_int ja_nil))) fun _ => rfl) (Γ' := fun law_kind_1 => [some (.v v_law_state), some (.v v_law_depth), some (.v law_kind_1), none]) (fun law_kind_1 => (jb_ifL (eE := eN) w0 (JT.to (jt_bool (jw_or (jt_q hr (je_var (r := .v v_law_depth) 1 rfl) je_int) (jw_or1 (jt_lt (je_var (r := .v law_kind_1) 2 rfl) je_int)))) fun _ => rfl) (jb_set 3 w0 hN (JE.to (je_lst (ja_cons je_str (ja_cons je_str (ja_cons je_str (ja_cons (je_tup (ja_cons je_str ja_nil)) (ja_cons (je_tup (ja_cons je_str ja_nil)) (ja_cons (je_tup (ja_cons je_str ja_nil)) ja_nil))))))) fun _ => rfl) (Γ' := fun law_leaves_6 => [some (.v v_law_state), some (.v v_law_depth), some (.v law_kind_1), some (.v law_leaves_6)]) (fun law_leaves_6 => (jb_ret w0 (JE.to (je_ix hr (je_var (r := .v law_leaves_6) 3 rfl) (je_call tk h__law_take hr (Nat.le_refl _) (ja_cons (je_var (r := .v v_law_state) 0 rfl) (ja_cons je_int ja_nil)))) fun _ => rfl)))) (jb_ifR w0 (JT.to (jt_lt (je_var (r := .v law_kind_1) 2 rfl) je_int) fun _ => rfl) (JE.to (je_tup (ja_cons je_str (ja_cons (je_call tk h__law_term hr (Nat.le_refl _) (ja_cons (je_var (r := .v v_law_state) 0 rfl) (ja_cons (je_sub (je_var (r := .v v_law_depth) 1 rfl) je_int) ja_nil))) ja_nil))) fun _ => rfl) (jb_ifR w0 (JT.to (jt_lt (je_var (r := .v law_kind_1) 2 rfl) je_int) fun _ => rfl) (JE.to (je_tup (ja_cons je_str (ja_cons (je_call tk h__law_term hr (Nat.le_refl _) (ja_cons (je_var (r := .v v_law_state) 0 rfl) (ja_cons (je_sub (je_var (r := .v v_law_depth) 1 rfl) je_int) ja_nil))) (ja_cons (je_call tk h__law_term hr (Nat.le_refl _) (ja_cons (je_var (r := .v v_law_state) 0 rfl) (ja_cons (je_sub (je_var (r := .v v_law_depth) 1 rfl) je_int) ja_nil))) ja_nil)))) fun _ => rfl) (jb_ret w0 (JE.to (je_tup (ja_cons je_str (ja_cons (je_call tk h__law_term hr (Nat.le_refl _) (ja_cons (je_var (r := .v v_law_state) 0 rfl) (ja_cons (je_sub (je_var (r := .v v_law_depth) 1 rfl) je_int) ja_nil))) (ja_cons (je_call tk h__law_term hr (Nat.le_refl _) (ja_cons (je_var (r := .v v_law_state) 0 rfl) (ja_cons (je_sub (je_var (r := .v v_law_depth) 1 rfl) je_int) ja_nil))) (ja_cons (je_call tk h__law_term hr (Nat.le_refl _) (ja_cons (je_var (r := .v v_law_state) 0 rfl) (ja_cons (je_sub (je_var (r := .v v_law_depth) 1 rfl) je_int) ja_nil))) ja_nil))))) fun _ => rfl))))))))
/-! ### _law_places -/
abbrev s__law_places : Stmt := top 17
abbrev N__law_places : List Str := ["_law_term_here", "_law_places_here", "_law_k", "_law_place"]
theorem sc__law_places : FnScope N__law_places ["_law_term_here"] (defScope s__law_places) := ⟨rfl, rfl, rfl, by decide +kernel, rfl, by decide +kernel, by decide +kernel⟩
theorem ok__law_places {a : Addr} {fd : FuncData} {n : Nat} {t : Tab} (F : Fun K "_law_places" "_law_places" s__law_places a fd) (h__law_places : HasF P w K mg base n "_law_places" ["_law_term_here"] (f1 t.d_law_places))  (m_isinstance : mg "isinstance" = none) (m_str : mg "str" = none) (m_range : mg "range" = none) (m_len : mg "len" = none)       :
    FnOk P w K mg base (L2.CX P w) (n + 1) a fd ["_law_term_here"] (spP ⟨K, mg⟩ (f1 fun v_law_term_here => toF (n_law_places t v_law_term_here))) :=
  mk_fnP (nL := 3) (b := b1 (n_law_places t)) F sc__law_places rfl rfl (arg1 fun _ => trivial) fun cdv A outer s H E hr => by
    have tk : Tk (CxP P w K mg base N__law_places "_law_places" (defScope s__law_places) a cdv A outer s H E) (fun cls d _ H => E cls d H) := .inl (takes_of rfl rfl rfl rfl)
    have te : TkE (CxP P w K mg base N__law_places "_law_places" (defScope s__law_places) a cdv A outer s H E) (fun cls d _ H => E cls d H) := te_own (takes_of rfl rfl rfl rfl)
    have hp : PassesOwn (model P w) (CxP P w K mg base N__law_places "_law_places" (defScope s__law_places) a cdv A outer s H E).A (CxP P w K mg base N__law_places "_law_places" (defScope s__law_places) a cdv A outer s H E).env (CxP P w K mg base N__law_places "_law_places" (defScope s__law_places) a cdv A outer s H E).xe := passes_of rfl
    have hN : (CxP P w K mg base N__law_places "_law_places" (defScope s__law_places) a cdv A outer s H E).N.Nodup := sc__law_places.nd
    have w0 : ∀ {Γ : Sl}, SubX none Γ := trivial
    exact arg1 fun v_law_term_here E' => (show JB _ _ _ _ _ _ _ _ (n_law_places t v_law_term_here) from (jb_set 1 w0 hN (JE.to (je_lst (ja_cons (je_tup ja_nil) ja_nil)) fun _ => rfl) (Γ' := fun law_places_here_2 => [some (.v v_law_term_here), some (.v law_places_here_2), none, none]) (fun law_places_here_2 => (jb_if (eα := ((fun law_places_here_5 => [some (.v v_law_term_here), some (.v law_places_here_5), none, none] : (FV) → Sl))) w0 (JT.to (jt_not (jt_val (je_isi m_isinstance m_str (je_var (r := .v v_law_term_here) 0 rfl)))) fun _ => rfl) (jb_forS (A := FV) ((fun law_places_here_17 => [some (.v v_law_term_here), some (.v law_places_here_17), none, none] : (FV) → Sl)) law_places_here_2 (Γb := fun law_places_here_8 law_k_7 => [some (.v v_law_term_here), some (.v law_places_here_8), some (.v law_k_7), none]) (hΓ := fun law_places_here_8 law_k_7 => rfl) w0 hp rfl (JI.to (ji_range2 m_range je_int (je_len m_len (je_var (r := .v v_law_term_here) 0 rfl))) fun _ => rfl) (jg_name 2 hN) (fun law_places_here_8 law_k_7 => (jb_set 1 w0 hN (JE.to (je_add (je_var (r := .v law_places_here_8) 1 rfl) (je_lc [("_law_place", 3)] rfl hN (JI.to (ji_seq (je_call tk h__law_places hr (Nat.le_refl _) (ja_cons (je_ix hr (je_var (r := .v v_law_term_here) 0 rfl) (je_var (r := .v law_k_7) 2 rfl)) ja_nil))) fun _ => rfl) (blkOk_by (N := N__law_places) (sc := defScope s__law_places) (by decide +kernel)) (jgb_name 3 (fun _ _ _ _ _ => hN)) (by decide) (fun law_place_11 => fun _ _ _ _ _ => (JTs.to jts_nil fun _ => rfl)) (fun law_place_11 => fun _ _ _ _ _ => (JE.to (je_add (je_tup (ja_cons (je_sub (je_var (r := .v law_k_7) 2 rfl) je_int) ja_nil)) (je_var (r := .v law_place_11) 3 rfl)) fun _ => rfl)) (hΓ := fun law_place_11 => rfl) (Γc := fun law_place_11 => [some (.v v_law_term_here), some (.v law_places_here_8), some (.v law_k_7), some (.v law_place_11)]) (t := fun law_place_11 => (pur true)) (fe := fun law_place_11 => (bnd (bnd (mV (oB gMns (.v law_k_7) (.v (.int 1)))) fun v_12 => (oTup [v_12])) fun t_13 => (oB gAdd t_13 (.v law_place_11)))))) fun _ => rfl) (Γ' := fun law_places_here_16 => [some (.v v_law_term_here), some (.v law_places_here_16), some (.v law_k_7), none]) (fun law_places_here_16 => (jb_nil (a := law_places_here_16) (.keep (.keep (.drop (.keep .nil)))))))) (.keep (.keep (.keep (.keep .nil)))) (fun law_places_here_17 => (jb_nil (a := law_places_here_17) (.keep (.keep (.keep (.keep .nil))))))) (jb_nil (a := law_places_here_2) (.keep (.keep (.keep (.keep .nil))))) (fun law_places_here_5 => (jb_ret w0 (JE.to (je_var (r := .v law_places_here_5) 1 rfl) fun _ => rfl)))))))
/-! ### _law_part -/
abbrev s__law_part : Stmt := top 18
abbrev N__law_part : List Str := ["_law_term_here", "_law_place", "_law_k"]
theorem sc__law_part : FnScope N__law_part ["_law_term_here", "_law_place"] (defScope s__law_part) := ⟨rfl, rfl, rfl, by decide +kernel, rfl, by decide +kernel, by decide +kernel⟩
theorem ok__law_part {a : Addr} {fd : FuncData} {n : Nat} {t : Tab} (F : Fun K "_law_part" "_law_part" s__law_part a fd)          :
    FnOk P w K mg base (L2.CX P w) (n + 1) a fd ["_law_term_here", "_law_place"] (spP ⟨K, mg⟩ (f2 fun v_law_term_here v_law_place => toF (n_law_part t v_law_term_here v_law_place))) :=
  mk_fnP (nL := 1) (b := b2 (n_law_part t)) F sc__law_part rfl rfl (arg2 fun _ _ => trivial) fun cdv A outer s H E hr => by
    have tk : Tk (CxP P w K mg base N__law_part "_law_part" (defScope s__law_part) a cdv A outer s H E) (fun cls d _ H => E cls d H) := .inl (takes_of rfl rfl rfl rfl)
    have te : TkE (CxP P w K mg base N__law_part "_law_part" (defScope s__law_part) a cdv A outer s H E) (fun cls d _ H => E cls d H) := te_own (takes_of rfl rfl rfl rfl)
    have hp : PassesOwn (model P w) (CxP P w K mg base N__law_part "_law_part" (defScope s__law_part) a cdv A outer s H E).A (CxP P w K mg base N__law_part "_law_part" (defScope s__law_part) a cdv A outer s H E).env (CxP P w K mg base N__law_part "_law_part" (defScope s__law_part) a cdv A outer s H E).xe := passes_of rfl
    have hN : (CxP P w K mg base N__law_part "_law_part" (defScope s__law_part) a cdv A outer s H E).N.Nodup := sc__law_part.nd
    have w0 : ∀ {Γ : Sl}, SubX none Γ := trivial
    exact arg2 fun v_law_term_here v_law_place E' => (show JB _ _ _ _ _ _ _ _ (n_law_part t v_law_term_here v_law_place) from (jb_forS (A := FV) ((fun law_term_here_5 => [some (.v law_term_here_5), some (.v v_law_place), none] : (FV) → Sl)) v_law_term_here (Γb := fun law_term_here_2 law_k_1 => [some (.v law_term_here_2), some (.v v_law_place), some (.v law_k_1)]) (hΓ := fun law_term_here_2 law_k_1 => rfl) w0 hp rfl (JI.to (ji_seq (je_var (r := .v v_law_place) 1 rfl)) fun _ => rfl) (jg_name 2 hN) (fun law_term_here_2 law_k_1 => (jb_set 0 w0 hN (JE.to (je_ix hr (je_var (r := .v law_term_here_2) 0 rfl) (je_add (je_var (r := .v law_k_1) 2 rfl) je_int)) fun _ => rfl) (Γ' := fun law_term_here_4 => [some (.v law_term_here_4), some (.v v_law_place), some (.v law_k_1)]) (fun law_term_here_4 => (jb_nil (a := law_term_here_4) (.keep (.keep (.drop .nil))))))) (.keep (.keep (.keep .nil))) (fun law_term_here_5 => (jb_ret w0 (JE.to (je_var (r := .v law_term_here_5) 0 rfl) fun _ => rfl)))))
/-! ### _law_put -/
abbrev s__law_put : Stmt := top 19
abbrev N__law_put : List Str := ["_law_term_here", "_law_place", "_law_part_here", "_law_row"]
theorem sc__law_put : FnScope N__law_put ["_law_term_here", "_law_place", "_law_part_here"] (defScope s__law_put) := ⟨rfl, rfl, rfl, by decide +kernel, rfl, by decide +kernel, by decide +kernel⟩
theorem ok__law_put {a : Addr} {fd : FuncData} {n : Nat} {t : Tab} (F : Fun K "_law_put" "_law_put" s__law_put a fd) (h__law_put : HasF P w K mg base n "_law_put" ["_law_term_here", "_law_place", "_law_part_here"] (f3 t.d_law_put))  (m_len : mg "len" = none) (m_list : mg "list" = none) (m_tuple : mg "tuple" = none)       :
    FnOk P w K mg base (L2.CX P w) (n + 1) a fd ["_law_term_here", "_law_place", "_law_part_here"] (spP ⟨K, mg⟩ (f3 fun v_law_term_here v_law_place v_law_part_here => toF (n_law_put t v_law_term_here v_law_place v_law_part_here))) :=
  mk_fnP (nL := 1) (b := b3 (n_law_put t)) F sc__law_put rfl rfl (arg3 fun _ _ _ => trivial) fun cdv A outer s H E hr => by
    have tk : Tk (CxP P w K mg base N__law_put "_law_put" (defScope s__law_put) a cdv A outer s H E) (fun cls d _ H => E cls d H) := .inl (takes_of rfl rfl rfl rfl)
    have te : TkE (CxP P w K mg base N__law_put "_law_put" (defScope s__law_put) a cdv A outer s H E) (fun cls d _ H => E cls d H) := te_own (takes_of rfl rfl rfl rfl)
    have hp : PassesOwn (model P w) (CxP P w K mg base N__law_put "_law_put" (defScope s__law_put) a cdv A outer s H E).A (CxP P w K mg base N__law_put "_law_put" (defScope s__law_put) a cdv A outer s H E).env (CxP P w K mg base N__law_put "_law_put" (defScope s__law_put) a cdv A outer s H E).xe := passes_of rfl
    have hN : (CxP P w K mg base N__law_put "_law_put" (defScope s__law_put) a cdv A outer s H E).N.Nodup := sc__law_put.nd
    have w0 : ∀ {Γ : Sl}, SubX none Γ := trivial
    exact arg3 fun v_law_term_here v_law_place v_law_part_here E' => (show JB _ _ _ _ _ _ _ _ (n_law_put t v_law_term_here v_law_place v_law_part_here) from (jb_ifR w0 (JT.to (jt_q hr (je_len m_len (je_var (r := .v v_law_place) 1 rfl)) je_int) fun _ => rfl) (JE.to (je_var (r := .v v_law_part_here) 2 rfl) fun _ => rfl) (jb_setL 3 w0 hN (JE.to (je_list rfl m_list (je_var (r := .v v_law_term_here) 0 rfl)) fun _ => rfl) (Γ' := fun law_row_3 => [some (.v v_law_term_here), some (.v v_law_place), some (.v v_law_part_here), some (.l law_row_3)]) (fun law_row_3 => (jb_lput 3 hr w0 (JE.to (je_call tk h__law_put hr (Nat.le_refl _) (ja_cons (je_ix hr (je_var (r := .l law_row_3) 3 rfl) (je_add (je_ix hr (je_var (r := .v v_law_place) 1 rfl) je_int) je_int)) (ja_cons (je_sl (je_var (r := .v v_law_place) 1 rfl) (jp_some je_int) jp_none) (ja_cons (je_var (r := .v v_law_part_here) 2 rfl) ja_nil)))) fun _ => rfl) (JE.to (je_add (je_ix hr (je_var (r := .v v_law_place) 1 rfl) je_int) je_int) fun _ => rfl) (Γ' := fun law_row_9 => [some (.v v_law_term_here), some (.v v_law_place), some (.v v_law_part_here), some (.l law_row_9)]) (fun law_row_9 => (jb_ret w0 (JE.to (je_tuple m_tuple (je_var (r := .l law_row_9) 3 rfl)) fun _ => rfl))))))))
/-! ### _law_refused -/
abbrev s__law_refused : Stmt := top 20
abbrev N__law_refused : List Str := ["_law_term_here", "_law_place", "error"]
theorem sc__law_refused : FnScope N__law_refused ["_law_term_here", "_law_place"] (defScope s__law_refused) := ⟨rfl, rfl, rfl, by decide +kernel, rfl, by decide +kernel, by decide +kernel⟩
theorem ok__law_refused {a : Addr} {fd : FuncData} {n : Nat} {t : Tab} (F : Fun K "_law_refused" "_law_refused" s__law_refused a fd) (h_part_at : HasF P w K mg base n "part_at" ["term", "place"] (f2 t.d_part_at)) (h_replace_at : HasF P w K mg base n "replace_at" ["term", "place", "part"] (f3 t.d_replace_at))  (m_isinstance : mg "isinstance" = none)  (x_WorldOrPaperError : ∃ C, ExcF K mg "WorldOrPaperError" C) (x_BadPlace : ∃ C, ExcF K mg "BadPlace" C) (hT : ET K mg eT)     :
    FnOk P w K mg base (L2.CX P w) (n + 1) a fd ["_law_term_here", "_law_place"] (spP ⟨K, mg⟩ (f2 fun v_law_term_here v_law_place => toF (n_law_refused t v_law_term_here v_law_place))) :=
  mk_fnP (nL := 1) (b := b2 (n_law_refused t)) F sc__law_refused rfl rfl (arg2 fun _ _ => trivial) fun cdv A outer s H E hr => by
    have tk : Tk (CxP P w K mg base N__law_refused "_law_refused" (defScope s__law_refused) a cdv A outer s H E) (fun cls d _ H => E cls d H) := .inl (takes_of rfl rfl rfl rfl)
    have te : TkE (CxP P w K mg base N__law_refused "_law_refused" (defScope s__law_refused) a cdv A outer s H E) (fun cls d _ H => E cls d H) := te_own (takes_of rfl rfl rfl rfl)
    have hp : PassesOwn (model P w) (CxP P w K mg base N__law_refused "_law_refused" (defScope s__law_refused) a cdv A outer s H E).A (CxP P w K mg base N__law_refused "_law_refused" (defScope s__law_refused) a cdv A outer s H E).env (CxP P w K mg base N__law_refused "_law_refused" (defScope s__law_refused) a cdv A outer s H E).xe := passes_of rfl
    have hN : (CxP P w K mg base N__law_refused "_law_refused" (defScope s__law_refused) a cdv A outer s H E).N.Nodup := sc__law_refused.nd
    have w0 : ∀ {Γ : Sl}, SubX none Γ := trivial
    exact arg2 fun v_law_term_here v_law_place E' => (show JB _ _ _ _ _ _ _ _ (n_law_refused t v_law_term_here v_law_place) from (jb_tryA 2 (eα := fun (_ : Unit) => [some (.v v_law_term_here), some (.v v_law_place), none]) (tab := eT) hT x_WorldOrPaperError rfl rfl hN rfl (fun _ => rfl) (by intro b; first | rfl | exact nomatch b) (fun pn xe W' tk1 hp => have tk : Tk _ _ := .inl tk1; have w0 : SubX (some [some (.v v_law_term_here), some (.v v_law_place), none]) [some (.v v_law_term_here), some (.v v_law_place), none] := Sub.refl _; (jb_expr w0 (JE.to (je_call tk h_part_at hr (Nat.le_refl _) (ja_cons (je_var (r := .v v_law_term_here) 0 rfl) (ja_cons (je_var (r := .v v_law_place) 1 rfl) ja_nil))) fun _ => rfl) (jb_nil (a := ()) (.keep (.keep (.keep .nil)))))) (fun _ => (jb_ret w0 (JE.to (je_bl (i := false)) fun _ => rfl))) (fun a oe pn c C hC hE hsub hz hv => (jh_ifR (jta_to (jta_not (jta_val (ja_isE hT hC hE hz hv m_isinstance (exg x_BadPlace)))) fun _ => rfl) (JEa.to (ja_of (JE.to (je_bl (i := false)) fun _ => rfl)) fun _ => rfl) (jh_of (jb_nil (a := ()) (.keep (.keep (.keep .nil))))))) (fun _ => (jb_tryA 2 (eα := fun (_ : Unit) => [some (.v v_law_term_here), some (.v v_law_place), none]) (tab := eT) hT x_WorldOrPaperError rfl rfl hN rfl (fun _ => rfl) (by intro b; first | rfl | exact nomatch b) (fun pn xe W' tk1 hp => have tk : Tk _ _ := .inl tk1; have w0 : SubX (some [some (.v v_law_term_here), some (.v v_law_place), none]) [some (.v v_law_term_here), some (.v v_law_place), none] := Sub.refl _; (jb_expr w0 (JE.to (je_call tk h_replace_at hr (Nat.le_refl _) (ja_cons (je_var (r := .v v_law_term_here) 0 rfl) (ja_cons (je_var (r := .v v_law_place) 1 rfl) (ja_cons (je_tup (ja_cons je_str ja_nil)) ja_nil)))) fun _ => rfl) (jb_nil (a := ()) (.keep (.keep (.keep .nil)))))) (fun _ => (jb_nil (a := ()) (.keep (.keep (.keep .nil))))) (fun a oe pn c C hC hE hsub hz hv => (jh_ret (JEa.to (ja_isE hT hC hE hz hv m_isinstance (exg x_BadPlace)) fun _ => rfl))) (fun _ => (jb_ret w0 (JE.to (je_bl (i := false)) fun _ => rfl)))))))
/-! ### _law_listed -/
abbrev s__law_listed : Stmt := top 21
abbrev N__law_listed : List Str := ["_law_term_here", "_law_parts", "_law_found", "_law_names", "_law_part_here", "_law_size", "_law_place"]
theorem sc__law_listed : FnScope N__law_listed ["_law_term_here"] (defScope s__law_listed) := ⟨rfl, rfl, rfl, by decide +kernel, rfl, by decide +kernel, by decide +kernel⟩
theorem ok__law_listed {a : Addr} {fd : FuncData} {n : Nat} {t : Tab} (F : Fun K "_law_listed" "_law_listed" s__law_listed a fd) (h__law_places : HasF P w K mg base n "_law_places" ["_law_term_here"] (f1 t.d_law_places)) (h__law_part : HasF P w K mg base n "_law_part" ["_law_term_here", "_law_place"] (f2 t.d_law_part)) (h_term_size : HasF P w K mg base n "term_size" ["term"] (f1 t.d_term_size)) (h_places_of : HasF P w K mg base n "places_of" ["term"] (f1 t.d_places_of)) (h_parts_of : HasF P w K mg base n "parts_of" ["term"] (f1 t.d_parts_of)) (h_unknowns_of : HasF P w K mg base n "unknowns_of" ["term"] (f1 t.d_unknowns_of))  (m_isinstance : mg "isinstance" = none) (m_str : mg "str" = none) (m_int : mg "int" = none) (m_bool : mg "bool" = none) (m_len : mg "len" = none)       :
    FnOk P w K mg base (L2.CX P w) (n + 1) a fd ["_law_term_here"] (spP ⟨K, mg⟩ (f1 fun v_law_term_here => toF (n_law_listed t v_law_term_here))) :=
  mk_fnP (nL := 6) (b := b1 (n_law_listed t)) F sc__law_listed rfl rfl (arg1 fun _ => trivial) fun cdv A outer s H E hr => by
    have tk : Tk (CxP P w K mg base N__law_listed "_law_listed" (defScope s__law_listed) a cdv A outer s H E) (fun cls d _ H => E cls d H) := .inl (takes_of rfl rfl rfl rfl)
    have te : TkE (CxP P w K mg base N__law_listed "_law_listed" (defScope s__law_listed) a cdv A outer s H E) (fun cls d _ H => E cls d H) := te_own (takes_of rfl rfl rfl rfl)
    have hp : PassesOwn (model P w) (CxP P w K mg base N__law_listed "_law_listed" (defScope s__law_listed) a cdv A outer s H E).A (CxP P w K mg base N__law_listed "_law_listed" (defScope s__law_listed) a cdv A outer s H E).env (CxP P w K mg base N__law_listed "_law_listed" (defScope s__law_listed) a cdv A outer s H E).xe := passes_of rfl
    have hN : (CxP P w K mg base N__law_listed "_law_listed" (defScope s__law_listed) a cdv A outer s H E).N.Nodup := sc__law_listed.nd
    have w0 : ∀ {Γ : Sl}, SubX none Γ := trivial
    exact arg1 fun v_law_term_here E' => (show JB _ _ _ _ _ _ _ _ (n_law_listed t v_law_term_here) from (jb_setLC 1 (Γ' := fun law_parts_4 => [some (.v v_law_term_here), some (.v law_parts_4), none, none, none, none, none]) [("_law_place", 6)] w0 rfl hN (JI.to (ji_seq (je_call tk h__law_places hr (Nat.le_refl _) (ja_cons (je_var (r := .v v_law_term_here) 0 rfl) ja_nil))) fun _ => rfl) (blkOk_by (N := N__law_listed) (sc := defScope s__law_listed) (by decide +kernel)) (jgb_name 6 (fun _ _ _ _ _ => hN)) (by decide) (fun law_place_2 => fun _ _ _ _ _ => (JTs.to jts_nil fun _ => rfl)) (fun law_place_2 => fun _ _ _ _ _ => (JE.to (je_call (.inr rfl) h__law_part hr (Nat.le_refl _) (ja_cons (je_var (r := .v v_law_term_here) 0 rfl) (ja_cons (je_var (r := .v law_place_2) 6 rfl) ja_nil))) fun _ => rfl)) (fun law_parts_4 => (jb_setL 2 w0 hN (JE.to (je_lst ja_nil) fun _ => rfl) (Γ' := fun law_found_5 => [some (.v v_law_term_here), some (.v law_parts_4), some (.l law_found_5), none, none, none, none]) (fun law_found_5 => (jb_setL 3 w0 hN (JE.to (je_lst ja_nil) fun _ => rfl) (Γ' := fun law_names_6 => [some (.v v_law_term_here), some (.v law_parts_4), some (.l law_found_5), some (.l law_names_6), none, none, none]) (fun law_names_6 => (jb_forS (A := List FV × List FV) ((fun | (law_found_16, law_names_17) => [some (.v v_law_term_here), some (.v law_parts_4), some (.l law_found_16), some (.l law_names_17), none, none, none] : (List FV × List FV) → Sl)) (law_found_5, law_names_6) (Γb := fun | (law_found_8, law_names_9), law_part_here_7 => [some (.v v_law_term_here), some (.v law_parts_4), some (.l law_found_8), some (.l law_names_9), some (.v law_part_here_7), none, none]) (hΓ := fun | (law_found_8, law_names_9), law_part_here_7 => rfl) w0 hp rfl (JI.to (ji_seq (je_var (r := .v law_parts_4) 1 rfl)) fun _ => rfl) (jg_name 4 hN) (fun | (law_found_8, law_names_9), law_part_here_7 => (jb_if (eα := ((fun law_found_11 => [some (.v v_law_term_here), some (.v law_parts_4), some (.l law_found_11), some (.l law_names_9), some (.v law_part_here_7), none, none] : (List FV) → Sl))) w0 (JT.to (jt_nmx hr (je_var (r := .v law_part_here_7) 4 rfl) (je_var (r := .l law_found_8) 2 rfl)) fun _ => rfl) (jb_append 2 w0 (JE.to (je_var (r := .v law_part_here_7) 4 rfl) fun _ => rfl) (Γ' := fun law_found_15 => [some (.v v_law_term_here), some (.v law_parts_4), some (.l law_found_15), some (.l law_names_9), some (.v law_part_here_7), none, none]) (fun law_found_15 => (jb_nil (a := law_found_15) (.keep (.keep (.keep (.keep (.keep (.keep (.keep .nil)))))))))) (jb_nil (a := law_found_8) (.keep (.keep (.keep (.keep (.keep (.keep (.keep .nil)))))))) (fun law_found_11 => (jb_ifE w0 (JT.to (jt_bool (jw_and (jt_val (je_isi m_isinstance m_str (je_var (r := .v law_part_here_7) 4 rfl))) (jw_and1 (jt_nmx hr (je_var (r := .v law_part_here_7) 4 rfl) (je_var (r := .l law_names_9) 3 rfl))))) fun _ => rfl) (jb_append 3 w0 (JE.to (je_var (r := .v law_part_here_7) 4 rfl) fun _ => rfl) (Γ' := fun law_names_14 => [some (.v v_law_term_here), some (.v law_parts_4), some (.l law_found_11), some (.l law_names_14), some (.v law_part_here_7), none, none]) (fun law_names_14 => (jb_nil (a := (law_found_11, law_names_14)) (.keep (.keep (.keep (.keep (.drop (.keep (.keep .nil)))))))))) (jb_nil (a := (law_found_11, law_names_9)) (.keep (.keep (.keep (.keep (.drop (.keep (.keep .nil)))))))))))) (.keep (.keep (.keep (.keep (.keep (.keep (.keep .nil))))))) (fun | (law_found_16, law_names_17) => (jb_set 5 w0 hN (JE.to (je_call tk h_term_size hr (Nat.le_refl _) (ja_cons (je_var (r := .v v_law_term_here) 0 rfl) ja_nil)) fun _ => rfl) (Γ' := fun law_size_18 => [some (.v v_law_term_here), some (.v law_parts_4), some (.l law_found_16), some (.l law_names_17), none, some (.v law_size_18), none]) (fun law_size_18 => (jb_ifR w0 (JT.to (jt_bool (jw_or (jt_not (jt_val (je_isi m_isinstance m_int (je_var (r := .v law_size_18) 5 rfl)))) (jw_or (jt_val (je_isi m_isinstance m_bool (je_var (r := .v law_size_18) 5 rfl))) (jw_or1 (jt_nq hr (je_var (r := .v law_size_18) 5 rfl) (je_len m_len (je_var (r := .v law_parts_4) 1 rfl))))))) fun _ => rfl) (JE.to (je_bl (i := false)) fun _ => rfl) (jb_ret w0 (JE.to (je_and (je_q hr (je_call tk h_places_of hr (Nat.le_refl _) (ja_cons (je_var (r := .v v_law_term_here) 0 rfl) ja_nil)) (je_call tk h__law_places hr (Nat.le_refl _) (ja_cons (je_var (r := .v v_law_term_here) 0 rfl) ja_nil))) (je_and (je_q hr (je_call tk h_parts_of hr (Nat.le_refl _) (ja_cons (je_var (r := .v v_law_term_here) 0 rfl) ja_nil)) (je_var (r := .l law_found_16) 2 rfl)) (je_one (je_q hr (je_call tk h_unknowns_of hr (Nat.le_refl _) (ja_cons (je_var (r := .v v_law_term_here) 0 rfl) ja_nil)) (je_var (r := .l law_names_17) 3 rfl))))) fun _ => rfl)))))))))))) (hΓ := fun law_place_2 => rfl) (Γc := fun law_place_2 => [some (.v v_law_term_here), none, none, none, none, none, some (.v law_place_2)]) (t := fun law_place_2 => (pur true))))
/-! ### law -/
abbrev s_law : Stmt := top 22
abbrev N_law : List Str := ["_law_script", "_law_state", "_law_term_here", "_law_part_here", "_law_places_here", "_law_place", "_law_here", "_law_due", "_law_actual", "_law_old", "_law_beyond"]
theorem sc_law : FnScope N_law ["_law_script"] (defScope s_law) := ⟨rfl, rfl, rfl, by decide +kernel, rfl, by decide +kernel, by decide +kernel⟩
theorem ok_law {a : Addr} {fd : FuncData} {n : Nat} {t : Tab} (F : Fun K "law" "law" s_law a fd) (h__law_start : HasF P w K mg base n "_law_start" ["_law_script"] (f1 t.d_law_start)) (h__law_term : HasF P w K mg base n "_law_term" ["_law_state", "_law_depth"] (f2 t.d_law_term)) (h__law_places : HasF P w K mg base n "_law_places" ["_law_term_here"] (f1 t.d_law_places)) (h__law_take : HasF P w K mg base n "_law_take" ["_law_state", "_law_many"] (f2 t.d_law_take)) (h_part_at : HasF P w K mg base n "part_at" ["term", "place"] (f2 t.d_part_at)) (h__law_part : HasF P w K mg base n "_law_part" ["_law_term_here", "_law_place"] (f2 t.d_law_part)) (h__law_put : HasF P w K mg base n "_law_put" ["_law_term_here", "_law_place", "_law_part_here"] (f3 t.d_law_put)) (h_replace_at : HasF P w K mg base n "replace_at" ["term", "place", "part"] (f3 t.d_replace_at)) (h__law_refused : HasF P w K mg base n "_law_refused" ["_law_term_here", "_law_place"] (f2 t.d_law_refused)) (h__law_listed : HasF P w K mg base n "_law_listed" ["_law_term_here"] (f1 t.d_law_listed))  (m_len : mg "len" = none) (m_isinstance : mg "isinstance" = none) (m_str : mg "str" = none)       :
    FnOk P w K mg base (L2.CX P w) (n + 1) a fd ["_law_script"] (spP ⟨K, mg⟩ (f1 fun v_law_script => toF (n_law t v_law_script))) :=
  mk_fnP (nL := 10) (b := b1 (n_law t)) F sc_law rfl rfl (arg1 fun _ => trivial) fun cdv A outer s H E hr => by
    have tk : Tk (CxP P w K mg base N_law "law" (defScope s_law) a cdv A outer s H E) (fun cls d _ H => E cls d H) := .inl (takes_of rfl rfl rfl rfl)
    have te : TkE (CxP P w K mg base N_law "law" (defScope s_law) a cdv A outer s H E) (fun cls d _ H => E cls d H) := te_own (takes_of rfl rfl rfl rfl)
    have hp : PassesOwn (model P w) (CxP P w K mg base N_law "law" (defScope s_law) a cdv A outer s H E).A (CxP P w K mg base N_law "law" (defScope s_law) a cdv A outer s H E).env (CxP P w K mg base N_law "law" (defScope s_law) a cdv A outer s H E).xe := passes_of rfl
    have hN : (CxP P w K mg base N_law "law" (defScope s_law) a cdv A outer s H E).N.Nodup := sc_law.nd
    have w0 : ∀ {Γ : Sl}, SubX none Γ := trivial
    exact arg1 fun v_law_script E' => (show JB _ _ _ _ _ _ _ _ (n_law t v_law_script) from (jb_setT 1 w0 hN (JE.to (je_call tk h__law_start hr (Nat.le_refl _) (ja_cons (je_var (r := .v v_law_script) 0 rfl) ja_nil)) fun _ => rfl) (Γ' := fun law_state_1 => [some (.v v_law_script), some (.v law_state_1), none, none, none, none, none, none, none, none, none]) (fun law_state_1 => (jb_set 2 w0 hN (JE.to (je_call tk h__law_term hr (Nat.le_refl _) (ja_cons (je_var (r := .v law_state_1) 1 rfl) (ja_cons je_int ja_nil))) fun _ => rfl) (Γ' := fun law_term_here_2 => [some (.v v_law_script), some (.v law_state_1), some (.v law_term_here_2), none, none, none, none, none, none, none, none]) (fun law_term_here_2 => (jb_set 3 w0 hN (JE.to (je_call tk h__law_term hr (Nat.le_refl _) (ja_cons (je_var (r := .v law_state_1) 1 rfl) (ja_cons je_int ja_nil))) fun _ => rfl) (Γ' := fun law_part_here_3 => [some (.v v_law_script), some (.v law_state_1), some (.v law_term_here_2), some (.v law_part_here_3), none, none, none, none, none, none, none]) (fun law_part_here_3 => (jb_set 4 w0 hN (JE.to (je_call tk h__law_places hr (Nat.le_refl _) (ja_cons (je_var (r := .v law_term_here_2) 2 rfl) ja_nil)) fun _ => rfl) (Γ' := fun law_places_here_4 => [some (.v v_law_script), some (.v law_state_1), some (.v law_term_here_2), some (.v law_part_here_3), some (.v law_places_here_4), none, none, none, none, none, none]) (fun law_places_here_4 => (jb_set 5 w0 hN (JE.to (je_ix hr (je_var (r := .v law_places_here_4) 4 rfl) (je_call tk h__law_take hr (Nat.le_refl _) (ja_cons (je_var (r := .v law_state_1) 1 rfl) (ja_cons (je_len m_len (je_var (r := .v law_places_here_4) 4 rfl)) ja_nil)))) fun _ => rfl) (Γ' := fun law_place_7 => [some (.v v_law_script), some (.v law_state_1), some (.v law_term_here_2), some (.v law_part_here_3), some (.v law_places_here_4), some (.v law_place_7), none, none, none, none, none]) (fun law_place_7 => (jb_forS (A := Unit) ((fun _ => [some (.v v_law_script), some (.v law_state_1), some (.v law_term_here_2), some (.v law_part_here_3), some (.v law_places_here_4), some (.v law_place_7), none, none, none, none, none] : (Unit) → Sl)) () (Γb := fun _ law_here_8 => [some (.v v_law_script), some (.v law_state_1), some (.v law_term_here_2), some (.v law_part_here_3), some (.v law_places_here_4), some (.v law_place_7), some (.v law_here_8), none, none, none, none]) (hΓ := fun _ law_here_8 => rfl) w0 hp rfl (JI.to (ji_seq (je_var (r := .v law_places_here_4) 4 rfl)) fun _ => rfl) (jg_name 6 hN) (fun _ law_here_8 => (jb_ifE w0 (JT.to (jt_nq hr (je_call tk h_part_at hr (Nat.le_refl _) (ja_cons (je_var (r := .v law_term_here_2) 2 rfl) (ja_cons (je_var (r := .v law_here_8) 6 rfl) ja_nil))) (je_call tk h__law_part hr (Nat.le_refl _) (ja_cons (je_var (r := .v law_term_here_2) 2 rfl) (ja_cons (je_var (r := .v law_here_8) 6 rfl) ja_nil)))) fun _ => rfl) (jb_ret w0 (JE.to (je_bl (i := false)) fun _ => rfl)) (jb_nil (a := ()) (.keep (.keep (.keep (.keep (.keep (.keep (.drop (.keep (.keep (.keep (.keep .nil)))))))))))))) (.keep (.keep (.keep (.keep (.keep (.keep (.keep (.keep (.keep (.keep (.keep .nil))))))))))) (fun _ => (jb_set 7 w0 hN (JE.to (je_call tk h__law_put hr (Nat.le_refl _) (ja_cons (je_var (r := .v law_term_here_2) 2 rfl) (ja_cons (je_var (r := .v law_place_7) 5 rfl) (ja_cons (je_var (r := .v law_part_here_3) 3 rfl) ja_nil)))) fun _ => rfl) (Γ' := fun law_due_12 => [some (.v v_law_script), some (.v law_state_1), some (.v law_term_here_2), some (.v law_part_here_3), some (.v law_places_here_4), some (.v law_place_7), none, some (.v law_due_12), none, none, none]) (fun law_due_12 => (jb_set 8 w0 hN (JE.to (je_call tk h_replace_at hr (Nat.le_refl _) (ja_cons (je_var (r := .v law_term_here_2) 2 rfl) (ja_cons (je_var (r := .v law_place_7) 5 rfl) (ja_cons (je_var (r := .v law_part_here_3) 3 rfl) ja_nil)))) fun _ => rfl) (Γ' := fun law_actual_13 => [some (.v v_law_script), some (.v law_state_1), some (.v law_term_here_2), some (.v law_part_here_3), some (.v law_places_here_4), some (.v law_place_7), none, some (.v law_due_12), some (.v law_actual_13), none, none]) (fun law_actual_13 => (jb_ifR w0 (JT.to (jt_bool (jw_or (jt_nq hr (je_var (r := .v law_actual_13) 8 rfl) (je_var (r := .v law_due_12) 7 rfl)) (jw_or1 (jt_nq hr (je_call tk h_part_at hr (Nat.le_refl _) (ja_cons (je_var (r := .v law_actual_13) 8 rfl) (ja_cons (je_var (r := .v law_place_7) 5 rfl) ja_nil))) (je_var (r := .v law_part_here_3) 3 rfl))))) fun _ => rfl) (JE.to (je_bl (i := false)) fun _ => rfl) (jb_set 9 w0 hN (JE.to (je_call tk h__law_part hr (Nat.le_refl _) (ja_cons (je_var (r := .v law_term_here_2) 2 rfl) (ja_cons (je_var (r := .v law_place_7) 5 rfl) ja_nil))) fun _ => rfl) (Γ' := fun law_old_16 => [some (.v v_law_script), some (.v law_state_1), some (.v law_term_here_2), some (.v law_part_here_3), some (.v law_places_here_4), some (.v law_place_7), none, some (.v law_due_12), some (.v law_actual_13), some (.v law_old_16), none]) (fun law_old_16 => (jb_ifR w0 (JT.to (jt_nq hr (je_call tk h_replace_at hr (Nat.le_refl _) (ja_cons (je_var (r := .v law_actual_13) 8 rfl) (ja_cons (je_var (r := .v law_place_7) 5 rfl) (ja_cons (je_var (r := .v law_old_16) 9 rfl) ja_nil)))) (je_var (r := .v law_term_here_2) 2 rfl)) fun _ => rfl) (JE.to (je_bl (i := false)) fun _ => rfl) (jb_set 10 w0 hN (JE.to (je_add (je_var (r := .v law_place_7) 5 rfl) (je_tup (ja_cons (je_sub (je_len m_len (je_var (r := .v law_old_16) 9 rfl)) je_int) ja_nil))) fun _ => rfl) (Γ' := fun law_beyond_22 => [some (.v v_law_script), some (.v law_state_1), some (.v law_term_here_2), some (.v law_part_here_3), some (.v law_places_here_4), some (.v law_place_7), none, some (.v law_due_12), some (.v law_actual_13), some (.v law_old_16), some (.v law_beyond_22)]) (fun law_beyond_22 => (jb_if (eα := ((fun law_beyond_25 => [some (.v v_law_script), some (.v law_state_1), some (.v law_term_here_2), some (.v law_part_here_3), some (.v law_places_here_4), some (.v law_place_7), none, some (.v law_due_12), some (.v law_actual_13), some (.v law_old_16), some (.v law_beyond_25)] : (FV) → Sl))) w0 (JT.to (jt_val (je_isi m_isinstance m_str (je_var (r := .v law_old_16) 9 rfl))) fun _ => rfl) (jb_set 10 w0 hN (JE.to (je_add (je_var (r := .v law_place_7) 5 rfl) (je_tup (ja_cons (je_call tk h__law_take hr (Nat.le_refl _) (ja_cons (je_var (r := .v law_state_1) 1 rfl) (ja_cons je_int ja_nil))) ja_nil))) fun _ => rfl) (Γ' := fun law_beyond_35 => [some (.v v_law_script), some (.v law_state_1), some (.v law_term_here_2), some (.v law_part_here_3), some (.v law_places_here_4), some (.v law_place_7), none, some (.v law_due_12), some (.v law_actual_13), some (.v law_old_16), some (.v law_beyond_35)]) (fun law_beyond_35 => (jb_nil (a := law_beyond_35) (.keep (.keep (.keep (.keep (.keep (.keep (.keep (.keep (.keep (.keep (.keep .nil)))))))))))))) (jb_nil (a := law_beyond_22) (.keep (.keep (.keep (.keep (.keep (.keep (.keep (.keep (.keep (.keep (.keep .nil)))))))))))) (fun law_beyond_25 => (jb_ifR w0 (JT.to (jt_bool (jw_or (jt_not (jt_val (je_call tk h__law_refused hr (Nat.le_refl _) (ja_cons (je_var (r := .v law_term_here_2) 2 rfl) (ja_cons (je_var (r := .v law_beyond_25) 10 rfl) ja_nil))))) (jw_or1 (jt_not (jt_val (je_call tk h__law_refused hr (Nat.le_refl _) (ja_cons (je_var (r := .v law_term_here_2) 2 rfl) (ja_cons (je_add (je_var (r := .v law_beyond_25) 10 rfl) (je_tup (ja_cons je_int ja_nil))) ja_nil)))))))) fun _ => rfl) (JE.to (je_bl (i := false)) fun _ => rfl) (jb_ret w0 (JE.to (je_and (je_call tk h__law_listed hr (Nat.le_refl _) (ja_cons (je_var (r := .v law_term_here_2) 2 rfl) ja_nil)) (je_and (je_call tk h__law_listed hr (Nat.le_refl _) (ja_cons (je_var (r := .v law_part_here_3) 3 rfl) ja_nil)) (je_one (je_call tk h__law_listed hr (Nat.le_refl _) (ja_cons (je_var (r := .v law_due_12) 7 rfl) ja_nil))))) fun _ => rfl))))))))))))))))))))))))))))
end
end Q86
namespace Q86
open PySem P
/-! the parts of a term in preorder -/
theorem arguments_ok (n : Nat) (t : Tm) : (T (n + 1)).d_arguments t.fv = pur (.v (.tup (t.args.map Tm.fv))) := by
  rw [T__arguments, n_arguments, is_str_t, bnd_pur, oT_bl, bnd_pur]
  cases t with
  | var x =>
    dsimp only
    rw [if_pos rfl, tup_nil, ret_pur, toF_rt, gcM_pur']; rfl
  | app f ts =>
    dsimp only
    rw [if_neg Bool.false_ne_true, fv_app, sl_t1, ret_pur, toF_rt, gcM_pur', fvs_map]; rfl
theorem all_loop' (n : Nat) : ∀ (k fuel : Nat) (ps ds : List Tm), nnL ds ≤ k → k < fuel → ps.length + k ≤ 1000000 →
    (whileN ((fun | (parts_3, due_4) => (bnd (oU gLen (.bl due_4)) fun t_5 => (oC gGt t_5 (.v (.int 0)))))) ((fun | (parts_3, due_4) => (bnd (oPopO due_4) (fun | (part_7, due_6) => (bnd (oApp parts_3 part_7) fun parts_8 => (bnd (mV (bnd ((T (n + 1)).d_arguments part_7) fun t_10 => (oU (gRevS none) t_10))) fun v_12 => (bnd (oLu v_12) fun es_11 => bnd (oExt due_6 es_11) fun due_9 => (pur (.nx (parts_8, due_9)))))))))) fuel (ps.map Tm.fv, ds.map Tm.fv) : M (Fl (List FV × List FV) Empty)) = pur (.nx ((ps ++ prL ds).map Tm.fv, [])) := fun k => by
  have stop : ∀ (fuel : Nat) (ps : List Tm), (whileN ((fun | (parts_3, due_4) => (bnd (oU gLen (.bl due_4)) fun t_5 => (oC gGt t_5 (.v (.int 0)))))) ((fun | (parts_3, due_4) => (bnd (oPopO due_4) (fun | (part_7, due_6) => (bnd (oApp parts_3 part_7) fun parts_8 => (bnd (mV (bnd ((T (n + 1)).d_arguments part_7) fun t_10 => (oU (gRevS none) t_10))) fun v_12 => (bnd (oLu v_12) fun es_11 => bnd (oExt due_6 es_11) fun due_9 => (pur (.nx (parts_8, due_9)))))))))) (fuel + 1) (ps.map Tm.fv, ([] : List Tm).map Tm.fv) : M (Fl (List FV × List FV) Empty)) = pur (.nx ((ps ++ prL []).map Tm.fv, [])) := fun fuel ps => by
    rw [show prL [] = [] from rfl, List.append_nil]
    exact while_stop (by
      dsimp only
      rw [List.map_nil, len_bl, bnd_pur, gt_ii, decide_eq_false (by simp)])
  induction k with
  | zero =>
    intro fuel ps ds hk hf hl
    obtain ⟨fuel, rfl⟩ : ∃ j, fuel = j + 1 := ⟨fuel - 1, by omega⟩
    have dl := nnL_len ds
    have : ds = [] := List.length_eq_zero_iff.mp (by omega)
    subst this
    exact stop fuel ps
  | succ k ih =>
    intro fuel ps ds hk hf hl
    obtain ⟨fuel, rfl⟩ : ∃ j, fuel = j + 1 := ⟨fuel - 1, by omega⟩
    by_cases e : ds = []
    · subst e
      exact stop fuel ps
    · obtain ⟨ds, u, rfl⟩ : ∃ m y, ds = m ++ [y] := ⟨_, _, (List.dropLast_concat_getLast e).symm⟩
      rw [nnL_app, nnL_one] at hk
      have a := nnL_args u
      have dl := nnL_len ds
      have al := nnL_len u.args
      have nx : (((fun | (parts_3, due_4) => (bnd (oPopO due_4) (fun | (part_7, due_6) => (bnd (oApp parts_3 part_7) fun parts_8 => (bnd (mV (bnd ((T (n + 1)).d_arguments part_7) fun t_10 => (oU (gRevS none) t_10))) fun v_12 => (bnd (oLu v_12) fun es_11 => bnd (oExt due_6 es_11) fun due_9 => (pur (.nx (parts_8, due_9)))))))))) : List FV × List FV → M (Fl (List FV × List FV) (List FV × List FV))) (ps.map Tm.fv, (ds ++ [u]).map Tm.fv) = pur (.nx ((ps ++ [u]).map Tm.fv, (ds ++ u.args.reverse).map Tm.fv)) := by
        dsimp only
        rw [List.map_append, List.map_cons, List.map_nil, pop_o, bnd_pur]
        dsimp only
        rw [app_lt (by rw [List.length_map]; omega), bnd_pur, arguments_ok, bnd_pur, rev_tup, mV_v, bnd_pur, oLu_t, bnd_pur, ext_le (by rw [List.length_reverse, List.length_map, List.length_map]; omega), bnd_pur, ← List.map_reverse, ← List.map_append]
        rw [show ps.map Tm.fv ++ [u.fv] = (ps ++ [u]).map Tm.fv by rw [List.map_append]; rfl]
      have st := while_step (fuel := fuel) (β := Empty) (t := ((fun | (parts_3, due_4) => (bnd (oU gLen (.bl due_4)) fun t_5 => (oC gGt t_5 (.v (.int 0))))))) (F := (((fun | (parts_3, due_4) => (bnd (oPopO due_4) (fun | (part_7, due_6) => (bnd (oApp parts_3 part_7) fun parts_8 => (bnd (mV (bnd ((T (n + 1)).d_arguments part_7) fun t_10 => (oU (gRevS none) t_10))) fun v_12 => (bnd (oLu v_12) fun es_11 => bnd (oExt due_6 es_11) fun due_9 => (pur (.nx (parts_8, due_9)))))))))) : List FV × List FV → M (Fl (List FV × List FV) (List FV × List FV)))) (a := (ps.map Tm.fv, (ds ++ [u]).map Tm.fv)) (by
        dsimp only
        rw [len_bl, bnd_pur, gt_ii, decide_eq_true (by rw [List.length_map, List.length_append, List.length_cons]; omega)]) nx
      refine st.trans ?_
      have r := ih fuel (ps ++ [u]) (ds ++ u.args.reverse) (by rw [nnL_app, nnL_rev]; omega) (by omega) (by rw [List.length_append, List.length_singleton]; omega)
      refine r.trans ?_
      rw [List.append_assoc, show [u] ++ prL (ds ++ u.args.reverse) = prL (ds ++ [u]) by rw [prL_snoc]; exact prL_args ds u]
theorem all_parts_ok (n : Nat) (t : Tm) (hn : t.nn ≤ 900000) : (T (n + 2)).d_all_parts t.fv = pur (.l (t.pre.map Tm.fv)) := by
  rw [T__all_parts, n_all_parts, lst_nil, mL_l, bnd_pur, lst_1, mL_l, bnd_pur]
  have key := all_loop' n 900000 FUEL [] [t] (by rw [nnL_one]; exact hn) (by decide) (by decide)
  rw [List.map_nil, List.map_cons, List.map_nil, List.nil_append] at key
  rw [key, seqN_nx]
  dsimp only
  rw [toF_rt, gcM_pur', show prL [t] = t.pre from by unfold prL; simp]
end Q86
namespace Q86
open PySem P
/-! names in a dict -/
def nD (xs : List Str) : List (L2.Key × FV) := embA FV.bl (xs.map (·, true))
theorem put_name (xs : List Str) (x : Str) (hl : xs.length < 1000000) : oPut (nD xs) (.v (.str x)) (.bl true) = pur (nD (addD xs x)) := by
  refine lift_ok fun _ => ?_
  show gPutK (nD xs) (.v (.str x)) (.bl true) = _
  unfold gPutK
  dsimp only
  rw [show (FV.str x).key = some (keyS x) from rfl]
  dsimp only
  rw [if_pos (by unfold nD embA; rw [List.length_map, List.length_map]; show _ < 16000000; omega)]
  unfold nD
  rw [put_emb]
  congr 2
  unfold putA addD
  rw [List.any_map]
  by_cases h : x ∈ xs
  · rw [if_pos h, if_pos (List.any_eq_true.mpr ⟨x, h, by simp⟩), List.map_map]
    refine List.map_congr_left fun y _ => ?_
    simp only [Function.comp_apply]
    split <;> rfl
  · rw [if_neg h, if_neg (fun z => by
      obtain ⟨y, hy, hy2⟩ := List.any_eq_true.mp z
      simp at hy2
      subst hy2
      exact h hy), List.map_append]; rfl
theorem names_k (xs : List Str) : keysF keyF (nD xs) = xs.map .str := by
  unfold nD embA
  show ((xs.map (·, true)).map fun p => (keyS p.1, FV.bl p.2)).map (fun kv => keyF kv.1) = _
  rw [List.map_map, List.map_map]; rfl
theorem list_names (xs : List Str) : oU gList (.bd (nD xs)) = pur (.l (xs.map .str)) := by
  have : oU gList (.bd (nD xs)) = pur (.l ((nD xs).map fun kv => keyF kv.1)) := lift_ok fun _ => rfl
  rw [this]
  exact congrArg (fun l => pur (RV.l l)) (names_k xs)
theorem len_fold {α : Type} [DecidableEq α] : ∀ (xs acc : List α), (xs.foldl addD acc).length ≤ acc.length + xs.length
  | [], acc => Nat.le_refl _
  | x :: xs, acc => by
    have := len_fold xs (addD acc x)
    have l2 : (addD acc x).length ≤ acc.length + 1 := by
      unfold addD
      split
      · omega
      · rw [List.length_append]; exact Nat.le_refl _
    rw [List.foldl_cons, List.length_cons]; omega
theorem unk_ok (n : Nat) (t : Tm) (h : t.nn ≤ 100000) : (T (n + 3)).d_unknowns_of t.fv = pur (.l ((dd t.vs).map .str)) := by
  have pl := pre_len _ t (Nat.le_refl _)
  have lp : ∀ (ps : List Tm) (acc : List Str), acc.length + ps.length ≤ 200000 → (forN ((fun found_4 part_3 => (bnd (bnd (oU (gIs "str") (.v part_3)) fun t_5 => (oT t_5)) fun c_6 => if c_6 = true then (bnd (oPut found_4 (.v part_3) (.bl true)) fun found_7 => (pur (.nx found_7))) else (pur (.nx found_4)))) : List (L2.Key × FV) → FV → M (Fl (List (L2.Key × FV)) (List (L2.Key × FV)))) (ps.map Tm.fv) (nD acc) : M (Fl (List (L2.Key × FV)) Empty)) = pur (.nx (nD ((ps.filterMap isV).foldl addD acc))) := fun ps => by
    induction ps with
    | nil => intro acc _; rfl
    | cons p ps ih =>
      intro acc hl
      rw [List.length_cons] at hl
      cases p with
      | var x =>
        have l2 := len_fold [x] acc
        rw [List.map_cons, fv_var, forN_cons, is_ss]
        simp only [bnd_pur, oT_bl, if_true, put_name acc x (by omega)]
        rw [ih (addD acc x) (by have : (addD acc x).length ≤ acc.length + 1 := l2; omega)]; rfl
      | app f ts =>
        rw [List.map_cons, fv_app, forN_cons, is_st]
        simp only [bnd_pur, oT_bl, Bool.false_eq_true, if_false]
        rw [ih acc (by omega)]; rfl
  have lp2 := lp t.pre [] (by show 0 + _ ≤ _; omega)
  rw [T_unknowns_of, n_unknowns_of]
  rw [show mD (pur (.d [])) = pur (nD []) from rfl, bnd_pur, all_parts_ok n t (by omega), mV_l, bnd_pur, oW_fl, bnd_pur, lp2]
  simp only [seqN_nx, list_names, ret_pur, toF_rt, gcM_pur']
  rfl
end Q86
namespace Q86
open PySem P
/-! parts at places -/
def intsF (p : List Nat) : List FV := p.map fun k => FV.int (k : Nat)
theorem plF_i (p : List Nat) : plF p = .tup (intsF p) := rfl
theorem thr_bnd {α β : Type} (c : Str) (k : α → M β) : bnd (thr c) k = thr c := funext fun _ => rfl
theorem thr_seq {α β γ : Type} (c : Str) (k : α → M (Fl γ β)) : seqN (thr c) k = thr c := funext fun _ => rfl
theorem thr_toF (c : Str) : toF (thr c) = thr c := funext fun _ => rfl
theorem thr_gc (c : Str) : gcM (thr c) = thr c := funext fun _ => rfl
theorem forN_thr {A β : Type} {F : A → FV → M (Fl A A)} {d : FV} {ds : List FV} {a : A} {c : Str} (h : F a d = thr c) : (forN F (d :: ds) a : M (Fl A β)) = thr c := by
  rw [forN_cons, h, thr_bnd]
theorem forN_nx {A β : Type} {F : A → FV → M (Fl A A)} {d : FV} {ds : List FV} {a b : A} (h : F a d = pur (.nx b)) : (forN F (d :: ds) a : M (Fl A β)) = forN F ds b := by
  rw [forN_cons, h, bnd_pur]
def Stp {A : Type} (F : A → FV → M (Fl A A)) : List FV → A → A → Prop
  | [], a, b => a = b
  | d :: ds, a, c => ∃ b, F a d = pur (.nx b) ∧ Stp F ds b c
theorem Stp.run {A β : Type} {F : A → FV → M (Fl A A)} {es : List FV} : ∀ {ds : List FV} {a b : A}, Stp F ds a b → (forN F (ds ++ es) a : M (Fl A β)) = forN F es b
  | [], a, b, h => by
    have : a = b := h
    subst this; rfl
  | d :: ds, a, c, ⟨b, e, h⟩ => by
    rw [List.cons_append, forN_nx e]
    exact Stp.run h
theorem Stp.all {A β : Type} {F : A → FV → M (Fl A A)} {ds : List FV} {a b : A} (h : Stp F ds a b) : (forN F ds a : M (Fl A β)) = pur (.nx b) := by
  have := Stp.run (β := β) (es := []) h
  rwa [List.append_nil, forN_nil] at this
theorem Stp.app {A : Type} {F : A → FV → M (Fl A A)} {es : List FV} {c : A} : ∀ {ds : List FV} {a b : A}, Stp F ds a b → Stp F es b c → Stp F (ds ++ es) a c
  | [], a, b, h, k => by
    have : a = b := h
    subst this; exact k
  | d :: ds, a, _, ⟨b, e, h⟩, k => ⟨b, e, Stp.app h k⟩
theorem args_len (n : Nat) (t : Tm) : bnd ((T (n + 1)).d_arguments t.fv) (fun t_1 => oU gLen t_1) = pur (.v (.int (t.args.length : Nat))) := by
  rw [arguments_ok, bnd_pur, len_t, List.length_map]
theorem check_ok (n : Nat) (t : Tm) (k : Nat) : (T (n + 2)).d_check_index t.fv (.int (k : Nat)) = if k < t.args.length then pur (.v .non) else thr "BadPlace" := by
  rw [T__check_index, n_check_index, args_len]
  have ch : oChain gLe gLt (.v (.int 0)) (.v (.int (k : Nat))) (pur (.v (.int (t.args.length : Nat)))) = pur (decide (k < t.args.length)) := by
    unfold oChain
    rw [le_ii, bnd_pur, decide_eq_true (by omega), if_pos rfl, bnd_pur, lt_ii]
    congr 1
    exact decide_eq_decide.mpr (by omega)
  rw [ch, mNot_pur, bnd_pur]
  by_cases h : k < t.args.length
  · rw [decide_eq_true h, if_pos h, if_neg (by decide), toF_nx, gcM_pur']
  · rw [decide_eq_false h, if_neg h, if_pos (by rfl), thr_toF, thr_gc]
theorem fv_arg {t : Tm} {k : Nat} {u : Tm} (h : t.args[k]? = some u) : oB gIx (.v t.fv) (.v (.int ((k : Int) + 1))) = pur (.v u.fv) := by
  cases t with
  | var x => cases h
  | app f ts =>
    rw [fv_app, show (k : Int) + 1 = ((k + 1 : Nat) : Int) by omega]
    exact ix_t (atI_nat (by rw [List.getElem?_cons_succ, fvs_map, List.getElem?_map, show ts[k]? = some u from h]; rfl))
theorem at_step {t : Tm} {k : Nat} {p : List Nat} {o : Tm} (h : t.at' (k :: p) = some o) : ∃ u, t.args[k]? = some u ∧ u.at' p = some o := by
  obtain ⟨f, ts, v, rfl, e, h2⟩ := at_some h
  exact ⟨v, e, h2⟩
theorem part_step (n : Nat) {t u : Tm} {k : Nat} (h : t.args[k]? = some u) : ((fun part_3 index_2 => (bnd ((T (n+2)).d_check_index part_3 index_2) fun _ => (bnd (mV (bnd (oB gAdd (.v index_2) (.v (.int 1))) fun t_4 => (oB gIx (.v part_3) t_4))) fun part_5 => (pur (.nx part_5))))) : FV → FV → M (Fl FV FV)) t.fv (.int (k : Nat)) = pur (.nx u.fv) := by
  dsimp only
  rw [check_ok, if_pos (List.getElem?_eq_some_iff.mp h).1, bnd_pur, add_ii, bnd_pur, fv_arg h, mV_v, bnd_pur]
theorem part_stp (n : Nat) : ∀ (p : List Nat) (t o : Tm), t.at' p = some o → Stp ((fun part_3 index_2 => (bnd ((T (n+2)).d_check_index part_3 index_2) fun _ => (bnd (mV (bnd (oB gAdd (.v index_2) (.v (.int 1))) fun t_4 => (oB gIx (.v part_3) t_4))) fun part_5 => (pur (.nx part_5))))) : FV → FV → M (Fl FV FV)) (intsF p) t.fv o.fv
  | [], t, o, h => by
    rw [at_nil] at h; cases h; rfl
  | k :: p, t, o, h => by
    obtain ⟨u, e, h2⟩ := at_step h
    exact ⟨u.fv, part_step n e, part_stp n p u o h2⟩
theorem part_ok (n : Nat) {p : List Nat} {t o : Tm} (h : t.at' p = some o) : (T (n + 3)).d_part_at t.fv (plF p) = pur (.v o.fv) := by
  rw [T_part_at, n_part_at, bnd_pur, plF_i, oW_tup, bnd_pur, (part_stp n p t o h).all, seqN_nx, ret_pur, toF_rt, gcM_pur']
theorem part_bad (n : Nat) {p : List Nat} {t o : Tm} (h : t.at' p = some o) {k : Nat} (hk : o.args.length ≤ k) (q : List Nat) : (T (n + 3)).d_part_at t.fv (plF (p ++ k :: q)) = thr "BadPlace" := by
  have e : intsF (p ++ k :: q) = intsF p ++ .int (k : Nat) :: intsF q := by unfold intsF; rw [List.map_append, List.map_cons]
  rw [T_part_at, n_part_at, bnd_pur, plF_i, oW_tup, bnd_pur, e, (part_stp n p t o h).run, forN_thr (c := "BadPlace") (by
    rw [check_ok, if_neg (by omega), thr_bnd]), thr_seq, thr_toF, thr_gc]
theorem lpart_stp (n : Nat) : ∀ (p : List Nat) (t o : Tm), t.at' p = some o → Stp ((fun law_term_here_2 law_k_1 => (bnd (mV (bnd (oB gAdd (.v law_k_1) (.v (.int 1))) fun t_3 => (oB gIx (.v law_term_here_2) t_3))) fun law_term_here_4 => (pur (.nx law_term_here_4)))) : FV → FV → M (Fl FV FV)) (intsF p) t.fv o.fv
  | [], t, o, h => by
    rw [at_nil] at h; cases h; rfl
  | k :: p, t, o, h => by
    obtain ⟨u, e, h2⟩ := at_step h
    refine ⟨u.fv, ?_, lpart_stp n p u o h2⟩
    show (bnd (mV (bnd (oB gAdd (.v (.int (k : Nat))) (.v (.int 1))) fun t_3 => (oB gIx (.v t.fv) t_3))) fun x => (pur (.nx x) : M (Fl FV FV))) = _
    rw [add_ii, bnd_pur, fv_arg e, mV_v, bnd_pur]
theorem lpart_ok (n : Nat) {p : List Nat} {t o : Tm} (h : t.at' p = some o) : (T (n + 1)).d_law_part t.fv (plF p) = pur (.v o.fv) := by
  rw [T__law_part, n_law_part, plF_i, oW_tup, bnd_pur, (lpart_stp n p t o h).all, seqN_nx, ret_pur, toF_rt, gcM_pur']
theorem put_ok : ∀ (p : List Nat) (n : Nat) (t o u : Tm), t.at' p = some o → (T (n + 1 + p.length)).d_law_put t.fv (plF p) u.fv = pur (.v (Tm.put p u t).fv)
  | [], n, t, o, u, h => by
    rw [show n + 1 + ([] : List Nat).length = n + 1 from rfl, T__law_put, n_law_put, plF_i, len_t, bnd_pur, q_ii, bnd_pur, if_pos (by rfl), ret_pur, toF_rt, gcM_pur', put_nil]
  | k :: p, n, t, o, u, h => by
    obtain ⟨f, ts, v, rfl, e, h2⟩ := at_some h
    have ih := put_ok p n v o u h2
    have lk := (List.getElem?_eq_some_iff.mp e).1
    have ix : oB gIx (.bl (.str f :: ts.map Tm.fv)) (.v (.int ((k : Int) + 1))) = pur (.v v.fv) := by
      rw [show (k : Int) + 1 = ((k + 1 : Nat) : Int) by omega]
      exact ix_bl (atI_nat (by rw [List.getElem?_cons_succ, List.getElem?_map, e]; rfl))
    rw [show n + 1 + (k :: p).length = (n + 1 + p.length) + 1 from rfl, T__law_put, n_law_put, plF_i, len_t, bnd_pur, q_ii, bnd_pur, if_neg (by
      show ¬ (decide (((intsF (k :: p)).length : Int) = 0) = true)
      simp [intsF]
      omega)]
    rw [fv_app, fvs_map, list_t, mL_l, bnd_pur, show intsF (k :: p) = .int (k : Nat) :: intsF p from rfl, ix_t0, bnd_pur, add_ii, bnd_pur, ix, mV_v, bnd_pur, sl_t1, mV_v, bnd_pur, ← plF_i, ih, mV_v, bnd_pur, bnd_pur]
    rw [show (k : Int) + 1 = ((k + 1 : Nat) : Int) by omega, setI_nat (by simp; omega), bnd_pur, tup_bl, ret_pur, toF_rt, gcM_pur', put_app p u e, fv_app, fvs_map, List.set_cons_succ, List.map_set]
end Q86
namespace Q86
open PySem P
/-! parts put at places -/
theorem pt_i (i : Int) : oPt (.v (.int i)) = pur (some i) := rfl
def way : Tm → List Nat → List Tm
  | t, [] => [t]
  | t, k :: p => t :: (match t.args[k]? with | none => [] | some u => way u p)
theorem way_nil (t : Tm) : way t [] = [t] := by rw [way]
theorem way_cons {t u : Tm} {k : Nat} (p : List Nat) (h : t.args[k]? = some u) : way t (k :: p) = t :: way u p := by rw [way, h]
theorem way_last : ∀ (p : List Nat) (t o : Tm), t.at' p = some o → ∃ W, way t p = W ++ [o]
  | [], t, o, h => by
    rw [at_nil] at h; cases h
    exact ⟨[], way_nil _⟩
  | k :: p, t, o, h => by
    obtain ⟨u, e, h2⟩ := at_step h
    obtain ⟨W, e2⟩ := way_last p u o h2
    exact ⟨t :: W, by rw [way_cons p e, e2]; rfl⟩
abbrev F0 (n : Nat) : List FV → FV → M (Fl (List FV) (List FV)) := (fun way_3 index_2 => (bnd (bnd (mV (bnd (oU gNeg (.v (.int 1))) fun t_4 => (oB gIx (.bl way_3) t_4))) fun v_5 => ((T (n+2)).d_check_index v_5 index_2)) fun _ => (bnd (mV (bnd (bnd (oU gNeg (.v (.int 1))) fun t_7 => (oB gIx (.bl way_3) t_7)) fun t_8 => (bnd (oB gAdd (.v index_2) (.v (.int 1))) fun t_9 => (oB gIx t_8 t_9)))) fun v_10 => (bnd (oApp way_3 v_10) fun way_6 => (pur (.nx way_6))))))
theorem way_stp (n : Nat) : ∀ (p : List Nat) (pr : List Tm) (t o : Tm), t.at' p = some o → pr.length + p.length ≤ 1000 → Stp (F0 n) (intsF p) ((pr ++ [t]).map Tm.fv) ((pr ++ way t p).map Tm.fv)
  | [], pr, t, o, _, _ => by rw [way_nil]; rfl
  | k :: p, pr, t, o, h, hl => by
    obtain ⟨u, e, h2⟩ := at_step h
    rw [List.length_cons] at hl
    have ih := way_stp n p (pr ++ [t]) u o h2 (by rw [List.length_append, List.length_singleton]; omega)
    refine ⟨((pr ++ [t]) ++ [u]).map Tm.fv, ?_, ?_⟩
    · have last : oB gIx (.bl ((pr ++ [t]).map Tm.fv)) (.v (.int (-1))) = pur (.v t.fv) := by
        rw [List.map_append]
        exact ix_bl (atI_neg1 _)
      delta F0
      dsimp only
      rw [neg_i, bnd_pur, last, mV_v, bnd_pur, check_ok, if_pos (List.getElem?_eq_some_iff.mp e).1, bnd_pur, bnd_pur, add_ii, bnd_pur, fv_arg e, mV_v, bnd_pur, app_lt (by rw [List.length_map, List.length_append, List.length_singleton]; omega), bnd_pur, List.map_append (l₁ := pr ++ [t])]; rfl
    · rw [way_cons p e]
      rw [show pr ++ t :: way u p = pr ++ [t] ++ way u p by rw [List.append_assoc]; rfl]
      exact ih
theorem zip_way {t u : Tm} {k : Nat} (p : List Nat) (h : t.args[k]? = some u) : zipF (intsF (k :: p)) ((way t (k :: p)).map Tm.fv) = .tup [.int (k : Nat), t.fv] :: zipF (intsF p) ((way u p).map Tm.fv) := by
  rw [way_cons p h]; rfl
abbrev F1 : FV → FV → M (Fl FV FV) := (fun replaced_17 d => bindT (bTup (bCons some (bCons some bNil))) d (fun | (index_16, (holder_15, ())) => (bnd (mV (bnd (bnd (bnd (bnd (oB gAdd (.v index_16) (.v (.int 1))) fun t_18 => (oPt t_18)) fun o_19 => (oSl (.v holder_15) none o_19)) fun t_20 => (bnd (oTup [replaced_17]) fun t_21 => (oB gAdd t_20 t_21))) fun t_24 => (bnd (bnd (bnd (oB gAdd (.v index_16) (.v (.int 2))) fun t_22 => (oPt t_22)) fun o_23 => (oSl (.v holder_15) o_23 none)) fun t_25 => (oB gAdd t_24 t_25)))) fun replaced_26 => (pur (.nx replaced_26)))))
theorem set_fv {ts : List Tm} {k : Nat} (w : Tm) (h : k < ts.length) : (ts.map Tm.fv).take k ++ ([w.fv] ++ (ts.map Tm.fv).drop (k + 1)) = (ts.set k w).map Tm.fv := by
  rw [List.set_eq_take_append_cons_drop, if_pos h, List.map_append, List.map_cons, List.map_take, List.map_drop]; rfl
theorem rep_step {f : Str} {ts : List Tm} {k : Nat} {v : Tm} (w : Tm) (h : ts[k]? = some v) (hl : ts.length ≤ 1000000) : F1 w.fv (.tup [.int (k : Nat), (Tm.app f ts).fv]) = pur (.nx (Tm.app f (ts.set k w)).fv) := by
  have lk := (List.getElem?_eq_some_iff.mp h).1
  show bindT (bTup (bCons some (bCons some bNil))) (FV.tup [.int (k : Nat), (Tm.app f ts).fv]) _ = _
  rw [show bindT (bTup (bCons some (bCons some bNil))) (FV.tup [.int (k : Nat), (Tm.app f ts).fv]) = fun g : FV × FV × Unit → M (Fl FV FV) => g (.int (k : Nat), (Tm.app f ts).fv, ()) from rfl]
  dsimp only
  rw [add_ii, bnd_pur, pt_i, bnd_pur, fv_app, fvs_map, sl_t, bnd_pur, show (k : Int) + 1 = ((k + 1 : Nat) : Int) by omega, cutF_to, tup_1, bnd_pur, add_tt (by simp; omega), bnd_pur, add_ii, bnd_pur, pt_i, bnd_pur, sl_t, bnd_pur, show (k : Int) + 2 = ((k + 2 : Nat) : Int) by omega, cutF_from, add_tt (by simp; omega), mV_v, bnd_pur, fv_app, fvs_map]
  have e : (.str f :: ts.map Tm.fv).take (k + 1) ++ [w.fv] ++ (.str f :: ts.map Tm.fv).drop (k + 2) = FV.str f :: (ts.set k w).map Tm.fv := by
    rw [List.append_assoc]
    exact congrArg (FV.str f :: ·) (set_fv w lk)
  rw [e]
theorem nn_at {f : Str} {ts : List Tm} {k : Nat} {v : Tm} (h : ts[k]? = some v) : v.nn + ts.length ≤ (Tm.app f ts).nn := by
  have a := nns_sum ts
  have mem : ∀ us : List Tm, ∀ u, u ∈ us → u.nn ≤ nnL us := fun us => by
    induction us with
    | nil => intro u hu; cases hu
    | cons w us ih =>
      intro u hu
      unfold nnL at ih ⊢
      rw [List.map_cons, List.sum_cons]
      rcases List.mem_cons.mp hu with rfl | hu
      · omega
      · have := ih u hu; omega
  have b := mem ts v (List.mem_of_getElem? h)
  rw [nn_app]; omega
theorem rep_stp : ∀ (p : List Nat) (t o u : Tm), t.at' p = some o → t.nn ≤ 1000000 → Stp F1 (zipF (intsF p) ((way t p).map Tm.fv)).reverse u.fv (Tm.put p u t).fv
  | [], t, o, u, _, _ => by rw [put_nil]; rfl
  | k :: p, t, o, u, h, hn => by
    obtain ⟨f, ts, v, rfl, e, h2⟩ := at_some h
    have b := nn_at (f := f) e
    rw [zip_way p (t := .app f ts) e, List.reverse_cons, put_app p u e]
    refine Stp.app (rep_stp p v o u h2 (by omega)) ⟨_, rep_step (f := f) (Tm.put p u v) e (by omega), rfl⟩
theorem zip_tl (a b : List FV) : oZipTL (.tup a) (.fl b) = pur (.l (zipF a b)) := rfl
theorem replace_ok (n : Nat) {p : List Nat} {t o : Tm} (u : Tm) (h : t.at' p = some o) (hp : p.length ≤ 900) (hn : t.nn ≤ 1000000) : (T (n + 3)).d_replace_at t.fv (plF p) u.fv = pur (.v (Tm.put p u t).fv) := by
  have w := way_stp n p [] t o h (by rw [List.length_nil]; omega)
  rw [List.nil_append, List.nil_append] at w
  rw [T_replace_at, n_replace_at, lst_1, mL_l, bnd_pur, plF_i, oW_tup, bnd_pur, show ([t.fv] : List FV) = [t].map Tm.fv from rfl, w.all, seqN_nx, bnd_pur, zip_tl, mV_l, bnd_pur, oLs_fl, bnd_pur, bnd_pur, (rep_stp p t o u h hn).all, seqN_nx, ret_pur, toF_rt, gcM_pur']
theorem replace_bad (n : Nat) {p : List Nat} {t o : Tm} (u : Tm) (h : t.at' p = some o) (hp : p.length ≤ 900) {k : Nat} (hk : o.args.length ≤ k) (q : List Nat) : (T (n + 3)).d_replace_at t.fv (plF (p ++ k :: q)) u.fv = thr "BadPlace" := by
  have w := way_stp n p [] t o h (by rw [List.length_nil]; omega)
  rw [List.nil_append, List.nil_append] at w
  obtain ⟨W, eW⟩ := way_last p t o h
  have e : intsF (p ++ k :: q) = intsF p ++ .int (k : Nat) :: intsF q := by unfold intsF; rw [List.map_append, List.map_cons]
  rw [T_replace_at, n_replace_at, lst_1, mL_l, bnd_pur, plF_i, oW_tup, bnd_pur, show ([t.fv] : List FV) = [t].map Tm.fv from rfl, e, w.run, forN_thr (c := "BadPlace") (by
    have last : oB gIx (.bl ((way t p).map Tm.fv)) (.v (.int (-1))) = pur (.v o.fv) := by
      rw [eW, List.map_append]
      exact ix_bl (atI_neg1 _)
    rw [F0, neg_i, bnd_pur, last, mV_v, bnd_pur, check_ok, if_neg (by omega), thr_bnd]), thr_seq, thr_toF, thr_gc]
end Q86
namespace Q86
open PySem P
/-! places of terms -/
theorem pls_nn (t : Tm) : t.pls.length ≤ t.nn := by rw [pls_len]; exact pre_len _ t (Nat.le_refl _)
theorem add_flf {i j : List FV} (h : i.length + j.length ≤ 16000000) : oB gAdd (.v (.fl i)) (.l j) = pur (.l (i ++ j)) := add_f_l h
abbrev F2 (n : Nat) (t : Tm) : FV → FV → M (Fl FV FV) := (fun law_places_here_8 law_k_7 => (bnd (mV (bnd (bnd (bnd (mV (bnd (mV (oB gIx (.v t.fv) (.v law_k_7))) fun v_9 => ((T n).d_law_places v_9))) fun v_10 => (oW v_10)) (filL (item some (fun law_place_11 => (pur true)) (fun law_place_11 => (bnd (bnd (mV (oB gMns (.v law_k_7) (.v (.int 1)))) fun v_12 => (oTup [v_12])) fun t_13 => (oB gAdd t_13 (.v law_place_11))))))) fun t_15 => (oB gAdd (.v law_places_here_8) t_15))) fun law_places_here_16 => (pur (.nx law_places_here_16))))
abbrev F3 (n : Nat) : List FV → FV → M (Fl (List FV) (List FV)) := (fun places_7 d => bindT (bTup (bCons some (bCons some bNil))) d (fun | (index_6, (argument_5, ())) => (bnd (mV (bnd (bnd (mV ((T n).d_places_of argument_5)) fun v_9 => (oW v_9)) (filL (item some (fun place_10 => (pur true)) (fun place_10 => (bnd (oTup [index_6]) fun t_11 => (oB gAdd t_11 (.v place_10)))))))) fun v_14 => (bnd (oL v_14) fun es_13 => bnd (oExt places_7 es_13) fun places_8 => (pur (.nx places_8))))))
theorem at_mid {pr us : List Tm} {u : Tm} : (pr ++ u :: us)[pr.length]? = some u := by
  rw [List.getElem?_append_right (Nat.le_refl _), Nat.sub_self]; rfl
theorem places_stp {f : Str} {ts : List Tm} (n : Nat) (hI : ∀ u, u ∈ ts → (T n).d_law_places u.fv = pur (.v (.fl (u.pls.map plF)))) (hb : ∀ u, u ∈ ts → u.nn ≤ 100000 ∧ u.dep ≤ 900) : ∀ (us pr : List Tm) (acc : List (List Nat)), ts = pr ++ us → acc.length + (Tm.plss pr.length us).length ≤ 1000000 → Stp (F2 n (.app f ts)) (rngL ((pr.length : Nat) + 1) us.length) (.fl (acc.map plF)) (.fl ((acc ++ Tm.plss pr.length us).map plF))
  | [], pr, acc, _, _ => by rw [plss_nil, List.append_nil]; rfl
  | u :: us, pr, acc, e, hl => by
    rw [plss_cons, List.length_append, List.length_map] at hl
    have hu : u ∈ ts := by rw [e]; simp
    have ih := places_stp (f := f) n hI hb us (pr ++ [u]) (acc ++ u.pls.map (pr.length :: ·)) (by rw [e, List.append_assoc]; rfl) (by rw [List.length_append, List.length_map, List.length_append, List.length_singleton]; omega)
    rw [List.length_append, List.length_singleton, List.append_assoc, ← plss_cons] at ih
    refine ⟨.fl ((acc ++ u.pls.map (pr.length :: ·)).map plF), ?_, ?_⟩
    · delta F2
      have pb := pls_nn u
      have nb := (hb u hu).1
      have db := (hb u hu).2
      rw [fv_arg (t := .app f ts) (k := pr.length) (u := u) (by rw [show (Tm.app f ts).args = ts from rfl, e]; exact at_mid), mV_v, bnd_pur, hI u hu, mV_v, bnd_pur, oW_fl, bnd_pur]
      rw [filL_all (e := plF) (f := fun q => plF (pr.length :: q)) (fun q hq => by
        have lq : (intsF q).length ≤ 1000 := by
          obtain ⟨o, ho, _⟩ := pls_mem hq
          have := at_dep q u o ho
          unfold intsF
          rw [List.length_map]; omega
        rw [item_some (x := plF q) rfl, bnd_pur, if_pos rfl, sub_ii, mV_v, bnd_pur, tup_1, bnd_pur, plF_i q, add_tt (by rw [List.length_singleton]; omega), mV_v, bnd_pur, show ((pr.length : Nat) : Int) + 1 - 1 = ((pr.length : Nat) : Int) by omega]; rfl) (by omega), bnd_pur, add_flf (by rw [List.length_map, List.length_map]; omega), mV_l, bnd_pur, List.map_append, List.map_map]; rfl
    · rw [plss_cons]
      rw [plss_cons] at ih
      exact ih
theorem arg_b {f : Str} {ts : List Tm} (h1 : (Tm.app f ts).nn ≤ 100000) {D : Nat} (h2 : (Tm.app f ts).dep ≤ D + 1) : ∀ u, u ∈ ts → u.nn ≤ 100000 ∧ u.dep ≤ D := fun u hu => by
  obtain ⟨k, hk⟩ := List.mem_iff_getElem?.mp hu
  have := nn_at (f := f) hk
  have m := deps_mem hu
  rw [dep_app] at h2
  exact ⟨by omega, by omega⟩
theorem one_pl : (bnd (mV (oTup [])) fun v_1 => (oLst [v_1])) = pur (.l (([[]] : List (List Nat)).map plF)) := rfl
theorem places_ok : ∀ (d n : Nat) (t : Tm), t.dep ≤ d → d ≤ 900 → t.nn ≤ 100000 → (T (n + 1 + d)).d_law_places t.fv = pur (.v (.fl (t.pls.map plF)))
  | d, n, .var x, _, _, _ => by
    rw [show n + 1 + d = (n + d) + 1 by omega, T__law_places, n_law_places, one_pl, mV_l, bnd_pur, fv_var, is_ss, bnd_pur, oT_bl, mNot_pur, bnd_pur, if_neg (by decide), seqN_nx, ret_pur, toF_rt, gcM_pur', pls_var]
  | 0, n, .app f ts, h, _, _ => by rw [dep_app] at h; omega
  | d + 1, n, .app f ts, h, hd, hn => by
    have hb := arg_b hn h
    have st := places_stp (f := f) (n + 1 + d) (fun u hu => places_ok d n u (hb u hu).2 (by omega) (hb u hu).1) (fun u hu => ⟨(hb u hu).1, by have := (hb u hu).2; omega⟩) ts [] [[]] rfl (by
      have := pls_nn (.app f ts)
      rw [pls_app, List.length_cons] at this
      show 1 + _ ≤ _
      rw [show ([] : List Tm).length = 0 from rfl]; omega)
    have tn : ts.length ≤ 100000 := by
      have a := nns_sum ts
      rw [nn_app] at hn; omega
    have st : Stp (F2 (n + 1 + d) (.app f ts)) (rngL 1 ts.length) (.fl (([[]] : List (List Nat)).map plF)) (.fl ((Tm.app f ts).pls.map plF)) := by
      rw [pls_app]; exact st
    have e1 : oU (gIs "str") (.v (Tm.app f ts).fv) = pur (.v (.bl false)) := by rw [fv_app]; exact is_st _
    have e2 : oU gLen (.v (Tm.app f ts).fv) = pur (.v (.int ((ts.length + 1 : Nat) : Int))) := by rw [fv_app, len_t, List.length_cons, fvs_len]
    rw [show n + 1 + (d + 1) = (n + 1 + d) + 1 by omega, T__law_places, n_law_places, one_pl, mV_l, bnd_pur, e1, bnd_pur, oT_bl, mNot_pur, bnd_pur, if_pos (by rfl), e2, bnd_pur, r2_i (by decide) (by decide) (by omega) (by omega), bnd_pur, show (((ts.length + 1 : Nat) : Int) - 1).toNat = ts.length by omega, st.all, seqN_nx, seqN_nx, ret_pur, toF_rt, gcM_pur']
theorem plof_stp {ts : List Tm} (n : Nat) (hI : ∀ u, u ∈ ts → (T n).d_places_of u.fv = pur (.l (u.pls.map plF))) (hb : ∀ u, u ∈ ts → u.nn ≤ 100000 ∧ u.dep ≤ 900) : ∀ (us : List Tm) (k : Nat) (acc : List (List Nat)), (∀ u, u ∈ us → u ∈ ts) → acc.length + (Tm.plss k us).length ≤ 1000000 → Stp (F3 n) (enumF k (us.map Tm.fv)) (acc.map plF) ((acc ++ Tm.plss k us).map plF)
  | [], k, acc, _, _ => by rw [plss_nil, List.append_nil]; rfl
  | u :: us, k, acc, hs, hl => by
    rw [plss_cons, List.length_append, List.length_map] at hl
    have hu : u ∈ ts := hs u List.mem_cons_self
    have ih := plof_stp n hI hb us (k + 1) (acc ++ u.pls.map (k :: ·)) (fun v hv => hs v (List.mem_cons_of_mem _ hv)) (by rw [List.length_append, List.length_map]; omega)
    rw [List.append_assoc, ← plss_cons] at ih
    refine ⟨(acc ++ u.pls.map (k :: ·)).map plF, ?_, ih⟩
    delta F3
    have pb := pls_nn u
    have nb := (hb u hu).1
    have db := (hb u hu).2
    show bindT (bTup (bCons some (bCons some bNil))) (FV.tup [.int (k : Nat), u.fv]) _ = _
    rw [show bindT (bTup (bCons some (bCons some bNil))) (FV.tup [.int (k : Nat), u.fv]) = fun g : FV × FV × Unit → M (Fl (List FV) (List FV)) => g (.int (k : Nat), u.fv, ()) from rfl]
    dsimp only
    rw [hI u hu, mV_l, bnd_pur, oW_fl, bnd_pur]
    rw [filL_all (e := plF) (f := fun q => plF (k :: q)) (fun q hq => by
      have lq : (intsF q).length ≤ 1000 := by
        obtain ⟨o, ho, _⟩ := pls_mem hq
        have := at_dep q u o ho
        unfold intsF
        rw [List.length_map]; omega
      rw [item_some (x := plF q) rfl, bnd_pur, if_pos rfl, tup_1, bnd_pur, plF_i q, add_tt (by rw [List.length_singleton]; omega), mV_v, bnd_pur]; rfl) (by omega), mV_l, bnd_pur, oL_fl, bnd_pur, ext_le (by rw [List.length_map, List.length_map]; omega), bnd_pur, List.map_append, List.map_map]; rfl
theorem plof_ok : ∀ (d n : Nat) (t : Tm), t.dep ≤ d → d ≤ 900 → t.nn ≤ 100000 → (T (n + 2 + d)).d_places_of t.fv = pur (.l (t.pls.map plF))
  | d, n, t, h, hd, hn => by
    have key : (∀ u, u ∈ t.args → (T (n + 1 + d)).d_places_of u.fv = pur (.l (u.pls.map plF))) → (∀ u, u ∈ t.args → u.nn ≤ 100000 ∧ u.dep ≤ 900) → (T (n + 2 + d)).d_places_of t.fv = pur (.l (t.pls.map plF)) := fun hI hb => by
      have pe : t.pls = [[]] ++ Tm.plss 0 t.args := by
        cases t with
        | var x => rw [pls_var, show (Tm.var x).args = [] from rfl, plss_nil]; rfl
        | app f ts => rw [pls_app]; rfl
      have pl := pls_nn t
      rw [pe, List.length_append, List.length_singleton] at pl
      have st := plof_stp (n + 1 + d) hI hb t.args 0 [[]] (fun u hu => hu) (by rw [List.length_singleton]; omega)
      have ar := arguments_ok (n + d) t
      rw [show n + d + 1 = n + 1 + d by omega] at ar
      rw [show n + 2 + d = (n + 1 + d) + 1 by omega, T_places_of, n_places_of, one_pl, mL_l, bnd_pur, ar, mV_v, bnd_pur, oSq_tup, bnd_pur, bnd_pur, st.all, seqN_nx, toF_rt, gcM_pur', pe]
    cases t with
    | var x => exact key (fun u hu => by cases hu) (fun u hu => by cases hu)
    | app f ts =>
      cases d with
      | zero => rw [dep_app] at h; omega
      | succ d =>
        have hb := arg_b hn h
        exact key (fun u hu => by
          have := plof_ok d n u (hb u hu).2 (by omega) (hb u hu).1
          rw [show n + 1 + (d + 1) = n + 2 + d by omega]
          exact this) (fun u hu => ⟨(hb u hu).1, by have := (hb u hu).2; omega⟩)
end Q86
namespace Q86
open PySem P
/-! refused; listed -/
theorem isN_v {c d : Str} {b : Bool} (h : isSub eT c d = some b) : isN eT c d = pur (.v (.bl b)) := by
  unfold isN; rw [h]
theorem try_thr {α β : Type} {tab : ETab} {c cl : Str} {fo : α → M (Fl α β)} {fh : Str → M (Fl α β)} {a : Fl α β} (e : isSub tab c cl = some true) (h : fh c = pur a) : tryN tab cl (thr c) fo fh = pur a := by
  funext s
  show (if isSub tab c cl = some true then (match fh c s with | .ok a h2 => .ok a h2 | _ => .no) else .no : Rs (Fl α β)) = _
  rw [if_pos e, h]; rfl
theorem refused_ok (n : Nat) {p : List Nat} {t o : Tm} (h : t.at' p = some o) (hp : p.length ≤ 900) {k : Nat} (hk : o.args.length ≤ k) (q : List Nat) : (T (n + 4)).d_law_refused t.fv (plF (p ++ k :: q)) = pur (.v (.bl true)) := by
  have s1 : isSub eT "BadPlace" "WorldOrPaperError" = some true := by decide +kernel
  have i1 : isN eT "BadPlace" "BadPlace" = pur (.v (.bl true)) := isN_v (by decide +kernel)
  have r := replace_bad n (.app "a" []) h hp hk q
  have ea : (Tm.app "a" []).fv = .tup [.str "a"] := by rw [fv_app, fvs_nil]
  rw [ea] at r
  rw [T__law_refused, n_law_refused, part_bad n h hk q, thr_bnd, try_thr (a := .nx ()) s1 (by
    show (bnd (mNot (bnd (isN eT "BadPlace" "BadPlace") oT)) fun c_1 => if c_1 = true then (ret (pur (.v (.bl false)))) else (pur (.nx ()))) = _
    rw [i1, bnd_pur, oT_bl, mNot_pur, bnd_pur]; rfl), seqN_nx, tup_1, mV_v, bnd_pur, r, thr_bnd, try_thr (a := .rt (.v (.bl true))) s1 (by
    show (ret (isN eT "BadPlace" "BadPlace")) = _
    rw [i1, ret_pur]), seqN_rt, toF_rt, gcM_pur']
theorem size_ok (n : Nat) (t : Tm) (h : t.nn ≤ 100000) : (T (n + 3)).d_term_size t.fv = pur (.v (.int (t.pre.length : Nat))) := by
  rw [T_term_size, n_term_size, all_parts_ok n t (by omega), bnd_pur, len_l, List.length_map, ret_pur, toF_rt, gcM_pur']
theorem mx_tm {x : Tm} (acc : List Tm) (h : x.dep ≤ 60) : oC (gMx true) (.v x.fv) (.bl (acc.map Tm.fv)) = pur (!memD x acc) := by
  have := encT.mx (neg := true) (a := x) (xs := acc) (y := .bl (acc.map Tm.fv)) h (fun z => by cases x <;> simp) (fun _ => rfl)
  rw [if_pos rfl] at this
  exact this
theorem mx_st (x : Str) (acc : List Str) : oC (gMx true) (.v (.str x)) (.bl (acc.map .str)) = pur (!memD x acc) := by
  have := encS.mx (neg := true) (a := x) (xs := acc) (y := .bl (acc.map .str)) trivial (fun z q => by cases q) (fun _ => rfl)
  rw [if_pos rfl] at this
  exact this
theorem addD_len {α : Type} [DecidableEq α] (acc : List α) (x : α) : (addD acc x).length ≤ acc.length + 1 := by
  unfold addD
  split
  · omega
  · rw [List.length_append]; exact Nat.le_refl _
abbrev F5 : List FV → FV → M (Fl (List FV) (List FV)) := (fun parts_4 part_3 => (bnd (oC (gMx true) (.v part_3) (.bl parts_4)) fun c_5 => if c_5 = true then (bnd (oApp parts_4 part_3) fun parts_6 => (pur (.nx parts_6))) else (pur (.nx parts_4))))
theorem dd_stp : ∀ (ps acc : List Tm), (∀ x, x ∈ ps → x.dep ≤ 60) → acc.length + ps.length ≤ 1000000 → Stp F5 (ps.map Tm.fv) (acc.map Tm.fv) ((ps.foldl addD acc).map Tm.fv)
  | [], acc, _, _ => rfl
  | x :: ps, acc, h, l => by
    rw [List.length_cons] at l
    have al := addD_len acc x
    refine ⟨(addD acc x).map Tm.fv, ?_, dd_stp ps (addD acc x) (fun y hy => h y (List.mem_cons_of_mem _ hy)) (by omega)⟩
    show (bnd (oC (gMx true) (.v x.fv) (.bl (acc.map Tm.fv))) fun c_5 => if c_5 = true then (bnd (oApp (acc.map Tm.fv) x.fv) fun parts_6 => (pur (.nx parts_6))) else (pur (.nx (acc.map Tm.fv)))) = (pur (.nx ((addD acc x).map Tm.fv)) : M (Fl (List FV) (List FV)))
    rw [mx_tm acc (h x List.mem_cons_self), bnd_pur]
    unfold memD addD
    by_cases c : x ∈ acc
    · rw [decide_eq_true c, if_pos c, if_neg (by decide)]
    · rw [decide_eq_false c, if_neg c, if_pos (by rfl), app_lt (by rw [List.length_map]; omega), bnd_pur, List.map_append]; rfl
theorem parts_ok (n : Nat) (t : Tm) (h : t.nn ≤ 100000) (hd : ∀ x, x ∈ t.pre → x.dep ≤ 60) : (T (n + 3)).d_parts_of t.fv = pur (.l ((dd t.pre).map Tm.fv)) := by
  have pl := pre_len _ t (Nat.le_refl _)
  have st := dd_stp t.pre [] hd (by rw [List.length_nil]; omega)
  rw [T_parts_of, n_parts_of, lst_nil, mL_l, bnd_pur, all_parts_ok n t (by omega), mV_l, bnd_pur, oW_fl, bnd_pur, show ([] : List FV) = ([] : List Tm).map Tm.fv from rfl, st.all, seqN_nx, toF_rt, gcM_pur']; rfl
abbrev F4 : List FV × List FV → FV → M (Fl (List FV × List FV) (List FV × List FV)) := (fun | (law_found_8, law_names_9), law_part_here_7 => (bnd (oC (gMx true) (.v law_part_here_7) (.bl law_found_8)) fun c_10 => seqN (if c_10 = true then (bnd (oApp law_found_8 law_part_here_7) fun law_found_15 => (pur (.nx law_found_15))) else (pur (.nx law_found_8))) (fun law_found_11 => (bnd (mAnd (bnd (oU (gIs "str") (.v law_part_here_7)) fun t_12 => (oT t_12)) (oC (gMx true) (.v law_part_here_7) (.bl law_names_9))) fun c_13 => if c_13 = true then (bnd (oApp law_names_9 law_part_here_7) fun law_names_14 => (pur (.nx (law_found_11, law_names_14)))) else (pur (.nx (law_found_11, law_names_9)))))))
theorem list_stp : ∀ (ps acc : List Tm) (nm : List Str), (∀ x, x ∈ ps → x.dep ≤ 60) → acc.length + ps.length ≤ 1000000 → nm.length + ps.length ≤ 1000000 → Stp F4 (ps.map Tm.fv) (acc.map Tm.fv, nm.map .str) ((ps.foldl addD acc).map Tm.fv, ((ps.filterMap isV).foldl addD nm).map .str)
  | [], acc, nm, _, _, _ => rfl
  | x :: ps, acc, nm, h, l, l2 => by
    rw [List.length_cons] at l l2
    have al := addD_len acc x
    have F : (bnd (oC (gMx true) (.v x.fv) (.bl (acc.map Tm.fv))) fun c_10 => seqN (if c_10 = true then (bnd (oApp (acc.map Tm.fv) x.fv) fun law_found_15 => (pur (.nx law_found_15))) else (pur (.nx (acc.map Tm.fv)) : M (Fl (List FV) (List FV × List FV)))) (fun law_found_11 => (bnd (mAnd (bnd (oU (gIs "str") (.v x.fv)) fun t_12 => (oT t_12)) (oC (gMx true) (.v x.fv) (.bl (nm.map .str)))) fun c_13 => if c_13 = true then (bnd (oApp (nm.map .str) x.fv) fun law_names_14 => (pur (.nx (law_found_11, law_names_14)))) else (pur (.nx (law_found_11, nm.map .str)) : M (Fl (List FV × List FV) (List FV × List FV)))))) = (bnd (mAnd (bnd (oU (gIs "str") (.v x.fv)) fun t_12 => (oT t_12)) (oC (gMx true) (.v x.fv) (.bl (nm.map .str)))) fun c_13 => if c_13 = true then (bnd (oApp (nm.map .str) x.fv) fun law_names_14 => (pur (.nx ((addD acc x).map Tm.fv, law_names_14)))) else (pur (.nx ((addD acc x).map Tm.fv, nm.map .str)))) := by
      rw [mx_tm acc (h x List.mem_cons_self), bnd_pur]
      unfold memD addD
      by_cases c : x ∈ acc
      · rw [decide_eq_true c, if_pos c, if_neg (by decide), seqN_nx]
      · rw [decide_eq_false c, if_neg c, if_pos (by rfl), app_lt (by rw [List.length_map]; omega), bnd_pur, seqN_nx, List.map_append]; rfl
    cases x with
    | var y =>
      have nl := addD_len nm y
      refine ⟨((addD acc (.var y)).map Tm.fv, (addD nm y).map .str), F.trans ?_, list_stp ps (addD acc (.var y)) (addD nm y) (fun z hz => h z (List.mem_cons_of_mem _ hz)) (by omega) (by omega)⟩
      rw [fv_var, is_ss, bnd_pur, oT_bl, mAnd_t, mx_st, bnd_pur]
      unfold memD
      by_cases c : y ∈ nm
      · rw [decide_eq_true c, if_neg (by decide), show addD nm y = nm from if_pos c]
      · rw [decide_eq_false c, if_pos (by rfl), app_lt (by rw [List.length_map]; omega), bnd_pur, show addD nm y = nm ++ [y] from if_neg c, List.map_append]; rfl
    | app f ts =>
      refine ⟨((addD acc (.app f ts)).map Tm.fv, nm.map .str), F.trans ?_, list_stp ps (addD acc (.app f ts)) nm (fun z hz => h z (List.mem_cons_of_mem _ hz)) (by omega) (by omega)⟩
      rw [fv_app, is_st, bnd_pur, oT_bl, mAnd_f, bnd_pur, if_neg (by decide)]
theorem at_parts (t : Tm) : t.pls.map (fun p => ((t.at' p).getD t).fv) = t.pre.map Tm.fv := by
  have := congrArg (List.map fun o : Option Tm => (o.getD t).fv) (pls_at t)
  rw [List.map_map, List.map_map] at this
  exact this
theorem pre_dep {t x : Tm} (h : x ∈ t.pre) : x.dep ≤ t.dep := by
  have : some x ∈ t.pls.map t.at' := by rw [pls_at]; exact List.mem_map.mpr ⟨x, h, rfl⟩
  obtain ⟨p, _, e⟩ := List.mem_map.mp this
  have := at_dep p t x e
  omega
theorem tms_pure (ts : List Tm) : FV.pures (ts.map Tm.fv) = true := by rw [← fvs_map]; exact fvs_pure ts
theorem strs_pures (xs : List Str) : FV.pures (xs.map .str) = true := strs_pure xs
theorem listed_ok (n : Nat) (t : Tm) (h : t.nn ≤ 100000) (hd : t.dep ≤ 50) : (T (n + 60)).d_law_listed t.fv = pur (.v (.bl true)) := by
  have pl := pre_len _ t (Nat.le_refl _)
  have pn := pls_nn t
  have dp : ∀ x, x ∈ t.pre → x.dep ≤ 60 := fun x hx => by have := pre_dep hx; omega
  have e1 := places_ok 50 (n + 8) t hd (by decide) h
  rw [show n + 8 + 1 + 50 = n + 59 by omega] at e1
  have e2 := plof_ok 50 (n + 7) t hd (by decide) h
  rw [show n + 7 + 2 + 50 = n + 59 by omega] at e2
  have st := list_stp t.pre [] [] dp (by rw [List.length_nil]; omega) (by rw [List.length_nil]; omega)
  rw [T__law_listed, n_law_listed, e1, mV_v, bnd_pur, oW_fl, bnd_pur, filL_all (e := plF) (f := fun p => ((t.at' p).getD t).fv) (fun p hp => by
    obtain ⟨u, hu, _⟩ := pls_mem hp
    rw [item_some (x := plF p) rfl, bnd_pur, if_pos rfl, lpart_ok (n + 58) hu, mV_v, bnd_pur, hu]; rfl) (by omega), at_parts, mV_l, bnd_pur, lst_nil, mL_l, bnd_pur, bnd_pur, oW_fl, bnd_pur]
  rw [show (([] : List FV), ([] : List FV)) = (([] : List Tm).map Tm.fv, ([] : List Str).map FV.str) from rfl, st.all, seqN_nx]
  dsimp only
  rw [size_ok (n + 56) t h, mV_v, bnd_pur, is_ii, bnd_pur, oT_bl, mNot_pur, show (!true) = false from rfl, mOr_f, is_bi, bnd_pur, oT_bl, mOr_f, len_f, bnd_pur, q_ii, List.length_map, bnd_pur, if_neg (by simp)]
  rw [e2, bnd_pur, bnd_pur]
  have q1 : oC (gQ false) (.l (t.pls.map plF)) (.v (.fl (t.pls.map plF))) = pur true := q_data (neg := false) (fun h => dvl_l (pls_pure _)) (fun h => dvl_v (x := .fl (t.pls.map plF)) (pls_pure _)) (by
    show PyData.depthAll (FV.pys (t.pls.map plF)) + 1 ≤ 64
    have := pls_depth t.pls
    omega) (FV.py_plain (d := .fl (t.pls.map plF)))
  have q2 : oC (gQ false) (.l ((dd t.pre).map Tm.fv)) (.bl ((t.pre.foldl addD []).map Tm.fv)) = pur true := q_data (neg := false) (fun h => dvl_l (tms_pure _)) (fun h => dvl_bl (tms_pure _)) (by
    show PyData.depthAll (FV.pys ((dd t.pre).map Tm.fv)) + 1 ≤ 64
    have := encT.dps (dd t.pre) (fun x hx => dp x ((dd_sub t.pre).subset hx))
    omega) (FV.py_plain (d := .fl ((dd t.pre).map Tm.fv)))
  have q3 : oC (gQ false) (.l ((dd t.vs).map .str)) (.bl (((t.pre.filterMap isV).foldl addD []).map .str)) = pur true := q_data (neg := false) (fun h => dvl_l (strs_pures _)) (fun h => dvl_bl (strs_pures _)) (by
    show PyData.depthAll (FV.pys ((dd t.vs).map .str)) + 1 ≤ 64
    rw [strs_depth]; decide) (FV.py_plain (d := .fl ((dd t.vs).map .str)))
  rw [q1, mB_pur, bnd_pur, oAndV_t, parts_ok (n + 56) t h dp, bnd_pur, q2, mB_pur, bnd_pur, oAndV_t, unk_ok (n + 56) t h, bnd_pur, q3, mB_pur, ret_pur, toF_rt, gcM_pur']
end Q86
namespace Q86
open PySem P
/-! terms drawn -/
theorem take_dr (n k : Nat) (hk : 0 < k) : Dr ((T (n + 1)).d_law_take (.ref 0) (.int k)) (fun r => ∃ i : Nat, i < k ∧ r = .v (.int i)) 1 := Dr.take (by rw [T__law_take]; rfl) hk
def nb : Nat → Nat
  | 0 => 3
  | k + 1 => 3 * nb k + 5
def dr : Nat → Nat
  | 0 => 2
  | k + 1 => 3 * dr k + 2
theorem nb_ge : ∀ k, 3 ≤ nb k
  | 0 => Nat.le_refl _
  | k + 1 => by have := nb_ge k; show 3 ≤ 3 * nb k + 5; omega
theorem dr_ge : ∀ k, 2 ≤ dr k
  | 0 => Nat.le_refl _
  | k + 1 => by have := dr_ge k; show 2 ≤ 3 * dr k + 2; omega
/-- names are short -/
def Vn (t : Tm) : Prop := ∀ x, Tm.var x ∈ t.pre → x.length ≤ 100
theorem vn_app {f : Str} {ts : List Tm} (h : ∀ t, t ∈ ts → Vn t) : Vn (.app f ts) := fun x hx => by
  rw [pre_app, pres_flat] at hx
  rcases List.mem_cons.mp hx with e | hx
  · cases e
  · obtain ⟨t, ht, hx⟩ := List.mem_flatMap.mp hx
    exact h t ht x hx
def TQ (k : Nat) (r : RV) : Prop := ∃ t : Tm, r = .v t.fv ∧ t.dep ≤ k + 1 ∧ t.nn ≤ nb k ∧ Vn t
def lvs : List Tm := [.var "x", .var "y", .var "z9", .app "a" [], .app "b" [], .app "longname12" []]
theorem lvs_fv : lvs.map Tm.fv = [FV.str "x", .str "y", .str "z9", .tup [.str "a"], .tup [.str "b"], .tup [.str "longname12"]] := by
  unfold lvs
  simp only [List.map_cons, List.map_nil, fv_var, fv_app, fvs_nil]
theorem leaf_q {k j : Nat} (h : j < 6) : ∃ t : Tm, (lvs.map Tm.fv)[j]? = some t.fv ∧ t.dep ≤ k + 1 ∧ t.nn ≤ nb k ∧ Vn t := by
  have g := nb_ge k
  have v1 : ∀ y : Str, y.length ≤ 100 → Vn (.var y) := fun y hy x hx => by
    rw [pre_var] at hx
    cases List.mem_singleton.mp hx
    exact hy
  have v2 : ∀ f : Str, Vn (.app f []) := fun f => vn_app fun t ht => by cases ht
  have : ∀ t, t ∈ lvs → t.dep ≤ 1 ∧ t.nn ≤ 3 ∧ Vn t := fun t ht => by
    unfold lvs at ht
    simp only [List.mem_cons, List.not_mem_nil, or_false] at ht
    rcases ht with rfl | rfl | rfl | rfl | rfl | rfl
    · exact ⟨by simp, by simp [nn_var], v1 _ (by decide)⟩
    · exact ⟨by simp, by simp [nn_var], v1 _ (by decide)⟩
    · exact ⟨by simp, by simp [nn_var], v1 _ (by decide)⟩
    · exact ⟨by simp, by simp [nn_app, nns_nil], v2 _⟩
    · exact ⟨by simp, by simp [nn_app, nns_nil], v2 _⟩
    · exact ⟨by simp, by simp [nn_app, nns_nil], v2 _⟩
  obtain ⟨t, e⟩ : ∃ t, lvs[j]? = some t := ⟨lvs[j]'h, List.getElem?_eq_getElem h⟩
  have := this t (List.mem_of_getElem? e)
  exact ⟨t, by rw [List.getElem?_map, e]; rfl, by omega, by omega, this.2.2⟩
theorem mV_tm {m : M RV} {Q : Tm → Prop} {c : Nat} (h : Dr m (fun r => ∃ t : Tm, r = .v t.fv ∧ Q t) c) : Dr (mV m) (fun v => ∃ t : Tm, v = t.fv ∧ Q t) c :=
  h.mV fun r ⟨t, e, q⟩ => by
    subst e
    cases t with
    | var x => exact ⟨_, by rw [fv_var]; rfl, .var x, (fv_var x).symm, q⟩
    | app f ts => exact ⟨_, by rw [fv_app]; rfl, .app f ts, (fv_app f ts).symm, q⟩
theorem leaf_dr (n k : Nat) : Dr (up (bnd (mV (bnd (mV (oTup [(.str "a")])) fun v_3 => (bnd (mV (oTup [(.str "b")])) fun v_4 => (bnd (mV (oTup [(.str "longname12")])) fun v_5 => (oLst [(.str "x"), (.str "y"), (.str "z9"), v_3, v_4, v_5]))))) fun law_leaves_6 => (ret (bnd ((T (n + 1)).d_law_take (.ref 0) (.int 6)) fun t_7 => (oB gIx (.v law_leaves_6) t_7)))) : M (Fl Unit Empty)) (RtQ (TQ k)) 1 := by
  rw [show (bnd (mV (oTup [(.str "a")])) fun v_3 => (bnd (mV (oTup [(.str "b")])) fun v_4 => (bnd (mV (oTup [(.str "longname12")])) fun v_5 => (oLst [(.str "x"), (.str "y"), (.str "z9"), v_3, v_4, v_5])))) = pur (.l (lvs.map Tm.fv)) from by rw [lvs_fv]; rfl, mV_l, bnd_pur, ret_bnd, up_bnd]
  refine Dr.bnd (take_dr n 6 (by decide)) (d := 0) (fun a ⟨j, hj, e⟩ => ?_) (Nat.le_refl _)
  subst e
  obtain ⟨t, e, h1, h2⟩ := leaf_q (k := k) hj
  rw [ix_f (atI_nat e), ret_pur, up_rt]
  exact Dr.pur ⟨t, rfl, h1, h2.1, h2.2⟩
theorem term_dr : ∀ (k n : Nat), Dr ((T (n + 2 + k)).d_law_term (.ref 0) (.int (k : Nat))) (TQ k) (dr k) := fun k => by
  have go : ∀ k, (∀ j, j + 1 = k → ∀ n, Dr ((T (n + 2 + j)).d_law_term (.ref 0) (.int (j : Nat))) (TQ j) (dr j)) → ∀ n, Dr ((T (n + 2 + k)).d_law_term (.ref 0) (.int (k : Nat))) (TQ k) (dr k) := fun k I n => by
    have g2 := dr_ge k
    rw [show n + 2 + k = (n + 1 + k) + 1 by omega, T__law_term]
    refine Dr.fn ?_
    unfold n_law_term
    rw [show n + 1 + k = n + k + 1 by omega]
    refine Dr.bnd ((take_dr (n + k) 8 (by decide)).mV (Z := fun v => ∃ i : Nat, i < 8 ∧ v = .int (i : Nat)) fun r ⟨i, hi, e⟩ => ⟨.int i, by rw [e]; rfl, i, hi, rfl⟩) (d := dr k - 1) (fun v ⟨i, hi, ev⟩ => ?_) (by omega)
    subst ev
    rw [q_ii, lt_ii, mOr_pp, bnd_pur]
    by_cases c : ((if false = true then !decide ((k : Int) = 0) else decide ((k : Int) = 0)) || decide ((i : Int) < 3)) = true
    · rw [if_pos c]
      exact (leaf_dr (n + k) k).up (by omega)
    · rw [if_neg c]
      cases k with
      | zero => exact absurd (by rfl) c
      | succ k =>
        have sub : Dr (mV ((T (n + (k + 1) + 1)).d_law_term (.ref 0) (.int (k : Nat)))) (fun v => ∃ t : Tm, v = t.fv ∧ (t.dep ≤ k + 1 ∧ t.nn ≤ nb k ∧ Vn t)) (dr k) := by
          have := I k rfl n
          rw [show n + 2 + k = n + (k + 1) + 1 by omega] at this
          exact mV_tm this
        have en : nb (k + 1) = 3 * nb k + 5 := rfl
        have ed : dr (k + 1) = 3 * dr k + 2 := rfl
        have es : ((k + 1 : Nat) : Int) - 1 = ((k : Nat) : Int) := by omega
        simp only [lt_ii, bnd_pur, sub_ii, mV_v, es]
        by_cases c5 : ((i : Int) < 5)
        · rw [decide_eq_true c5, if_pos rfl, ret_bnd]
          refine Dr.bnd sub (d := 0) (fun v ⟨t, e, h1, h2, w1⟩ => ?_) (by omega)
          subst e
          rw [tup_2, ret_pur]
          refine Dr.pur ⟨.app "f" [t], by rw [fv_app, fvs_cons, fvs_nil], ?_, ?_, vn_app (by simpa using w1)⟩
          · rw [dep_app, deps_cons, deps_nil]; omega
          · rw [nn_app, nns_cons, nns_nil]; omega
        rw [decide_eq_false c5, if_neg Bool.false_ne_true]
        by_cases c7 : ((i : Int) < 7)
        · rw [decide_eq_true c7, if_pos rfl, ret_bnd]
          refine Dr.bnd sub (d := dr k) (fun v ⟨t, e, h1, h2, w1⟩ => ?_) (by omega)
          subst e
          rw [ret_bnd]
          refine Dr.bnd sub (d := 0) (fun v ⟨t2, e, h3, h4, w2⟩ => ?_) (by omega)
          subst e
          rw [tup_3, ret_pur]
          refine Dr.pur ⟨.app "g" [t, t2], by rw [fv_app, fvs_cons, fvs_cons, fvs_nil], ?_, ?_, vn_app (by simp only [List.mem_cons, List.not_mem_nil, or_false, forall_eq_or_imp, forall_eq]; exact ⟨w1, w2⟩)⟩
          · rw [dep_app, deps_cons, deps_cons, deps_nil]; omega
          · rw [nn_app, nns_cons, nns_cons, nns_nil]; omega
        · rw [decide_eq_false c7, if_neg Bool.false_ne_true, ret_bnd]
          refine Dr.bnd sub (d := dr k + dr k) (fun v ⟨t, e, h1, h2, w1⟩ => ?_) (by omega)
          subst e
          rw [ret_bnd]
          refine Dr.bnd sub (d := dr k) (fun v ⟨t2, e, h3, h4, w2⟩ => ?_) (by omega)
          subst e
          rw [ret_bnd]
          refine Dr.bnd sub (d := 0) (fun v ⟨t3, e, h5, h6, w3⟩ => ?_) (by omega)
          subst e
          rw [tup_le (by simp), ret_pur]
          refine Dr.pur ⟨.app "h2" [t, t2, t3], by rw [fv_app, fvs_cons, fvs_cons, fvs_cons, fvs_nil], ?_, ?_, vn_app (by simp only [List.mem_cons, List.not_mem_nil, or_false, forall_eq_or_imp, forall_eq]; exact ⟨w1, w2, w3⟩)⟩
          · rw [dep_app, deps_cons, deps_cons, deps_cons, deps_nil]; omega
          · rw [nn_app, nns_cons, nns_cons, nns_cons, nns_nil]; omega
  induction k with
  | zero => exact go 0 (fun j e => by omega)
  | succ k ih => exact go (k + 1) (fun j e => by
      have : j = k := by omega
      subst this
      exact ih)
end Q86
namespace Q86
open PySem P
/-! the law behind its start -/
theorem snoc_pl (p : List Nat) (k : Nat) : FV.tup (intsF p ++ [FV.int (k : Nat)]) = plF (p ++ [k]) := by
  rw [plF_i]; unfold intsF; rw [List.map_append]; rfl
theorem law_body (n : Nat) (hn : 100 ≤ n) (v : FV) : ∃ R : FV → M (Fl Unit Empty), n_law (T n) v = bnd (mT ((T n).d_law_start v)) R ∧ Dr (R (.ref 0)) (RtQ fun r => r = .v (.bl true)) 1000000 := by
  refine ⟨_, rfl, ?_⟩
  obtain ⟨n, rfl⟩ : ∃ k, n = k + 100 := ⟨n - 100, by omega⟩
  refine Dr.bnd (mV_tm (Q := fun t => t.dep ≤ 5 ∧ t.nn ≤ nb 4 ∧ Vn t) ((term_dr 4 (n + 94)).mono (Nat.le_refl _) fun r h => h)) (d := 900000) (fun v ⟨t, ev, td, tn, tv⟩ => ?_) (by decide)
  subst ev
  refine Dr.bnd (mV_tm (Q := fun t => t.dep ≤ 3 ∧ t.nn ≤ nb 2 ∧ Vn t) ((term_dr 2 (n + 96)).mono (Nat.le_refl _) fun r h => h)) (d := 890000) (fun v ⟨u, ev, ud, un, uv⟩ => ?_) (by decide)
  subst ev
  have b4 : nb 4 = 443 := by decide
  have b2 : nb 2 = 47 := by decide
  have pn := pls_nn t
  have e1 := places_ok 50 (n + 49) t (by omega) (by decide) (by omega)
  rw [show n + 49 + 1 + 50 = n + 100 by omega] at e1
  have pos : 0 < t.pls.length := by
    cases t with
    | var x => rw [pls_var]; decide
    | app f ts => rw [pls_app]; simp
  rw [e1, mV_v, bnd_pur, len_f, mV_v, bnd_pur, List.length_map, mV_bnd, bnd_bnd]
  refine Dr.bnd (take_dr (n + 99) t.pls.length pos) (d := 880000) (fun a ⟨j, hj, e⟩ => ?_) (by omega)
  subst e
  obtain ⟨p, ep⟩ : ∃ p, t.pls[j]? = some p := ⟨_, List.getElem?_eq_getElem hj⟩
  have hp := List.mem_of_getElem? ep
  obtain ⟨o, ho, om⟩ := pls_mem hp
  have od := at_dep p t o ho
  have rd : (Tm.put p u t).dep ≤ 8 := by have := put_dep p t o u ho; omega
  have rn : (Tm.put p u t).nn ≤ 1000 := by have := put_nn p t o u ho; omega
  rw [ix_f (atI_nat (d := plF p) (by rw [List.getElem?_map, ep]; rfl)), mV_v, bnd_pur, oW_fl, bnd_pur]
  refine Dr.eqsL (a := ()) (forN_all (t.pls.map plF) fun d hd => ?_) ?_
  · obtain ⟨q, hq, rfl⟩ := List.mem_map.mp hd
    obtain ⟨w, hw, wm⟩ := pls_mem hq
    have wd := pre_dep wm
    rw [part_ok (n + 97) hw, bnd_pur, lpart_ok (n + 99) hw, bnd_pur, same_q true (fv_pure w) (by rw [fv_depth]; omega), bnd_pur, if_neg (by decide)]
  have pt := put_ok p (n + 99 - p.length) t o u ho
  rw [show n + 99 - p.length + 1 + p.length = n + 100 by omega] at pt
  have mvt : ∀ x : Tm, mV (pur (.v x.fv)) = pur x.fv := fun x => by
    cases x with
    | var y => rw [fv_var]; rfl
    | app f ts => rw [fv_app]; rfl
  have sq : ∀ (x : Tm), x.dep ≤ 60 → oC (gQ true) (.v x.fv) (.v x.fv) = pur false := fun x h => same_q true (fv_pure x) (by rw [fv_depth]; omega)
  rw [pt, mvt, bnd_pur, replace_ok (n + 97) u ho (by omega) (by omega), mvt, bnd_pur, sq _ (by omega), mOr_f, part_ok (n + 97) (put_at' p t o u ho), bnd_pur, sq u (by omega), bnd_pur, if_neg (by decide), lpart_ok (n + 99) ho, mvt, bnd_pur, replace_ok (n + 97) o (put_at' p t o u ho) (by omega) (by omega), put_put p t o u ho, bnd_pur, sq t (by omega), bnd_pur, if_neg (by decide)]
  have lp : (intsF p).length ≤ 1000 := by unfold intsF; rw [List.length_map]; omega
  have REST : ∀ k : Nat, o.args.length ≤ k → Dr (bnd (mOr (mNot (bnd ((T (n + 100)).d_law_refused t.fv (plF (p ++ [k]))) fun t_26 => (oT t_26))) (mNot (bnd (bnd (mV (bnd (oTup [(.int 0)]) fun t_27 => (oB gAdd (.v (plF (p ++ [k]))) t_27))) fun v_28 => ((T (n + 100)).d_law_refused t.fv v_28)) fun t_29 => (oT t_29)))) fun c_30 => if c_30 = true then ret (pur (.v (.bl false))) else (ret (bnd ((T (n + 100)).d_law_listed t.fv) fun t_32 => (oAndV t_32 (bnd ((T (n + 100)).d_law_listed u.fv) fun t_31 => (oAndV t_31 ((T (n + 100)).d_law_listed (Tm.put p u t).fv)))))) : M (Fl Unit Empty)) (RtQ fun r => r = .v (.bl true)) 0 := fun k hk => by
    have z : oB gAdd (.v (plF (p ++ [k]))) (.v (.tup [.int 0])) = pur (.v (plF (p ++ k :: [0]))) := by
      have e : intsF (p ++ [k]) ++ [FV.int 0] = intsF (p ++ k :: [0]) := by unfold intsF; simp
      rw [plF_i, add_tt (by
        have : (intsF (p ++ [k])).length = p.length + 1 := by unfold intsF; simp
        rw [this, List.length_singleton]; omega), e]; rfl
    rw [refused_ok (n + 96) ho (by omega) hk [], bnd_pur, oT_bl, mNot_pur, show (!true) = false from rfl, mOr_f, tup_1, bnd_pur, z, mV_v, bnd_pur, refused_ok (n + 96) ho (by omega) hk [0], bnd_pur, oT_bl, mNot_pur, bnd_pur, if_neg (by decide), listed_ok (n + 40) t (by omega) (by omega), bnd_pur, oAndV_t, listed_ok (n + 40) u (by omega) (by omega), bnd_pur, oAndV_t, listed_ok (n + 40) _ (by omega) (by omega), ret_pur]
    exact Dr.pur rfl
  cases o with
  | var x =>
    have xl := tv x om
    rw [fv_var, len_s (by omega), bnd_pur, sub_ii, mV_v, bnd_pur, tup_1, bnd_pur, plF_i p, add_tt (by rw [List.length_singleton]; omega), mV_v, bnd_pur, is_ss, bnd_pur, oT_bl, bnd_pur, if_pos rfl]
    refine Dr.seqL (Z := fun v => ∃ k : Nat, v = plF (p ++ [k])) (c := 1) (d := 0) ?_ (fun v ⟨k, ev⟩ => ?_) (by decide)
    · rw [mV_bnd, bnd_bnd, bnd_bnd]
      refine Dr.bnd ((take_dr (n + 99) 3 (by decide)).mV (Z := fun v => ∃ i : Nat, i < 3 ∧ v = .int (i : Nat)) fun r ⟨i, hi, e⟩ => ⟨.int i, by rw [e]; rfl, i, hi, rfl⟩) (d := 0) (fun v ⟨i, hi, ev⟩ => ?_) (by decide)
      subst ev
      rw [tup_1, bnd_pur, add_tt (by rw [List.length_singleton]; omega), mV_v, bnd_pur, snoc_pl]
      exact Dr.pur ⟨_, rfl, i, rfl⟩
    · subst ev
      exact REST k (Nat.zero_le _)
  | app f ts =>
    rw [fv_app, len_t, bnd_pur, sub_ii, mV_v, bnd_pur, tup_1, bnd_pur, plF_i p, add_tt (by rw [List.length_singleton]; omega), mV_v, bnd_pur, is_st, bnd_pur, oT_bl, bnd_pur, if_neg (by decide), seqN_nx, show (((FV.str f :: Tm.fvs ts).length : Nat) : Int) - 1 = ((ts.length : Nat) : Int) by rw [List.length_cons, fvs_len]; omega, snoc_pl]
    exact (REST ts.length (Nat.le_refl _)).up (by decide)
end Q86
namespace Q86
open PySem P
theorem start_eq (n : Nat) (v : FV) : (T (n + 1)).d_law_start v = gcM (toF (startN v)) := by rw [T__law_start]; rfl
theorem law_gen (n : Nat) (hn : 197 ≤ n) (ns : List Int) (hns : ns.length ≤ 63) : (T (n + 1 + 1)).d_law (.sl (ns.map .int)) [] = .ok (.v (.bl true)) [] := by
  obtain ⟨row, sd, hs⟩ := start_ok ns hns
  have e0 : (T (n + 1)).d_law_start (.sl (ns.map .int)) = pur (.l [.fl (row.map .int), .int 0, .int sd]) := by rw [start_eq, hs]
  have e1 : mT ((T (n + 1)).d_law_start (.sl (ns.map .int))) [] = .ok (.ref 0) [(DS.mk row 0 sd).ob] := by rw [e0]; rfl
  obtain ⟨R, h1, h2⟩ := law_body (n + 1) (by omega) (.sl (ns.map .int))
  obtain ⟨r1, s1, a1, a2, a3⟩ := h2.toF ⟨row, 0, sd⟩ [] rfl (by show 0 + 1000000 ≤ 2 ^ 60; decide)
  subst a3
  rw [T_law, h1]
  have e2 : toF (bnd (mT ((T (n + 1)).d_law_start (.sl (ns.map .int)))) R) [] = .ok (.v (.bl true)) [s1.ob] := by
    rw [toF_bnd, bnd_ok e1]
    exact a1
  exact gc_val e2 rfl rfl fun i z => nomatch z
theorem f1_at (f : FV → M RV) (x : FV) (h : FH) : P.f1 f [x] h = f x h := rfl
theorem law_at (m : Nat) (hm : m = 198 + 1 + 1) (ns : List Int) (hns : ns.length ≤ 63) : ∃ h', P.f1 (T m).d_law [.sl (ns.map .int)] [] = .ok (.v (.bl true)) h' := by
  subst hm
  refine ⟨[], ?_⟩
  rw [f1_at]
  exact law_gen 198 (by decide) ns hns
theorem law_true (ns : List Int) (hns : ns.length ≤ 63) : ∃ h', P.f1 (T 200).d_law [.sl (ns.map .int)] [] = .ok (.v (.bl true)) h' := law_at 200 (by decide) ns hns
end Q86
namespace Q86
open PySem PySem.Spec PyProof.Rows L2 G P
theorem all_mk {l : PySem.W.OpenLaw} {w : World} {K : PySem.W.Frag} {h : Heap} {mg : Str → Option Value} {fa : Addr} (X : K.In h) (GN : h.Ns mainGlobals mg) (hfa : mg "law" = some (.ref fa))
    {f1 f2 f3 f4 f5 f6 f7 f8 f9 f10 f11 f12 f13 f14 f15 f16 f17 f18 : Addr} {od1 an1 od2 an2 od3 an3 od4 an4 od5 an5 od6 an6 od7 an7 od8 an8 od9 an9 od10 an10 od11 an11 od12 an12 od13 an13 od14 an14 od15 an15 od16 an16 od17 an17 od18 an18 : Option Addr} {sl1 sl2 sl3 sl4 sl5 sl6 sl7 sl8 sl9 sl10 sl11 sl12 sl13 sl14 sl15 sl16 sl17 sl18 : Array (Option Value)} {oc1 kV1 dc1 pm1 cd1 ct1 oc2 kV2 dc2 pm2 cd2 ct2 oc3 kV3 dc3 pm3 cd3 ct3 oc4 kV4 dc4 pm4 cd4 ct4 oc5 kV5 dc5 pm5 cd5 ct5 oc6 kV6 dc6 pm6 cd6 ct6 oc7 kV7 dc7 pm7 cd7 ct7 oc8 kV8 dc8 pm8 cd8 ct8 oc9 kV9 dc9 pm9 cd9 ct9 oc10 kV10 dc10 pm10 cd10 ct10 oc11 kV11 dc11 pm11 cd11 ct11 oc12 kV12 dc12 pm12 cd12 ct12 oc13 kV13 dc13 pm13 cd13 ct13 oc14 kV14 dc14 pm14 cd14 ct14 oc15 kV15 dc15 pm15 cd15 ct15 oc16 kV16 dc16 pm16 cd16 ct16 oc17 kV17 dc17 pm17 cd17 ct17 oc18 kV18 dc18 pm18 cd18 ct18 : Value}
    (a1 : PySem.W.nsIn K mainGlobals "places_of" = some (some (.ref f1))) (l1 : K.lookup f1 = some ⟨oc1, od1, .func (PySem.W.fnOf "places_of" "places_of" (defArgs s_places_of) (defBody s_places_of) (defScope s_places_of) .none kV1 dc1 pm1 an1 cd1 ct1), sl1⟩) (c1 : PySem.W.codeIn K cd1 "places_of" = true) (k1 : PySem.W.keepIn K (.ref f1) = true)
    (a2 : PySem.W.nsIn K mainGlobals "part_at" = some (some (.ref f2))) (l2 : K.lookup f2 = some ⟨oc2, od2, .func (PySem.W.fnOf "part_at" "part_at" (defArgs s_part_at) (defBody s_part_at) (defScope s_part_at) .none kV2 dc2 pm2 an2 cd2 ct2), sl2⟩) (c2 : PySem.W.codeIn K cd2 "part_at" = true) (k2 : PySem.W.keepIn K (.ref f2) = true)
    (a3 : PySem.W.nsIn K mainGlobals "replace_at" = some (some (.ref f3))) (l3 : K.lookup f3 = some ⟨oc3, od3, .func (PySem.W.fnOf "replace_at" "replace_at" (defArgs s_replace_at) (defBody s_replace_at) (defScope s_replace_at) .none kV3 dc3 pm3 an3 cd3 ct3), sl3⟩) (c3 : PySem.W.codeIn K cd3 "replace_at" = true) (k3 : PySem.W.keepIn K (.ref f3) = true)
    (a4 : PySem.W.nsIn K mainGlobals "parts_of" = some (some (.ref f4))) (l4 : K.lookup f4 = some ⟨oc4, od4, .func (PySem.W.fnOf "parts_of" "parts_of" (defArgs s_parts_of) (defBody s_parts_of) (defScope s_parts_of) .none kV4 dc4 pm4 an4 cd4 ct4), sl4⟩) (c4 : PySem.W.codeIn K cd4 "parts_of" = true) (k4 : PySem.W.keepIn K (.ref f4) = true)
    (a5 : PySem.W.nsIn K mainGlobals "unknowns_of" = some (some (.ref f5))) (l5 : K.lookup f5 = some ⟨oc5, od5, .func (PySem.W.fnOf "unknowns_of" "unknowns_of" (defArgs s_unknowns_of) (defBody s_unknowns_of) (defScope s_unknowns_of) .none kV5 dc5 pm5 an5 cd5 ct5), sl5⟩) (c5 : PySem.W.codeIn K cd5 "unknowns_of" = true) (k5 : PySem.W.keepIn K (.ref f5) = true)
    (a6 : PySem.W.nsIn K mainGlobals "term_size" = some (some (.ref f6))) (l6 : K.lookup f6 = some ⟨oc6, od6, .func (PySem.W.fnOf "term_size" "term_size" (defArgs s_term_size) (defBody s_term_size) (defScope s_term_size) .none kV6 dc6 pm6 an6 cd6 ct6), sl6⟩) (c6 : PySem.W.codeIn K cd6 "term_size" = true) (k6 : PySem.W.keepIn K (.ref f6) = true)
    (a7 : PySem.W.nsIn K mainGlobals "_arguments" = some (some (.ref f7))) (l7 : K.lookup f7 = some ⟨oc7, od7, .func (PySem.W.fnOf "_arguments" "_arguments" (defArgs s__arguments) (defBody s__arguments) (defScope s__arguments) .none kV7 dc7 pm7 an7 cd7 ct7), sl7⟩) (c7 : PySem.W.codeIn K cd7 "_arguments" = true) (k7 : PySem.W.keepIn K (.ref f7) = true)
    (a8 : PySem.W.nsIn K mainGlobals "_check_index" = some (some (.ref f8))) (l8 : K.lookup f8 = some ⟨oc8, od8, .func (PySem.W.fnOf "_check_index" "_check_index" (defArgs s__check_index) (defBody s__check_index) (defScope s__check_index) .none kV8 dc8 pm8 an8 cd8 ct8), sl8⟩) (c8 : PySem.W.codeIn K cd8 "_check_index" = true) (k8 : PySem.W.keepIn K (.ref f8) = true)
    (a9 : PySem.W.nsIn K mainGlobals "_all_parts" = some (some (.ref f9))) (l9 : K.lookup f9 = some ⟨oc9, od9, .func (PySem.W.fnOf "_all_parts" "_all_parts" (defArgs s__all_parts) (defBody s__all_parts) (defScope s__all_parts) .none kV9 dc9 pm9 an9 cd9 ct9), sl9⟩) (c9 : PySem.W.codeIn K cd9 "_all_parts" = true) (k9 : PySem.W.keepIn K (.ref f9) = true)
    (a10 : PySem.W.nsIn K mainGlobals "_law_start" = some (some (.ref f10))) (l10 : K.lookup f10 = some ⟨oc10, od10, .func (PySem.W.fnOf "_law_start" "_law_start" (defArgs s__law_start) (defBody s__law_start) (defScope s__law_start) .none kV10 dc10 pm10 an10 cd10 ct10), sl10⟩) (c10 : PySem.W.codeIn K cd10 "_law_start" = true) (k10 : PySem.W.keepIn K (.ref f10) = true)
    (a11 : PySem.W.nsIn K mainGlobals "_law_take" = some (some (.ref f11))) (l11 : K.lookup f11 = some ⟨oc11, od11, .func (PySem.W.fnOf "_law_take" "_law_take" (defArgs s__law_take) (defBody s__law_take) (defScope s__law_take) .none kV11 dc11 pm11 an11 cd11 ct11), sl11⟩) (c11 : PySem.W.codeIn K cd11 "_law_take" = true) (k11 : PySem.W.keepIn K (.ref f11) = true)
    (a12 : PySem.W.nsIn K mainGlobals "_law_term" = some (some (.ref f12))) (l12 : K.lookup f12 = some ⟨oc12, od12, .func (PySem.W.fnOf "_law_term" "_law_term" (defArgs s__law_term) (defBody s__law_term) (defScope s__law_term) .none kV12 dc12 pm12 an12 cd12 ct12), sl12⟩) (c12 : PySem.W.codeIn K cd12 "_law_term" = true) (k12 : PySem.W.keepIn K (.ref f12) = true)
    (a13 : PySem.W.nsIn K mainGlobals "_law_places" = some (some (.ref f13))) (l13 : K.lookup f13 = some ⟨oc13, od13, .func (PySem.W.fnOf "_law_places" "_law_places" (defArgs s__law_places) (defBody s__law_places) (defScope s__law_places) .none kV13 dc13 pm13 an13 cd13 ct13), sl13⟩) (c13 : PySem.W.codeIn K cd13 "_law_places" = true) (k13 : PySem.W.keepIn K (.ref f13) = true)
    (a14 : PySem.W.nsIn K mainGlobals "_law_part" = some (some (.ref f14))) (l14 : K.lookup f14 = some ⟨oc14, od14, .func (PySem.W.fnOf "_law_part" "_law_part" (defArgs s__law_part) (defBody s__law_part) (defScope s__law_part) .none kV14 dc14 pm14 an14 cd14 ct14), sl14⟩) (c14 : PySem.W.codeIn K cd14 "_law_part" = true) (k14 : PySem.W.keepIn K (.ref f14) = true)
    (a15 : PySem.W.nsIn K mainGlobals "_law_put" = some (some (.ref f15))) (l15 : K.lookup f15 = some ⟨oc15, od15, .func (PySem.W.fnOf "_law_put" "_law_put" (defArgs s__law_put) (defBody s__law_put) (defScope s__law_put) .none kV15 dc15 pm15 an15 cd15 ct15), sl15⟩) (c15 : PySem.W.codeIn K cd15 "_law_put" = true) (k15 : PySem.W.keepIn K (.ref f15) = true)
    (a16 : PySem.W.nsIn K mainGlobals "_law_refused" = some (some (.ref f16))) (l16 : K.lookup f16 = some ⟨oc16, od16, .func (PySem.W.fnOf "_law_refused" "_law_refused" (defArgs s__law_refused) (defBody s__law_refused) (defScope s__law_refused) .none kV16 dc16 pm16 an16 cd16 ct16), sl16⟩) (c16 : PySem.W.codeIn K cd16 "_law_refused" = true) (k16 : PySem.W.keepIn K (.ref f16) = true)
    (a17 : PySem.W.nsIn K mainGlobals "_law_listed" = some (some (.ref f17))) (l17 : K.lookup f17 = some ⟨oc17, od17, .func (PySem.W.fnOf "_law_listed" "_law_listed" (defArgs s__law_listed) (defBody s__law_listed) (defScope s__law_listed) .none kV17 dc17 pm17 an17 cd17 ct17), sl17⟩) (c17 : PySem.W.codeIn K cd17 "_law_listed" = true) (k17 : PySem.W.keepIn K (.ref f17) = true)
    (a18 : PySem.W.nsIn K mainGlobals "law" = some (some (.ref f18))) (l18 : K.lookup f18 = some ⟨oc18, od18, .func (PySem.W.fnOf "law" "law" (defArgs s_law) (defBody s_law) (defScope s_law) .none kV18 dc18 pm18 an18 cd18 ct18), sl18⟩) (c18 : PySem.W.codeIn K cd18 "law" = true) (k18 : PySem.W.keepIn K (.ref f18) = true)
    (z1 : PySem.W.nsIn K mainGlobals "enumerate" = some none)
    (z2 : PySem.W.nsIn K mainGlobals "reversed" = some none)
    (z3 : PySem.W.nsIn K mainGlobals "list" = some none)
    (z4 : PySem.W.nsIn K mainGlobals "zip" = some none)
    (z5 : PySem.W.nsIn K mainGlobals "isinstance" = some none)
    (z6 : PySem.W.nsIn K mainGlobals "str" = some none)
    (z7 : PySem.W.nsIn K mainGlobals "len" = some none)
    (z8 : PySem.W.nsIn K mainGlobals "range" = some none)
    (z9 : PySem.W.nsIn K mainGlobals "abs" = some none)
    (z10 : PySem.W.nsIn K mainGlobals "int" = some none)
    (z11 : PySem.W.nsIn K mainGlobals "tuple" = some none)
    (z12 : PySem.W.nsIn K mainGlobals "bool" = some none)
    {X1 : Addr} (xa1 : PySem.W.nsIn K mainGlobals "BadPlace" = some (some (.ref X1))) (xq1 : PySem.W.excIn K X1 veMro "ValueError.__new__" = true) (xk1 : PySem.W.keepIn K (.ref X1) = true) (xb1 : PySem.W.subIn K (.ref X1) (.type "BaseException") = some true) (xt1 : PySem.W.typeIn K (.ref X1) = some (.type "type")) (xi1 : PySem.W.hasDictIn K X1 = true)
    {X2 : Addr} (xa2 : PySem.W.nsIn K mainGlobals "WorldOrPaperError" = some (some (.ref X2))) (xq2 : PySem.W.excIn K X2 veMro "ValueError.__new__" = true) (xk2 : PySem.W.keepIn K (.ref X2) = true) (xb2 : PySem.W.subIn K (.ref X2) (.type "BaseException") = some true) (xt2 : PySem.W.typeIn K (.ref X2) = some (.type "type")) (xi2 : PySem.W.hasDictIn K X2 = true)
    (xe6 : PySem.W.specialIn K (.builtin "object.__class__") "__get__" = some (some (.builtin "getset_descriptor.__get__"))) (xe7 : PySem.W.takesIn K (.builtin "object.__class__") = some true)
    (xf1 : PySem.W.findIn K (.ref X1) "__getattribute__" = some (some (.builtin "BaseException.__getattribute__"))) (xg1 : PySem.W.findIn K (.ref X1) "__getattr__" = some none) (xh1 : PySem.W.findIn K (.ref X1) "__class__" = some (some (.builtin "object.__class__"))) (xm1 : PySem.W.mroIn K X1 (.type "object") = some true)
    (xs1_1 : PySem.W.subIn K (.ref X1) (.ref X1) = some true) (xc1_1 : PySem.W.kitOne K (.ref X1) (.ref X1) = some true)
    (xs1_2 : PySem.W.subIn K (.ref X1) (.ref X2) = some true) (xc1_2 : PySem.W.kitOne K (.ref X1) (.ref X2) = some true)
    : ∃ fd : FuncData, (∀ (s : Shared) (v : Value), BindsTo s fd ⟨[v], []⟩ [("_law_script", v)]) ∧ ∀ base : Heap, K.In base → base.Ns mainGlobals mg → FnOk l.prog w K mg base (L2.CX l.prog w) 200 fa fd ["_law_script"] (spP ⟨K, mg⟩ (_root_.P.f1 (T 200).d_law)) := by
  have e := hfa.symm.trans (PySem.W.mg_of X GN a18)
  cases e
  have F1 := fun_mk (st := s_places_of) l1 c1 k1
  have b1 := F1.binds (ps := ["term"]) fun _ _ _ _ _ _ us hl => match us, hl with | [_], _ => rfl
  have m1 := PySem.W.mg_of X GN a1
  have F2 := fun_mk (st := s_part_at) l2 c2 k2
  have b2 := F2.binds (ps := ["term", "place"]) fun _ _ _ _ _ _ us hl => match us, hl with | [_, _], _ => rfl
  have m2 := PySem.W.mg_of X GN a2
  have F3 := fun_mk (st := s_replace_at) l3 c3 k3
  have b3 := F3.binds (ps := ["term", "place", "part"]) fun _ _ _ _ _ _ us hl => match us, hl with | [_, _, _], _ => rfl
  have m3 := PySem.W.mg_of X GN a3
  have F4 := fun_mk (st := s_parts_of) l4 c4 k4
  have b4 := F4.binds (ps := ["term"]) fun _ _ _ _ _ _ us hl => match us, hl with | [_], _ => rfl
  have m4 := PySem.W.mg_of X GN a4
  have F5 := fun_mk (st := s_unknowns_of) l5 c5 k5
  have b5 := F5.binds (ps := ["term"]) fun _ _ _ _ _ _ us hl => match us, hl with | [_], _ => rfl
  have m5 := PySem.W.mg_of X GN a5
  have F6 := fun_mk (st := s_term_size) l6 c6 k6
  have b6 := F6.binds (ps := ["term"]) fun _ _ _ _ _ _ us hl => match us, hl with | [_], _ => rfl
  have m6 := PySem.W.mg_of X GN a6
  have F7 := fun_mk (st := s__arguments) l7 c7 k7
  have b7 := F7.binds (ps := ["term"]) fun _ _ _ _ _ _ us hl => match us, hl with | [_], _ => rfl
  have m7 := PySem.W.mg_of X GN a7
  have F8 := fun_mk (st := s__check_index) l8 c8 k8
  have b8 := F8.binds (ps := ["part", "index"]) fun _ _ _ _ _ _ us hl => match us, hl with | [_, _], _ => rfl
  have m8 := PySem.W.mg_of X GN a8
  have F9 := fun_mk (st := s__all_parts) l9 c9 k9
  have b9 := F9.binds (ps := ["term"]) fun _ _ _ _ _ _ us hl => match us, hl with | [_], _ => rfl
  have m9 := PySem.W.mg_of X GN a9
  have F10 := fun_mk (st := s__law_start) l10 c10 k10
  have b10 := F10.binds (ps := ["_law_script"]) fun _ _ _ _ _ _ us hl => match us, hl with | [_], _ => rfl
  have m10 := PySem.W.mg_of X GN a10
  have F11 := fun_mk (st := s__law_take) l11 c11 k11
  have b11 := F11.binds (ps := ["_law_state", "_law_many"]) fun _ _ _ _ _ _ us hl => match us, hl with | [_, _], _ => rfl
  have m11 := PySem.W.mg_of X GN a11
  have F12 := fun_mk (st := s__law_term) l12 c12 k12
  have b12 := F12.binds (ps := ["_law_state", "_law_depth"]) fun _ _ _ _ _ _ us hl => match us, hl with | [_, _], _ => rfl
  have m12 := PySem.W.mg_of X GN a12
  have F13 := fun_mk (st := s__law_places) l13 c13 k13
  have b13 := F13.binds (ps := ["_law_term_here"]) fun _ _ _ _ _ _ us hl => match us, hl with | [_], _ => rfl
  have m13 := PySem.W.mg_of X GN a13
  have F14 := fun_mk (st := s__law_part) l14 c14 k14
  have b14 := F14.binds (ps := ["_law_term_here", "_law_place"]) fun _ _ _ _ _ _ us hl => match us, hl with | [_, _], _ => rfl
  have m14 := PySem.W.mg_of X GN a14
  have F15 := fun_mk (st := s__law_put) l15 c15 k15
  have b15 := F15.binds (ps := ["_law_term_here", "_law_place", "_law_part_here"]) fun _ _ _ _ _ _ us hl => match us, hl with | [_, _, _], _ => rfl
  have m15 := PySem.W.mg_of X GN a15
  have F16 := fun_mk (st := s__law_refused) l16 c16 k16
  have b16 := F16.binds (ps := ["_law_term_here", "_law_place"]) fun _ _ _ _ _ _ us hl => match us, hl with | [_, _], _ => rfl
  have m16 := PySem.W.mg_of X GN a16
  have F17 := fun_mk (st := s__law_listed) l17 c17 k17
  have b17 := F17.binds (ps := ["_law_term_here"]) fun _ _ _ _ _ _ us hl => match us, hl with | [_], _ => rfl
  have m17 := PySem.W.mg_of X GN a17
  have F18 := fun_mk (st := s_law) l18 c18 k18
  have b18 := F18.binds (ps := ["_law_script"]) fun _ _ _ _ _ _ us hl => match us, hl with | [_], _ => rfl
  have m18 := PySem.W.mg_of X GN a18
  have n1 := PySem.W.mg_none_of X GN z1
  have n2 := PySem.W.mg_none_of X GN z2
  have n3 := PySem.W.mg_none_of X GN z3
  have n4 := PySem.W.mg_none_of X GN z4
  have n5 := PySem.W.mg_none_of X GN z5
  have n6 := PySem.W.mg_none_of X GN z6
  have n7 := PySem.W.mg_none_of X GN z7
  have n8 := PySem.W.mg_none_of X GN z8
  have n9 := PySem.W.mg_none_of X GN z9
  have n10 := PySem.W.mg_none_of X GN z10
  have n11 := PySem.W.mg_none_of X GN z11
  have n12 := PySem.W.mg_none_of X GN z12
  have XF1 : ∃ C, ExcF K mg "BadPlace" C := ⟨X1, xq1, PySem.W.mg_of X GN xa1, xk1, xb1, xt1, xi1⟩
  have XF2 : ∃ C, ExcF K mg "WorldOrPaperError" C := ⟨X2, xq2, PySem.W.mg_of X GN xa2, xk2, xb2, xt2, xi2⟩
  have XE1 : ExcC K X1 := ⟨xf1, xg1, xb1, xi1, xh1, xe6, xe7, xm1⟩
  have XT : ET K mg eT := ⟨by
    intro t ht
    simp only [eT, List.mem_cons, List.not_mem_nil, or_false] at ht
    rcases ht with rfl | rfl
    · exact ⟨X1, .ref X1, PySem.W.mg_of X GN xa1, XE1, .inl (PySem.W.mg_of X GN xa1), xs1_1, xc1_1, .inl ⟨_, rfl⟩⟩
    · exact ⟨X1, .ref X2, PySem.W.mg_of X GN xa1, XE1, .inl (PySem.W.mg_of X GN xa2), xs1_2, xc1_2, .inl ⟨_, rfl⟩⟩⟩
  refine ⟨PySem.W.fnOf "law" "law" (defArgs s_law) (defBody s_law) (defScope s_law) .none kV18 dc18 pm18 an18 cd18 ct18, fun s v => .of_eq rfl, fun base _ _ => ?_⟩
  have all : ∀ n, HasF l.prog w K mg base n "places_of" ["term"] (_root_.P.f1 (T n).d_places_of) ∧ HasF l.prog w K mg base n "part_at" ["term", "place"] (_root_.P.f2 (T n).d_part_at) ∧ HasF l.prog w K mg base n "replace_at" ["term", "place", "part"] (_root_.P.f3 (T n).d_replace_at) ∧ HasF l.prog w K mg base n "parts_of" ["term"] (_root_.P.f1 (T n).d_parts_of) ∧ HasF l.prog w K mg base n "unknowns_of" ["term"] (_root_.P.f1 (T n).d_unknowns_of) ∧ HasF l.prog w K mg base n "term_size" ["term"] (_root_.P.f1 (T n).d_term_size) ∧ HasF l.prog w K mg base n "_arguments" ["term"] (_root_.P.f1 (T n).d_arguments) ∧ HasF l.prog w K mg base n "_check_index" ["part", "index"] (_root_.P.f2 (T n).d_check_index) ∧ HasF l.prog w K mg base n "_all_parts" ["term"] (_root_.P.f1 (T n).d_all_parts) ∧ HasF l.prog w K mg base n "_law_start" ["_law_script"] (_root_.P.f1 (T n).d_law_start) ∧ HasF l.prog w K mg base n "_law_take" ["_law_state", "_law_many"] (_root_.P.f2 (T n).d_law_take) ∧ HasF l.prog w K mg base n "_law_term" ["_law_state", "_law_depth"] (_root_.P.f2 (T n).d_law_term) ∧ HasF l.prog w K mg base n "_law_places" ["_law_term_here"] (_root_.P.f1 (T n).d_law_places) ∧ HasF l.prog w K mg base n "_law_part" ["_law_term_here", "_law_place"] (_root_.P.f2 (T n).d_law_part) ∧ HasF l.prog w K mg base n "_law_put" ["_law_term_here", "_law_place", "_law_part_here"] (_root_.P.f3 (T n).d_law_put) ∧ HasF l.prog w K mg base n "_law_refused" ["_law_term_here", "_law_place"] (_root_.P.f2 (T n).d_law_refused) ∧ HasF l.prog w K mg base n "_law_listed" ["_law_term_here"] (_root_.P.f1 (T n).d_law_listed) ∧ HasF l.prog w K mg base n "law" ["_law_script"] (_root_.P.f1 (T n).d_law) := fun n => by
    induction n with
    | zero => exact ⟨hasNo_of fNo_f1 m1 F1.kp b1, hasNo_of fNo_f2 m2 F2.kp b2, hasNo_of fNo_f3 m3 F3.kp b3, hasNo_of fNo_f1 m4 F4.kp b4, hasNo_of fNo_f1 m5 F5.kp b5, hasNo_of fNo_f1 m6 F6.kp b6, hasNo_of fNo_f1 m7 F7.kp b7, hasNo_of fNo_f2 m8 F8.kp b8, hasNo_of fNo_f1 m9 F9.kp b9, hasNo_of fNo_f1 m10 F10.kp b10, hasNo_of fNo_f2 m11 F11.kp b11, hasNo_of fNo_f2 m12 F12.kp b12, hasNo_of fNo_f1 m13 F13.kp b13, hasNo_of fNo_f2 m14 F14.kp b14, hasNo_of fNo_f3 m15 F15.kp b15, hasNo_of fNo_f2 m16 F16.kp b16, hasNo_of fNo_f1 m17 F17.kp b17, hasNo_of fNo_f1 m18 F18.kp b18⟩
    | succ n ih =>
      obtain ⟨h1, h2, h3, h4, h5, h6, h7, h8, h9, h10, h11, h12, h13, h14, h15, h16, h17, h18⟩ := ih
      exact ⟨mk_hasF F1 ((ok_places_of (t := T n) F1 h7 h1 n1).imp fun _ _ _ _ => gc_f1) m1 b1,
        mk_hasF F2 ((ok_part_at (t := T n) F2 h8).imp fun _ _ _ _ => gc_f2) m2 b2,
        mk_hasF F3 ((ok_replace_at (t := T n) F3 h8 n2 n3 n4).imp fun _ _ _ _ => gc_f3) m3 b3,
        mk_hasF F4 ((ok_parts_of (t := T n) F4 h9).imp fun _ _ _ _ => gc_f1) m4 b4,
        mk_hasF F5 ((ok_unknowns_of (t := T n) F5 h9 n5 n6 n3).imp fun _ _ _ _ => gc_f1) m5 b5,
        mk_hasF F6 ((ok_term_size (t := T n) F6 h9 n7).imp fun _ _ _ _ => gc_f1) m6 b6,
        mk_hasF F7 ((ok__arguments (t := T n) F7 n5 n6).imp fun _ _ _ _ => gc_f1) m7 b7,
        mk_hasF F8 ((ok__check_index (t := T n) F8 h7 n7 XF1).imp fun _ _ _ _ => gc_f2) m8 b8,
        mk_hasF F9 ((ok__all_parts (t := T n) F9 h7 n7).imp fun _ _ _ _ => gc_f1) m9 b9,
        mk_hasF F10 ((ok__law_start (t := T n) F10 n8 n7 n9 n10).imp fun _ _ _ _ => gc_f1) m10 b10,
        mk_hasF F11 ((ok__law_take (t := T n) F11 n7 n10).imp fun _ _ _ _ => gc_f2) m11 b11,
        mk_hasF F12 ((ok__law_term (t := T n) F12 h11 h12).imp fun _ _ _ _ => gc_f2) m12 b12,
        mk_hasF F13 ((ok__law_places (t := T n) F13 h13 n5 n6 n8 n7).imp fun _ _ _ _ => gc_f1) m13 b13,
        mk_hasF F14 ((ok__law_part (t := T n) F14 ).imp fun _ _ _ _ => gc_f2) m14 b14,
        mk_hasF F15 ((ok__law_put (t := T n) F15 h15 n7 n3 n11).imp fun _ _ _ _ => gc_f3) m15 b15,
        mk_hasF F16 ((ok__law_refused (t := T n) F16 h2 h3 n5 XF2 XF1 XT).imp fun _ _ _ _ => gc_f2) m16 b16,
        mk_hasF F17 ((ok__law_listed (t := T n) F17 h13 h14 h6 h1 h4 h5 n5 n6 n10 n12 n7).imp fun _ _ _ _ => gc_f1) m17 b17,
        mk_hasF F18 ((ok_law (t := T n) F18 h10 h12 h13 h11 h2 h14 h15 h3 h16 h17 n7 n5 n6).imp fun _ _ _ _ => gc_f1) m18 b18⟩
  obtain ⟨h1, h2, h3, h4, h5, h6, h7, h8, h9, h10, h11, h12, h13, h14, h15, h16, h17, h18⟩ := all 199
  exact (ok_law (t := T 199) F18 h10 h12 h13 h11 h2 h14 h15 h3 h16 h17 n7 n5 n6).imp fun _ _ _ _ => gc_f1
end Q86
open PySem PySem.W PyProof.Rows
set_option maxRecDepth 100000 in
set_option maxHeartbeats 0 in
theorem PySem.Challenge.cw_worldorpaper_k86_parts_and_places_holds : PySem.Challenge.rw_worldorpaper_k86_parts_and_places.Holds := by
  w_on; o_law; k_head; (case hw => w_witness2)
  k_fill
  refine P.walkP (l := PySem.Challenge.rw_worldorpaper_k86_parts_and_places) (k := 200) (f := P.f1 (Q86.T 200).d_law) rfl rfl (fun w h Y => PySem.W.kIn_of Y) ⟨rfl, by decide, by decide⟩ ?F Q86.law_true
  case F =>
    intro w mg fa h KX G hmg
    refine' Q86.all_mk KX G hmg ?a1 ?l1 ?c1 ?k1 ?a2 ?l2 ?c2 ?k2 ?a3 ?l3 ?c3 ?k3 ?a4 ?l4 ?c4 ?k4 ?a5 ?l5 ?c5 ?k5 ?a6 ?l6 ?c6 ?k6 ?a7 ?l7 ?c7 ?k7 ?a8 ?l8 ?c8 ?k8 ?a9 ?l9 ?c9 ?k9 ?a10 ?l10 ?c10 ?k10 ?a11 ?l11 ?c11 ?k11 ?a12 ?l12 ?c12 ?k12 ?a13 ?l13 ?c13 ?k13 ?a14 ?l14 ?c14 ?k14 ?a15 ?l15 ?c15 ?k15 ?a16 ?l16 ?c16 ?k16 ?a17 ?l17 ?c17 ?k17 ?a18 ?l18 ?c18 ?k18 ?z1 ?z2 ?z3 ?z4 ?z5 ?z6 ?z7 ?z8 ?z9 ?z10 ?z11 ?z12 ?xa1 ?xq1 ?xk1 ?xb1 ?xt1 ?xi1 ?xa2 ?xq2 ?xk2 ?xb2 ?xt2 ?xi2 ?xe6 ?xe7 ?xf1 ?xg1 ?xh1 ?xm1 ?xs1_1 ?xc1_1 ?xs1_2 ?xc1_2
    (case a1 => first | k_is | rfl)
    (case l1 => first | k_is | rfl)
    (case c1 => first | k_is | rfl)
    (case k1 => first | k_is | rfl)
    (case a2 => first | k_is | rfl)
    (case l2 => first | k_is | rfl)
    (case c2 => first | k_is | rfl)
    (case k2 => first | k_is | rfl)
    (case a3 => first | k_is | rfl)
    (case l3 => first | k_is | rfl)
    (case c3 => first | k_is | rfl)
    (case k3 => first | k_is | rfl)
    (case a4 => first | k_is | rfl)
    (case l4 => first | k_is | rfl)
    (case c4 => first | k_is | rfl)
    (case k4 => first | k_is | rfl)
    (case a5 => first | k_is | rfl)
    (case l5 => first | k_is | rfl)
    (case c5 => first | k_is | rfl)
    (case k5 => first | k_is | rfl)
    (case a6 => first | k_is | rfl)
    (case l6 => first | k_is | rfl)
    (case c6 => first | k_is | rfl)
    (case k6 => first | k_is | rfl)
    (case a7 => first | k_is | rfl)
    (case l7 => first | k_is | rfl)
    (case c7 => first | k_is | rfl)
    (case k7 => first | k_is | rfl)
    (case a8 => first | k_is | rfl)
    (case l8 => first | k_is | rfl)
    (case c8 => first | k_is | rfl)
    (case k8 => first | k_is | rfl)
    (case a9 => first | k_is | rfl)
    (case l9 => first | k_is | rfl)
    (case c9 => first | k_is | rfl)
    (case k9 => first | k_is | rfl)
    (case a10 => first | k_is | rfl)
    (case l10 => first | k_is | rfl)
    (case c10 => first | k_is | rfl)
    (case k10 => first | k_is | rfl)
    (case a11 => first | k_is | rfl)
    (case l11 => first | k_is | rfl)
    (case c11 => first | k_is | rfl)
    (case k11 => first | k_is | rfl)
    (case a12 => first | k_is | rfl)
    (case l12 => first | k_is | rfl)
    (case c12 => first | k_is | rfl)
    (case k12 => first | k_is | rfl)
    (case a13 => first | k_is | rfl)
    (case l13 => first | k_is | rfl)
    (case c13 => first | k_is | rfl)
    (case k13 => first | k_is | rfl)
    (case a14 => first | k_is | rfl)
    (case l14 => first | k_is | rfl)
    (case c14 => first | k_is | rfl)
    (case k14 => first | k_is | rfl)
    (case a15 => first | k_is | rfl)
    (case l15 => first | k_is | rfl)
    (case c15 => first | k_is | rfl)
    (case k15 => first | k_is | rfl)
    (case a16 => first | k_is | rfl)
    (case l16 => first | k_is | rfl)
    (case c16 => first | k_is | rfl)
    (case k16 => first | k_is | rfl)
    (case a17 => first | k_is | rfl)
    (case l17 => first | k_is | rfl)
    (case c17 => first | k_is | rfl)
    (case k17 => first | k_is | rfl)
    (case a18 => first | k_is | rfl)
    (case l18 => first | k_is | rfl)
    (case c18 => first | k_is | rfl)
    (case k18 => first | k_is | rfl)
    (case z1 => first | k_is | rfl)
    (case z2 => first | k_is | rfl)
    (case z3 => first | k_is | rfl)
    (case z4 => first | k_is | rfl)
    (case z5 => first | k_is | rfl)
    (case z6 => first | k_is | rfl)
    (case z7 => first | k_is | rfl)
    (case z8 => first | k_is | rfl)
    (case z9 => first | k_is | rfl)
    (case z10 => first | k_is | rfl)
    (case z11 => first | k_is | rfl)
    (case z12 => first | k_is | rfl)
    (case xa1 => first | k_is | rfl)
    (case xq1 => k_exc)
    (case xk1 => first | k_is | rfl)
    (case xb1 => first | k_is | rfl)
    (case xt1 => first | k_is | rfl)
    (case xi1 => first | k_is | rfl)
    (case xa2 => first | k_is | rfl)
    (case xq2 => k_exc)
    (case xk2 => first | k_is | rfl)
    (case xb2 => first | k_is | rfl)
    (case xt2 => first | k_is | rfl)
    (case xi2 => first | k_is | rfl)
    (case xe6 => first | k_is | rfl)
    (case xe7 => first | k_is | rfl)
    (case xf1 => first | k_is | rfl)
    (case xg1 => first | k_is | rfl)
    (case xh1 => first | k_is | rfl)
    (case xm1 => first | k_is | rfl)
    (case xs1_1 => first | k_is | rfl)
    (case xc1_1 => first | k_is | rfl)
    (case xs1_2 => first | k_is | rfl)
    (case xc1_2 => first | k_is | rfl)
