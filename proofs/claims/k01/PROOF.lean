import PyProof.Rows.All
import Wide.All
import OpenK.AllK
import Wide.FinOn
import HandS.ForMost
import HandS.Defaults
import HandS.Exc
import HandS.ExcOwn
import HandS.ExcInit
import HandS.ExcField
import HandS.TryMany
import HandS.TryOnly
import HandS.Star
import HandS.ClsMeth
import HandS.OwnEq
import HandS.IsInst
import HandS.NoneIn
import HandS.TupAny
import HandS.Deep
import HandS.WordsExc
import HandS.Codes
import HandS.IterVal
import HandS.IterNext
import HandS.HeadHook4
import HandS.Walk
import KE.DataFind
import KE.GoesMore
import KE.GoesEnum
import HandS.Property
import HandS.RevTup
import HandS.Lambda
import HandS.Iter
import HandS.Head0
import HandS.Head1
import HandS.Head2
import HandS.HeadEnd
import HandS.Rev
import HandS.Words
import HandS.Comp
import HandS.HeadWalk
import HandS.EndTab
import PySem.Challenge.RW_askedtrue_k01_whole_forebears_by_own_wal
set_option Elab.async false
set_option linter.all false
set_option maxRecDepth 100000
set_option maxHeartbeats 4000000
/-! Rules of my own over the layer: a def read off its class and called. -/
namespace Ax
open PySem PySem.Spec PyProof.Rows L2
/-- the def at g stands in the class at C under the name m, plainly read -/
structure ClsFn (K : PySem.W.Frag) (C : Addr) (m : Str) (g : Addr) : Prop where
  rd : ∃ mc, ClX.CRead K C mc ∧ ClX.CVal K C mc m (.ref g) (.ref g)
  kp : PySem.W.keepIn K (.ref g) = true
section
variable {X : Cx} {CX : CXT} {k : Nat} {C g : Addr} {sp : Sp} {E : XK} {o e : Expr} {es : List Expr} {m : Str} {pos apos : Pos} {ta : TE} {t : TA} {pl : Sem Bool}
/-- C.m(e, ..) -/
def tClsFn (C : Addr) (sp : Sp) (E : XK) (ta : TE) (t : TA) : TE := fun σ H Q => ta σ H fun x H1 => x = .ref C ∧ t σ H1 fun vs H2 => sp vs H2 Q E
theorem pe_clsfn (he : PE X o ta) (r : ClsFn X.K C m g) (F : FnR X.prog X.w X.K X.mg X.base CX k g sp) (hr : Room k X.A) (hx : Passes CX X E) (ha : PA X (e :: es) t)
    (hst : starEach (e :: es) X.env = (false, eval e X.env) :: starEach es X.env := by rfl) (hpl : (backTo pos (starEach es X.env)).any (·.1) = false := by rfl)
    (ht : eval (.Call (.Attribute o m apos) (e :: es) [] pos) X.env = (do
      let ov ← eval o X.env
      standAt apos.atName
      let (f, first) ← holding [ov] (getMethod ov m pl)
      callWith pos f first (backTo pos (starEach (e :: es) X.env)) (backToKw pos (keywordEach [] X.env))) := by rfl) :
    PE X (.Call (.Attribute o m apos) (e :: es) [] pos) (tClsFn C sp E ta t) := by
  obtain ⟨mc, rd, cv⟩ := r.rd
  constructor
  intro pins s σ H Q I h
  refine PySem.W.methodCall_KW (pl := pl) (thn (he.run pins s σ H _ I h) fun u s1 got => ?_) ht
  obtain ⟨x, H1, I1, rx, ex, q⟩ := got
  subst ex
  obtain rfl : u = Value.ref C := rx
  refine PySem.W.method_cls I1.kIn rd.ga (ClX.getcval_ok I1 rd cv fun s2 I2 => ?_)
  refine PySem.W.callWith_K (h₀ := X.base) I2.ok.mod.kin r.kp (thn (ha.run pos pins s2 σ H1 _ I2 q) fun us s3 more => ?_) hst hpl
  obtain ⟨vs, H2, I3, rv, q2⟩ := more
  exact ⟨I3.kIn, wpAny_call (run_fnR F hr hx I3 rv q2)⟩
end
end Ax
set_option maxHeartbeats 4000000
/-! == and != of instances by their class's own __eq__, whatever it answers. -/
namespace Ax
open PySem PySem.Spec PyProof.Rows L2
section
variable {X : Cx} {CX : CXT} {n : Nat} {C D f : Addr} {fd : FuncData} {ps : List Str} {sp : Sp} {E : XK} {pins : List (Addr × Obj)} {σ : L2.St} {H : Hp} {s : Shared} {Q : VK} {A : Around}
/-- a def called below the running body -/
theorem run_in {us : List Value} {vs : List V} (F : FnOk X.prog X.w X.K X.mg X.base CX n f fd ps sp) (hb : Binds X.K fd ps []) (hx : Passes CX X E) (sb : L2.Sub X n A)
    (I : Inv X pins σ H s) (r : Vals vs us) (h : sp vs H Q E) : wpAny (model X.prog X.w) A (call (.ref f) us) (EP X pins σ Q) X.xe s := by
  have e0 : Env0 X.prog X.w X.K X.mg X.base A X.stack s H := by
    obtain ⟨a1, a2, a3, a4, a5, a6, a7, a8⟩ := I.env0
    exact ⟨by rw [sb.fr]; exact a1, a2, a3, a4, a5, a6, a7, a8⟩
  have hl : us.length = ps.length := by rw [← r.length]; exact F.len _ _ _ _ h
  have bt : BindsTo s fd ⟨us, []⟩ (ps.zip us) := by
    have q := hb s us I.kIn (by rw [List.append_nil]; exact hl)
    rw [List.append_nil] at q
    exact q
  refine wpAny_call (codeAny_mono (F.run A X.stack s H ⟨us, []⟩ us vs Q E sb.room e0 bt r h) fun rr s' hq => ?_)
  cases rr with
  | error er => exact hx pins σ H s er s' I hq
  | ok fl =>
    cases fl with
    | ret u => exact I.after hq
    | next => exact hq.elim
    | brk => exact hq.elim
    | cont => exact hq.elim
/-- what the class must have -/
structure EqC (K : PySem.W.Frag) (C f : Addr) : Prop where
  eq : PySem.W.findIn K (.ref C) "__eq__" = some (some (.ref f))
  fn : PySem.W.isFn K (.ref f) = true
  ne : PySem.W.findIn K (.ref C) "__ne__" = some (some (.builtin "object.__ne__"))
  ob : PySem.W.subIn K (.ref C) (.type "object") = some true
/-- x == y by C's own __eq__, of which sp tells; y an instance of the class at D -/
def rOwnEq (K : PySem.W.Frag) (C : Addr) (sp : Sp) (E : XK) : R2 := fun x y H Q => ∃ (a b D dx dy : Addr) (fs gs : List (Str × V)), x = .ref a ∧ y = .ref b ∧ H a = some (.ins C dx fs) ∧ H b = some (.ins D dy gs) ∧ PySem.W.notFirst K C (.ref D) = true ∧
  sp [x, y] H (fun v H' => ∃ k, v = .bl k ∧ Q (.bl k) H') E
def rOwnNe (K : PySem.W.Frag) (C : Addr) (sp : Sp) (E : XK) : R2 := fun x y H Q => ∃ (a b D dx dy : Addr) (fs gs : List (Str × V)), x = .ref a ∧ y = .ref b ∧ H a = some (.ins C dx fs) ∧ H b = some (.ins D dy gs) ∧ PySem.W.notFirst K C (.ref D) = true ∧
  sp [x, y] H (fun v H' => ∃ k, v = .bl k ∧ Q (.bl (!k)) H') E
theorem op_ownEq (F : FnOk X.prog X.w X.K X.mg X.base CX n f fd ps sp) (hb : Binds X.K fd ps []) (hx : Passes CX X E) (hr : Room n X.A) (c : EqC X.K C f) : OpR X (compareOp .Eq) (rOwnEq X.K C sp E) := by
  intro pins s σ H x y v u Q I rx ry h
  obtain ⟨a, b, D, dx, dy, fs, gs, rfl, rfl, ha, hb', hn, hq⟩ := h
  obtain rfl : v = Value.ref a := rx
  obtain rfl : u = Value.ref b := ry
  obtain ⟨m1, J, _⟩ := ins_get I.hok ha
  obtain ⟨m2, J', _⟩ := ins_get I.hok hb'
  obtain ⟨od, J, _⟩ := J.look
  obtain ⟨od', J', _⟩ := J'.look
  obtain ⟨m, hF⟩ := I.fr
  show wpAny _ _ (richCompare .Eq _ _) _ _ _
  refine PySem.W.cmp_K (op := .Eq) hr.units0 hF I.ok.mod.kin J J'.type hn c.eq c.fn ?_
  refine wpAny_mono (run_in (us := [.ref a, .ref b]) (vs := [V.ref a, V.ref b]) F hb hx ⟨hr, rfl⟩ I (.cons rfl (.cons rfl .nil)) hq) (fun w s' z => ?_) fun _ _ z => z
  obtain ⟨v, H', I', rv, k, ev, q⟩ := z
  subst ev
  obtain rfl : w = Value.bool k := rv
  exact ⟨.bl k, H', I', rfl, q⟩
theorem arg_ne (p q : Value) : argsOk "object.__ne__" ⟨[p, q], []⟩ := PySem.F.cmpArgs_ne p q
theorem op_ownNe (F : FnOk X.prog X.w X.K X.mg X.base CX n f fd ps sp) (hb : Binds X.K fd ps []) (hx : Passes CX X E) (hr : Room (n + 1) X.A) (c : EqC X.K C f) : OpR X (compareOp .NotEq) (rOwnNe X.K C sp E) := by
  intro pins s σ H x y v u Q I rx ry h
  obtain ⟨a, b, D, dx, dy, fs, gs, rfl, rfl, ha, hb', hn, hq⟩ := h
  obtain rfl : v = Value.ref a := rx
  obtain rfl : u = Value.ref b := ry
  obtain ⟨m1, J, _⟩ := ins_get I.hok ha
  obtain ⟨m2, J', _⟩ := ins_get I.hok hb'
  obtain ⟨od, J, _⟩ := J.look
  obtain ⟨od', J', _⟩ := J'.look
  have Xk := I.kIn
  -- the own __eq__, asked by object.__ne__
  have inner : wpAny (model X.prog X.w) X.A.in1 (callSpecialIfBound? (.ref a) "__eq__" [.ref b]) (fun r s' => ∃ k H', r = some (.bool k) ∧ Inv X pins σ H' s' ∧ Q (.bl (!k)) H') X.xe s := by
    refine PySem.W.ifBound_K Xk J c.eq c.fn ?_
    refine wpAny_mono (run_in (us := [.ref a, .ref b]) (vs := [V.ref a, V.ref b]) F hb hx ⟨hr.in1, rfl⟩ I (.cons rfl (.cons rfl .nil)) hq) (fun w s' z => ?_) fun _ _ z => z
    obtain ⟨v, H', I', rv, k, ev, q⟩ := z
    subst ev
    obtain rfl : w = Value.bool k := rv
    exact ⟨k, H', rfl, I', q⟩
  have body : wpAny (model X.prog X.w) X.A.in1 (Builtin.«object.__ne__» ⟨[.ref a, .ref b], []⟩) (fun r s' => ∃ k H', r = .done (.ret (.bool (!k))) ∧ Inv X pins σ H' s' ∧ Q (.bl (!k)) H') X.xe s := by
    unfold Builtin.«object.__ne__»
    repeat (first
      | with_reducible refine wpAny_cRoomFor hr.in1.units0 ?_
      | (refine wpAny_bind (m := callSpecialIfBound? (.ref a) (Str.ofString "__eq__") [.ref b]) (wpAny_mono inner (fun r s' z => ?_) fun _ _ z => z)
         obtain ⟨k, H', er, I', q⟩ := z
         subst er
         repeat (first | exact ⟨k, H', rfl, I', q⟩ | exact wpAny_pure ⟨k, H', rfl, I', q⟩ | (refine wpAny_bind (m := truthy (.bool _)) (wpAny_truthy_bool ?_)) | wp_step))
      | wp_step)
  have obj : PySem.W.Looks (model X.prog X.w) s.heap (isInstance (.ref a) (.type "object")) true := J.type.andThen (PySem.W.looks_subIn Xk c.ob)
  have callNe : wpAny (model X.prog X.w) X.A (call (.builtin "object.__ne__") [.ref a, .ref b]) (fun r s' => ∃ k H', r = .bool (!k) ∧ Inv X pins σ H' s' ∧ Q (.bl (!k)) H') X.xe s := by
    refine wpAny_call (codeAny_call_builtin PySem.F.cmp_object.ne.plain PySem.F.cmpEntry_ne (PySem.W.check_slot PySem.F.cmpKind_ne PySem.F.cmpSplit_ne obj (arg_ne _ _) (wpAny_mono body (fun r s' z => ?_) fun _ _ z => z)))
    obtain ⟨k, H', er, I', q⟩ := z
    subst er
    exact ⟨k, H', rfl, I', q⟩
  have bound : wpAny (model X.prog X.w) X.A (callSpecialIfBound? (.ref a) "__ne__" [.ref b]) (fun r s' => ∃ k H', r = some (.bool (!k)) ∧ Inv X pins σ H' s' ∧ Q (.bl (!k)) H') X.xe s := by
    simp only [callSpecialIfBound?, bindSpecialIfBound?]
    refine wpAny_holding (wpAny_bind (wpAny_bind (wpAny_bind (J.type.here ((PySem.W.looks_findIn Xk c.ne).here ?_)))))
    simp only [PySem.F.cmp_object.ne.bind]
    refine wpAny_bind (wpAny_askSetting (wpAny_ite ?_))
    have fin : wpAny (model X.prog X.w) X.A (call (.builtin "object.__ne__") ([.ref a] ++ [.ref b]) >>= fun v => pure (some v)) (fun r s' => ∃ k H', r = some (.bool (!k)) ∧ Inv X pins σ H' s' ∧ Q (.bl (!k)) H') X.xe s :=
      wpAny_bind (wpAny_mono callNe (fun v s' z => by
        obtain ⟨k, H', er, I', q⟩ := z
        subst er
        exact wpAny_pure ⟨k, H', rfl, I', q⟩) fun _ _ z => z)
    split
    · exact wpAny_bind (wpAny_pure (wpAny_pure fin))
    · exact wpAny_tryCatch (wpAny_bind (wpAny_pure (wpAny_pure fin)))
  show wpAny _ _ (richCompare .NotEq _ _) _ _ _
  have one : wpAny (model X.prog X.w) X.A (tryCompare (.ref a) "__ne__" (.ref b)) (fun r s' => ∃ k H', r = some (.bool (!k)) ∧ Inv X pins σ H' s' ∧ Q (.bl (!k)) H') X.xe s := by
    unfold tryCompare
    refine wpAny_bind (wpAny_mono bound (fun r s' z => ?_) fun _ _ z => z)
    obtain ⟨k, H', er, I', q⟩ := z
    subst er
    exact wpAny_pure ⟨k, H', rfl, I', q⟩
  have fin : ∀ {r : Option Value} {s' : Shared}, (∃ k H', r = some (.bool (!k)) ∧ Inv X pins σ H' s' ∧ Q (.bl (!k)) H') → ∃ v, r = some v ∧ EP X pins σ Q v s' := fun {r s'} z => by
    obtain ⟨k, H', er, I', q⟩ := z
    exact ⟨_, er, .bl (!k), H', I', rfl, q⟩
  unfold richCompare
  simp only [oneThing_ref]
  refine wpAny_holding (wpAny_bind (wpAny_cRoomFor hr.units0 ?_))
  refine wpAny_bind (J.type.here (wpAny_bind (J'.type.here ?_)))
  split
  · rename_i q
    have e : PySem.W.subIn X.K (.ref D) (.ref C) = some false := by
      rcases Bool.or_eq_true_iff.mp hn with e | e
      · rw [beq_iff_eq.mp e] at q
        simp at q
      · exact beq_iff_eq.mp e
    refine wpAny_bind ((PySem.W.looks_subIn Xk e).here ?_)
    simp only [Bool.false_eq_true, if_false]
    refine wpAny_bind (wpAny_mono one (fun r s' z => ?_) fun _ _ e => e)
    obtain ⟨v, rfl, hq⟩ := fin z
    exact wpAny_pure hq
  · refine wpAny_bind (wpAny_pure ?_)
    simp only [Bool.false_eq_true, if_false]
    refine wpAny_bind (wpAny_mono one (fun r s' z => ?_) fun _ _ e => e)
    obtain ⟨v, rfl, hq⟩ := fin z
    exact wpAny_pure hq
end
end Ax
set_option maxHeartbeats 4000000
/-! for x in o, o an instance whose __iter__ is «return iter(self.f)», self.f a tuple. -/
namespace Ax
open PySem PySem.Spec PyProof.Rows L2
/-! ### a def run once, at a given state -/
section
variable {CX : CXT} {P : Program} {w : World} {K : PySem.W.Frag} {mg : Str → Option Value} {base : Heap} {k : Nat} {f : Addr} {name qual : Str} {params : Arguments} {body : List Stmt} {scope : Scope} {dV kV doc pm cdv ct oc : Value} {an od : Option Addr}
  {osl : Array (Option Value)} {N ps : List Str} {A : Around} {outer : List Env} {s : Shared} {H : Hp} {us : List Value} {vs : List V} {Q : VK} {E : XK}
theorem run_at (lk : K.lookup f = some ⟨oc, od, .func (PySem.W.fnOf name qual params body scope dV kV doc pm an cdv ct), osl⟩) (hcd : PySem.W.codeIn K cdv qual = true) (S : FnScope N ps scope) (hr : Room (k + 1) A)
    (e0 : Env0 P w K mg base A outer s H) (hb : BindsTo s (PySem.W.fnOf name qual params body scope dV kV doc pm an cdv ct) ⟨us, []⟩ (ps.zip us)) (hl : vs.length = ps.length) (r : Vals vs us)
    (hbody : Room k (A.deeper (envOfC qual scope s.heap.objs.size f cdv)) → ∃ t, PSs (cxOf CX P w K mg base N qual scope f cdv A outer s H E) body t ∧ t { nx := fun _ H' => Q .non H', rt := Q } (start N vs) H) :
    codeAny (model P w) A (.call (.ref f) ⟨us, []⟩) (CR CX outer P w H s Q E) s := by
  have kin : K.In s.heap := e0.mod.kin.keeps fun b o e => (e0.bs b o e).1
  have nolim : s.heap.NoLimit := e0.mod.nolimit.keeps fun b o e => (e0.bs b o e).1
  refine codeAny_call_function hr.depth (kin _ _ lk) rfl S.co S.gen rfl (PySem.W.codeRec_of kin hcd) (hb _ _ _ _ ?_)
  refine wpAny_newFunctionEnv_cells S.kind (fun y hy => ?_) fun env he s1 x => ?_
  · have hm : y.1 ∈ ps := (List.of_mem_zip hy).1
    cases S.par y.1 hm with
    | inl q => exact .inl q
    | inr q => exact .inr ⟨q, PySem.W.cellsFrom_some _ _ _ (.inl q)⟩
  subst he
  refine ⟨nolim.keeps x.toInCall.keep, codeAny_func ?_⟩
  obtain ⟨t, ht, hq⟩ := hbody (hr.deeper _)
  have I : Inv (cxOf CX P w K mg base N qual scope f cdv A outer s H E) [] (start N vs) H s1 := inv_start S hr.hd e0 hl r x
  refine wpAny_mono (ht.run [] s1 (start N vs) H _ I hq) (fun fl s' hs => ?_) fun _ _ z => z
  cases fl with
  | ret u =>
    obtain ⟨v, _, H', J, rv, q⟩ := hs
    exact ⟨v, H', J.os, J.bare, J.base, J.hok, rv, q⟩
  | next =>
    obtain ⟨_, H', J, q⟩ := hs
    exact ⟨.non, H', J.os, J.bare, J.base, J.hok, rfl, q⟩
  | brk =>
    obtain ⟨_, _, _, q⟩ := hs
    exact q.elim
  | cont =>
    obtain ⟨_, _, _, q⟩ := hs
    exact q.elim
end
/-! ### iter(t), t a tuple -/
/-- at it: an iterator over the tuple at t, at its beginning -/
def ItTup (t it : Addr) : HO := .ext fun h => h.IsTupleIter it t 0
theorem itTup_ok {P : Program} {w : World} {H : Hp} {h : Heap} {t it : Addr} (e : h.IsTupleIter it t 0) : ObjOk P w H h it (ItTup t it) := by
  obtain ⟨o, ho, hc, hd⟩ := id e
  exact ⟨e, ⟨o, ho⟩, fun h1 h2 x k => let ⟨o, ho, r⟩ := x; ⟨o, k o ho, r⟩⟩
def rIterT (K : PySem.W.Frag) (n : Nat) : List V → Hp → VK → Prop := fun xs H Q => ∃ (t : Addr) (zs : List V), xs = [.ref t] ∧ SqT K H t zs ∧ ∀ it, H it = Option.none → n ≤ it → Q (.ref it) (upd H it (ItTup t it))
theorem call_iterT {X : Cx} : CallR X (.builtin "iter") (rIterT X.K X.s_0.heap.objs.size) := by
  intro pins s σ H xs us Q I r h
  obtain ⟨t, zs, rfl, hq, q⟩ := h
  obtain ⟨u, rfl, ru⟩ := vals1 r
  obtain rfl : u = Value.ref t := ru
  obtain ⟨its, rv, p, hz⟩ := I.tuple hq
  refine Calls.call_function_entry (by decide +kernel) (by decide +kernel) PySem.W.kdk_entry_iter (PySem.W.kdk_args_iter _) ?_
  unfold Builtin.«iter»
  refine wpAny_bind (m := someArgs "iter" 1 2 _) (wpAny_of_eq (a := [Value.ref t]) (by first | rfl | kernel_rfl!) ?_)
  show wpAny _ _ (pyIter (.ref t) >>= _) _ _ _
  refine wpAny_bind (PyProof.Rows.iter_tuple (t := t) (items := its.toArray) p ?_)
  exact wpAny_pure ⟨_, rfl, .ref s.heap.objs.size, _, I.laid (t' := s.toks) (fun b u e => Heap.get?_push_of_some _ e) (Nat.le_refl _) (itTup_ok ⟨_, Heap.get?_push_size _ rfl, rfl, rfl⟩), rfl, q _ (I.hok.fresh (Nat.le_refl _)) I.sz⟩
/-! ### the walk -/
/-- C's __iter__ stands at f; its body is read so, wherever it runs -/
structure IterC (P : Program) (w : World) (K : PySem.W.Frag) (mg : Str → Option Value) (base : Heap) (C f : Addr) (fld : Str) : Prop where
  cl : Cls K C
  no : NoAttr K C fld
  it : PySem.W.findIn K (.ref C) "__iter__" = some (some (.ref f))
  fn : PySem.W.isFn K (.ref f) = true
  ex : ∃ (fd : FuncData) (name qual : Str) (params : Arguments) (body : List Stmt) (scope : Scope) (dV kV doc pm cdv ct oc : Value) (an od : Option Addr) (osl : Array (Option Value)),
    fd = PySem.W.fnOf name qual params body scope dV kV doc pm an cdv ct ∧ K.lookup f = some ⟨oc, od, .func fd, osl⟩ ∧ PySem.W.codeIn K cdv qual = true ∧ FnScope ["self"] ["self"] scope ∧
    (∀ (s : Shared) (u : Value), BindsTo s fd ⟨[u], []⟩ [("self", u)]) ∧
    ∀ (A : Around) (outer : List Env) (s : Shared) (H : Hp), PSs (cxOf CX0 P w K mg base ["self"] qual scope f cdv A outer s H E0) body (tRet (tCB (rIterT K s.heap.objs.size) (tCons (tFld K (tVar 0) fld) tNil)))
def iOwn (K : PySem.W.Frag) (C : Addr) (fld : Str) (to : TE) : TI := fun σ H R => to σ H fun x H1 => ∃ (a dx t : Addr) (fs : List (Str × V)), x = .ref a ∧ H1 a = some (.ins C dx fs) ∧ fs.lookup fld = some (.ref t) ∧ (∃ xs, SqT K H1 t xs) ∧ R (Itt K t) H1
section
variable {X : Cx} {o : Expr} {to : TE} {tg : Expr} {C f : Addr} {fld : Str}
theorem pi_own (he : PE X o to) (c : IterC X.prog X.w X.K X.mg X.base C f fld) (hr : Room 1 X.A) : PI X tg o (iOwn X.K C fld to) := by
  obtain ⟨fd, name, qual, params, body, scope, dV, kV, doc, pm, cdv, ct, oc, an, od, osl, rfl, lk, hcd, S, hb, hB⟩ := c.ex
  constructor
  intro pins s σ H R I h
  refine thn (he.run pins s σ H _ I h) fun u s1 got => ?_
  obtain ⟨x, H1, I1, rx, a, dx, t, fs, rfl, ha, hl, ⟨xs, hq⟩, q⟩ := got
  obtain rfl : u = Value.ref a := rx
  obtain ⟨mA, J, _⟩ := ins_get I1.hok ha
  obtain ⟨od', J, _⟩ := J.look
  obtain ⟨m, hF⟩ := I1.fr
  refine PySem.W.owit_iter hF I1.ok.mod.kin J c.it c.fn ?_
  have body_ : codeAny (model X.prog X.w) X.A (.call (.ref f) ⟨[.ref a], []⟩) (CR CX0 X.stack X.prog X.w H1 s1 (fun v H' => ∃ it, v = .ref it ∧ H' = upd H1 it (ItTup t it) ∧ H1 it = none ∧ s1.heap.objs.size ≤ it) E0) s1 := by
    refine run_at (k := 0) (us := [.ref a]) (vs := [V.ref a]) (ps := ["self"]) lk hcd S hr I1.env0 (hb _ _) rfl (.cons rfl .nil) (fun _ => ⟨_, hB X.A X.stack s1 H1, ?_⟩)
    refine ⟨_, rfl, a, C, dx, fs, _, rfl, ha, c.cl, c.no, hl, t, xs, rfl, hq, fun it hit hn => ?_⟩
    exact ⟨it, rfl, rfl, hit, hn⟩
  refine wpAny_call (codeAny_mono body_ fun rr s' hq' => ?_)
  cases rr with
  | error e => exact hq'.elim
  | ok fl =>
    cases fl with
    | next => exact hq'.elim
    | brk => exact hq'.elim
    | cont => exact hq'.elim
    | ret v =>
      obtain ⟨z, H', J', rz, it, ez, eH, hn, hsz⟩ := I1.after hq'
      subst ez
      subst eH
      obtain rfl : v = Value.ref it := rz
      have st : s'.heap.IsTupleIter it t 0 := (J'.hok it _ upd_same).1
      have K1 : Inv X pins σ H1 s' := by
        have z := ItX.inv_drop (φ := fun h => h.IsTupleIter it t 0) J' upd_same
        rw [ItX.dropH_upd hn] at z
        exact z
      unfold PySem.W.OwitIt
      obtain ⟨o', ho', hc', hd'⟩ := id st
      refine wpAny_specialOf (T := "tuple_iterator") ⟨o', ho', hc'⟩ PyProof.Rows.slot_tupleiter_next.lookup ?_
      refine ⟨it, [it], _, _, H1, rfl, K1, turn_tuple t it, st, fun b hb' => ?_, q⟩
      have e : b = it := by simpa using hb'
      rw [e]
      exact I1.fpOk hsz hn
end
end Ax
set_option maxHeartbeats 4000000
/-! try: .. with several clauses «except C as n:». -/
namespace Ax
open PySem PySem.Spec PyProof.Rows L2
/-- one clause: the class that it names, the slot of its name, its suite's reading -/
structure Cl where
  c : Value
  i : Nat
  ts : Addr → Value → Option Addr → TS
/-- behind a suite the clause's name is gone -/
def gone (D : Ends) (i : Nat) : Ends := { nx := fun σ H => D.nx (σ.set i Option.none) H, rt := D.rt, bk := fun σ H => D.bk (σ.set i Option.none) H, ct := fun σ H => D.ct (σ.set i Option.none) H }
def wCls (K : PySem.W.Frag) (Wout : WX) (D : Ends) : List Cl → WX
  | [] => Wout
  | k :: r => fun cls d σ H => ∃ b, PySem.W.exmOne K cls k.c = some b ∧ (b = true → ∀ a, H a = Option.none → k.ts a cls d (gone D k.i) (σ.set k.i (some (.ref a))) H) ∧ (b = false → wCls K Wout D r cls d σ H)
inductive ClsOk (X : Cx) : List ExceptHandler → List Cl → Prop
  | nil : ClsOk X [] []
  | cons {x n : Str} {k : Cl} {b0 : Stmt} {suite : List Stmt} {np pos : Pos} {hs : List ExceptHandler} {l : List Cl} (hc : Names X x k.c) (hi : X.N[k.i]? = some n) (hn : X.env.kindOf n = some .local)
      (hsu : ∀ (a : Addr) (oe : Obj) (cls : Value) (d : Option Addr) (pn : List (Addr × Obj)), Zc cls d oe → (∃ vs, oe.data = .fields vs) → PSs (X.suite a ((a, oe) :: pn)) (b0 :: suite) (k.ts a cls d))
      (r : ClsOk X hs l) : ClsOk X (.ExceptHandler (some (.Name x np)) (some n) (b0 :: suite) pos :: hs) (k :: l)
section
variable {X : Cx} {body : List Stmt} {h0 : ExceptHandler} {hs : List ExceptHandler} {l : List Cl} {pos : Pos} {tb : WX → TS} {Wout : WX}
theorem ps_try_cls (hst : X.stack = X.env :: X.outer) (hfr : X.env.frame = some X.env.locals) (hN : X.N.Nodup) (tk : Takes X Wout)
    (hb : ∀ (W : WX) (pn : List (Addr × Obj)) (xe : Value → Shared → Prop), Takes (X.tr pn xe) W → PassesOwn (model X.prog X.w) X.A X.env xe → PSs (X.tr pn xe) body (tb W))
    (hh : ClsOk X (h0 :: hs) l) : PS X (.Try body (h0 :: hs) [] [] pos) (fun D σ H => tb (wCls X.K Wout D l) D σ H) := by
  constructor
  intro pins s σ H D I h
  have ok := I.ok
  have frames : X.A.frames = some (X.env :: X.outer) := by rw [ok.frames, hst]
  refine wpAny_Try_except ?_
  refine wpAny_mono ((hb (wCls X.K Wout D l) (X.pn ++ pins) _ (fun e s' xx => ?_) PassesOwn.looking).run [] s σ H D (I.toTry _) h) (fun f s1 done => ?_) (fun e s1 he => he)
  · obtain ⟨a, B, sI, pins', σ', H', cls, d, rfl, J', nb, up, sky, na, os, ag, w⟩ := xx
    have J : Inv X pins σ' H' sI := J'.ofTry ok
    rw [hst] at sky
    show wpAny (model X.prog X.w) X.A (noteFrame (.ref a) X.env) _ _ _
    refine Sky.land Zc.steady frames hfr sky fun h3 fl3 up3 => ?_
    obtain ⟨oe3, vs3, he3, hz3, hd3⟩ := fl3.there
    have noFrame : a ∉ frs (X.env :: X.outer) := fun hm => by
      obtain ⟨_, o', e', hnf⟩ := (fl3.2.2.1 : h3.FunFrames B (X.env :: X.outer)).mem hm
      rw [he3] at e'
      cases e'
      exact hnf _ hd3
    have nL : a ≠ X.env.locals := fun z => noFrame (List.mem_filterMap.mpr ⟨X.env, List.mem_cons_self, by rw [hfr, z]⟩)
    have nF : a ∉ X.fs := fun hm => by
      obtain ⟨e, he, q⟩ := List.mem_filterMap.mp hm
      exact noFrame (List.mem_filterMap.mpr ⟨e, List.mem_cons_of_mem _ he, q⟩)
    have J3 : Inv X pins σ' H' { s' with heap := h3 } := J.landed nb fl3.1 (up.trans up3) os ag
    have S3 := J3.suite he3 hd3 na nL nF
    -- clause by clause
    have go : ∀ {hs' : List ExceptHandler} {l' : List Cl}, ClsOk X hs' l' → wCls X.K Wout D l' cls d σ' H' → wpAny (model X.prog X.w) X.A (handleBy (.ref a) X.env hs') (SP X pins D) X.xe { s' with heap := h3 } := by
      intro hs' l' ck
      induction ck with
      | nil =>
        intro w
        refine wpAny_handleBy_nil ?_
        obtain ⟨k1, k2, k3, oe, vs, T, oT, ts', he, hz, hd, h1, hr⟩ := id fl3
        unfold PySem.passOn
        refine wpAny_bind (wpAny_field he hd h1 ?_)
        rw [if_neg (show ¬ ((Value.ref T == Value.none) = true) from by simp)]
        have out : wpAny (model X.prog X.w) X.A (setFlight (.ref a) X.env.frame) (fun _ s4 => wpAny (model X.prog X.w) X.A (throw (.ref a) : Sem Flow) (SP X pins D) X.xe s4) X.xe { s' with heap := h3 } := by
          rw [hfr]
          refine HandSPX.setFlight_upZ fl3 fun h4 hh4 up4 => wpAny_throw (tk _ _ ?_)
          exact ⟨a, B, sI, pins, σ', H', cls, d, rfl, J, nb, (up.trans up3).trans up4, .inr (.inr (by rw [hst]; exact hh4)), na, os, ag, w⟩
        first
          | exact wpAny_bind (wpAny_pure (wpAny_bind out))
          | exact wpAny_bind out
      | @cons x n k b0 suite np pos' hs2 l2 hc hi hn hsu r ih =>
        intro w
        obtain ⟨b, hb1, yes, no⟩ := w
        refine wpAny_handleBy_cons (codeAny_handlers_test ?_) (by intro q; cases q)
        have T1 : PySem.W.Looks (model X.prog X.w) h3 (typeOf (.ref a)) cls := fun A Q E s kk q => wpAny_typeOf_ref (kk _ _ he3) (by rw [hz3.1]; exact q)
        have T2 := PySem.W.exm_one (M := model X.prog X.w) J3.kIn T1 hb1
        have ask : ∀ {Q : Value → Shared → Prop} {E : Value → Shared → Prop}, Q k.c { s' with heap := h3 } → wpAny (model X.prog X.w) (X.A.mark (some (.ref a))) (eval (.Name x np) X.env) Q E { s' with heap := h3 } := fun {Q E} q => by
          obtain ⟨g1, g2, g3⟩ := hc
          cases g3 with
          | inl hm => exact ld_glob (X := X.suite a ((a, oe3) :: (X.pn ++ pins))) S3 g1 hm q g2
          | inr hm => exact ld_blt (X := X.suite a ((a, oe3) :: (X.pn ++ pins))) S3 g1 hm.1 hm.2.1 q hm.2.2 g2
        refine ask (T2.here ?_)
        cases b with
        | false =>
          show wpAny _ X.A (handleBy (.ref a) X.env hs2) _ _ _
          exact ih (no rfl)
        | true =>
          refine codeAny_handlers_suite_as ?_
          refine HandSPX.lands_againZ fl3 fun h4 fl4 up4 => ?_
          obtain ⟨oe4, vs4, he4, hz4, hd4⟩ := fl4.there
          have J4 : Inv X pins σ' H' { s' with heap := h4 } := J.landed nb fl4.1 ((up.trans up3).trans up4) os ag
          have S4 := J4.suite he4 hd4 na nL nF
          refine store_ok (X := X.suite a ((a, oe4) :: (X.pn ++ pins))) (v := .ref a) S4 hN hi (.inl hn) rfl (fun s5 S5 => ?_) (.inr hn)
          refine wpAny_mono ((hsu a oe4 cls d (X.pn ++ pins) hz4 ⟨_, hd4⟩).run [] s5 _ H' (gone D k.i) S5 (yes rfl a na)) (fun f s6 res => ?_) (fun _ _ z => z.elim)
          have fin : ∀ {σ6 : L2.St} {H6 : Hp} {Q : Shared → Prop}, Inv (X.suite a ((a, oe4) :: (X.pn ++ pins))) [] σ6 H6 s6 → (∀ s7, Inv X pins (σ6.set k.i Option.none) H6 s7 → Q s7) →
              wpAny (model X.prog X.w) X.A (do bindName X.env n .none; unbindBehindTheSuite X.env n pos') (fun _ s7 => Q s7) X.xe s6 := fun {σ6 H6 Q} S6 hq => gone_ok (S6.unsuite ok) hN hi hn hq
          cases f with
          | next =>
            obtain ⟨σ6, H6, S6, q6⟩ := res
            exact fin S6 fun s7 J7 => ⟨_, _, J7, q6⟩
          | brk =>
            obtain ⟨σ6, H6, S6, q6⟩ := res
            exact fin S6 fun s7 J7 => ⟨_, _, J7, q6⟩
          | cont =>
            obtain ⟨σ6, H6, S6, q6⟩ := res
            exact fin S6 fun s7 J7 => ⟨_, _, J7, q6⟩
          | ret u =>
            obtain ⟨v6, σ6, H6, S6, r6, q6⟩ := res
            exact fin S6 fun s7 J7 => ⟨_, _, _, J7, r6, q6⟩
    exact go hh w
  · cases f with
    | next =>
      obtain ⟨σ', H', J', q⟩ := done
      exact wpAny_execs_nil ⟨σ', H', J'.ofTry ok, q⟩
    | brk =>
      obtain ⟨σ', H', J', q⟩ := done
      exact ⟨σ', H', J'.ofTry ok, q⟩
    | cont =>
      obtain ⟨σ', H', J', q⟩ := done
      exact ⟨σ', H', J'.ofTry ok, q⟩
    | ret u =>
      obtain ⟨v, σ', H', J', r, q⟩ := done
      exact ⟨v, σ', H', J'.ofTry ok, r, q⟩
end
end Ax
set_option maxHeartbeats 4000000
/-! Defs as they are called: a promise with where the def stands. -/
namespace Ax
open PySem PySem.Spec PyProof.Rows L2
/-- the def of the module's name x keeps sp -/
def Dn (P : Program) (w : World) (K : PySem.W.Frag) (mg : Str → Option Value) (base : Heap) (CX : CXT) (k : Nat) (x : Str) (ps : List Str) (sp : Sp) : Prop :=
  ∃ (f : Addr) (fd : FuncData), FnOk P w K mg base CX k f fd ps sp ∧ mg x = some (.ref f) ∧ PySem.W.keepIn K (.ref f) = true ∧ Binds K fd ps []
/-- the class of the module's name x: its __init__ keeps sp -/
def Dc (P : Program) (w : World) (K : PySem.W.Frag) (mg : Str → Option Value) (base : Heap) (CX : CXT) (k : Nat) (x : Str) (ps : List Str) (sp : Sp) : Prop :=
  ∃ (f : Addr) (fd : FuncData), FnOk P w K mg base CX k f fd ps sp ∧ mg x = some (.ref (He.ga K x)) ∧ Mk K (He.ga K x) f ∧ Binds K fd ps []
section
variable {X : Cx} {CX : CXT} {k : Nat} {ps : List Str} {sp : Sp} {E : XK} {x : Str} {p pos : Pos} {e : Expr} {es : List Expr} {t : TA}
theorem pe_dn (D : Dn X.prog X.w X.K X.mg X.base CX k x ps sp) (hr : Room k X.A) (hg : Gl X x) (hx : Passes CX X E) (ha : PA X (e :: es) t) (hdb : (x == ("__debug__" : Str)) = false := by decide)
    (he : starEach (e :: es) X.env = (false, eval e X.env) :: starEach es X.env := by rfl) (hpl : (backTo pos (starEach es X.env)).any (·.1) = false := by rfl) :
    PE X (.Call (.Name x p) (e :: es) [] pos) (tCall sp [] E t) := by
  obtain ⟨f, fd, F, hm, hk, hb⟩ := D
  exact pe_call F hr hg hm hk hb .nil hx ha hdb he hpl
theorem pe_dnS {E : L2.St → XK} (D : Dn X.prog X.w X.K X.mg X.base CX k x ps sp) (hr : Room k X.A) (hg : Gl X x) (hx : ∀ σ, PassesAt CX X σ (E σ)) (ha : PA X (e :: es) t) (hdb : (x == ("__debug__" : Str)) = false := by decide)
    (he : starEach (e :: es) X.env = (false, eval e X.env) :: starEach es X.env := by rfl) (hpl : (backTo pos (starEach es X.env)).any (·.1) = false := by rfl) :
    PE X (.Call (.Name x p) (e :: es) [] pos) (tCallS sp E t) := by
  obtain ⟨f, fd, F, hm, hk, hb⟩ := D
  exact pe_callS F hr hg hm hk hb hx ha hdb he hpl
theorem pe_dc (D : Dc X.prog X.w X.K X.mg X.base CX k x ps sp) (hr : Room (k + 1) X.A) (hg : Gl X x) (hx : Passes CX X E) (ha : PA X (e :: es) t) (hdb : (x == ("__debug__" : Str)) = false := by decide)
    (he : starEach (e :: es) X.env = (false, eval e X.env) :: starEach es X.env := by rfl) (hpl : (backTo pos (starEach es X.env)).any (·.1) = false := by rfl) :
    PE X (.Call (.Name x p) (e :: es) [] pos) (tMake (He.ga X.K x) sp [] E t) := by
  obtain ⟨f, fd, F, hm, hk, hb⟩ := D
  exact pe_make hk F hr hg hm hb .nil hx ha hdb he hpl
end
section
variable {P : Program} {w : World} {K : PySem.W.Frag} {mg : Str → Option Value} {base : Heap} {CX : CXT} {k : Nat} {x : Str} {ps : List Str} {sp sp' : Sp}
theorem Dn.mono {j : Nat} (D : Dn P w K mg base CX j x ps sp) (h : j ≤ k) : Dn P w K mg base CX k x ps sp := let ⟨f, fd, F, a, b, c⟩ := D; ⟨f, fd, F.mono h, a, b, c⟩
theorem Dn.imp (D : Dn P w K mg base CX k x ps sp) (h : ∀ vs H Q E, sp' vs H Q E → sp vs H Q E) : Dn P w K mg base CX k x ps sp' := let ⟨f, fd, F, a, b, c⟩ := D; ⟨f, fd, F.imp h, a, b, c⟩
theorem Dc.mono {j : Nat} (D : Dc P w K mg base CX j x ps sp) (h : j ≤ k) : Dc P w K mg base CX k x ps sp := let ⟨f, fd, F, a, b, c⟩ := D; ⟨f, fd, F.mono h, a, b, c⟩
end
/-! ### what grows beside the rest -/
theorem ext_del {H : Hp} {D : Addr} : Ext (del H D) H := fun a o h => by
  by_cases c : a = D
  · rw [c, del_same] at h
    cases h
  · rw [del_ne c] at h
    exact h
theorem ext_delD {H H' : Hp} {D : Addr} (e : Ext H H') : Ext (del H D) (del H' D) := fun a o h => by
  by_cases c : a = D
  · rw [c, del_same] at h
    cases h
  · rw [del_ne c] at h ⊢
    exact e a o h
theorem del_none {H : Hp} {D : Addr} (h : H D = none) : del H D = H := funext fun a => by
  by_cases c : a = D
  · rw [c, del_same, h]
  · rw [del_ne c]
theorem del_upd {H : Hp} {D : Addr} {o : HO} : del (upd H D o) D = del H D := funext fun a => by
  by_cases c : a = D
  · rw [c, del_same, del_same]
  · rw [del_ne c, del_ne c, upd_ne c]
theorem ext_upd_of {H B : Hp} {D : Addr} {o : HO} (e : Ext B H) (h : B D = none) : Ext B (upd H D o) := fun a u q => by
  rw [upd_ne (ne_of_none q h)]
  exact e a u q
theorem ext_del_of {H B : Hp} {D : Addr} (e : Ext B H) (h : B D = none) : Ext B (del H D) := fun a u q => by
  rw [del_ne (ne_of_none q h)]
  exact e a u q
theorem yes_go {σ : L2.St} {H : Hp} {Q : Bool → Hp → Prop} (h : Q true H) : tYes σ H Q := h
section
variable {J : It} {n : Nat} {G : Hp → Prop} {Y : Nat → Hp → V → Hp → Prop}
def Pacc (R : Nat → List V → Hp → Prop) (D : Addr) (i : Nat) (H : Hp) : Prop := ∃ acc, H D = some (.lst acc) ∧ acc.length ≤ i ∧ R i acc (del H D)
theorem acc_add {R : Nat → List V → Hp → Prop} {D : Addr} {i : Nat} {H : Hp} {acc : List V} {y : V} (h : H D = some (.lst acc)) (hl : acc.length ≤ i) (hi : i < sizeLine) (r : R (i + 1) (acc ++ [y]) (del H D)) :
    ∃ acc, H D = some (.lst acc) ∧ acc.length < sizeLine ∧ Pacc R D (i + 1) (upd H D (.lst (acc ++ [y]))) :=
  ⟨acc, h, by omega, acc ++ [y], upd_same, by simp; omega, by rw [del_upd]; exact r⟩
theorem acc_skip {R : Nat → List V → Hp → Prop} {D : Addr} {i : Nat} {H : Hp} {acc : List V} (h : H D = some (.lst acc)) (hl : acc.length ≤ i) (r : R (i + 1) acc (del H D)) : Pacc R D (i + 1) H := ⟨acc, h, by omega, r⟩
/-- a comprehension whose new list is told apart from the rest -/
theorem lc_acc (w : Walk J n G Y) {g : TG} {tt : TT} {te : TE} {vs : List Nat} {σ : L2.St} {H1 : Hp} {D : Addr} {Qd : Hp → Prop} (hD : H1 D = none) (R : Nat → List V → Hp → Prop) (r0 : R 0 [] H1)
    (hG : ∀ i acc H, i ≤ n → H D = some (.lst acc) → R i acc (del H D) → G H)
    (hs : ∀ i x H H' acc, i < n → H D = some (.lst acc) → acc.length ≤ i → R i acc (del H D) → Y i H x H' → g x (wipe σ vs) H' fun σ2 H2 => wipe σ2 vs = wipe σ vs ∧ tt σ2 H2 fun b H3 =>
      if b = true then te σ2 H3 fun y H4 => ∃ acc, H4 D = some (.lst acc) ∧ acc.length < sizeLine ∧ Pacc R D (i + 1) (upd H4 D (.lst (acc ++ [y]))) else Pacc R D (i + 1) H3)
    (hd : ∀ H acc, H D = some (.lst acc) → acc.length ≤ n → R n acc (del H D) → Qd H) :
    ∃ W : Nat → Nat → Hp → Prop, (∃ m, W 0 m (upd H1 D (.lst []))) ∧ ∀ i m H, W i m H →
      (J.stop i H ∧ Qd H) ∨ (J.go i H ∧ ∃ Nx : Hp → Prop, (∀ H', Nx H' → ∃ m', m' < m ∧ W (i + 1) m' H') ∧ ∀ x H', J.yld i H x H' → g x (wipe σ vs) H' fun σ2 H2 => wipe σ2 vs = wipe σ vs ∧ tt σ2 H2 fun b H3 =>
        if b = true then te σ2 H3 fun y H4 => ∃ acc, H4 D = some (.lst acc) ∧ acc.length < sizeLine ∧ Nx (upd H4 D (.lst (acc ++ [y]))) else Nx H3) :=
  lc_it w (Pacc R D) ⟨[], upd_same, Nat.le_refl _, by rw [del_upd, del_none hD]; exact r0⟩ (fun i H hi ⟨acc, h1, h2, h3⟩ => hG i acc H hi h1 h3)
    (fun i x H H' hi ⟨acc, h1, h2, h3⟩ y => hs i x H H' acc hi h1 h2 h3 y) (fun H ⟨acc, h1, h2, h3⟩ => hd H acc h1 h2 h3)
end
end Ax
set_option maxHeartbeats 2000000
/-! t.count(x): a tuple of texts. -/
namespace Ax
open PySem PySem.Spec PyProof.Rows L2
variable {X : Cx}
theorem dpAll_strs {K : PySem.W.Frag} {H : Hp} : ∀ ys : List Str, DpAll K H (ys.map V.str) (ys.map PyData.str)
  | [] => .nil
  | y :: ys => .cons (.str y) (dpAll_strs ys)
theorem plain_strs : ∀ ys : List Str, PyData.plainAll (ys.map PyData.str) = true
  | [] => rfl
  | y :: ys => by
    show (PyData.plain (.str y) && PyData.plainAll (ys.map PyData.str)) = true
    rw [plain_strs ys]
    rfl
theorem depth_strs : ∀ ys : List Str, PyData.depthAll (ys.map PyData.str) = 0
  | [] => rfl
  | y :: ys => by
    show max (PyData.depth (.str y)) (PyData.depthAll (ys.map PyData.str)) = 0
    rw [depth_strs ys]
    rfl
theorem eqv_strs (y k : Str) : PyData.eqv (.str y) (.str k) = (y == k) := by
  first | rfl | (unfold PyData.eqv; rfl) | simp [PyData.eqv]
def rCntS (K : PySem.W.Frag) : V → List V → Hp → VK → Prop := fun x xs H Q => ∃ (p : Addr) (ys : List Str) (k : Str), x = .ref p ∧ xs = [.str k] ∧ SqT K H p (ys.map V.str) ∧ Q (.int (ys.count k : Nat)) H
theorem mt_tcountS (hu : X.A.units + 64 < cLine) : MtR X "tuple.count" (rCntS X.K) := by
  intro pins s σ H x xs v us Q I rx rxs h
  obtain ⟨p, ys, k, rfl, rfl, hs, q⟩ := h
  cases rx
  obtain ⟨u, rfl, ru⟩ := rxs.one
  obtain ⟨its, rv, p1, hlen⟩ := I.tuple hs
  obtain ⟨as, h4⟩ := Dp.readsAll I _ _ its (dpAll_strs ys) rv
  obtain ⟨bs, r1⟩ := Dp.reads I (.str k) (.str k) u (.str k) ru
  refine SeqAt.count_tuple_data (l := p) (vs := its.toArray) (xs := ys.map PyData.str) (d := .str k) p1 (show ReadsAll s.heap its.toArray.toList (ys.map PyData.str) as from h4) r1 (plain_strs ys) rfl ?_ ?_
  · have e := depth_strs ys
    omega
  · have ec : (ys.map PyData.str).countP (fun y => PyData.eqv y (.str k)) = ys.count k := by
      rw [List.countP_map]
      unfold List.count
      congr 1
    rw [ec]
    exact ⟨.int (ys.count k : Nat), H, I.tok _, ⟨s.toks, rfl⟩, q⟩
/-! ### tuples that have no dict -/
/-- tuple(l), told as the object itself -/
def rTupZ (K : PySem.W.Frag) : List V → Hp → VK → Prop := fun xs H Q => ∃ (p : Addr) (ys : List V), xs = [.ref p] ∧ SqL K H p ys ∧ ∀ (l : Addr) (ob : Obj), H l = none → ob.cls = .type "tuple" → (ob.dict = none ∧ ob.slots = #[]) → Q (.ref l) (upd H l (.frz ob (.tup ys)))
theorem call_tupZ : CallR X (.type "tuple") (rTupZ X.K) := by
  intro pins s σ H xs us Q I r h
  obtain ⟨p, ys, rfl, hq, q⟩ := h
  obtain ⟨u, rfl, rx⟩ := vals1 r
  cases rx
  obtain ⟨its, r', pl, hz⟩ := I.list hq
  have hlen := r'.length
  refine call_tuple_list pl.isList (fun h' kp => ?_) (by simp only [List.size_toArray] <;> omega)
  have I1 : Inv X pins σ H { s with heap := h' } := I.kept (t' := s.toks) kp
  have I2 : Inv X pins σ (upd H h'.objs.size (.frz { cls := .type "tuple", data := .seq its.toArray } (.tup ys))) { s with heap := h'.push { cls := .type "tuple", data := .seq its.toArray } } :=
    I1.laid (t' := s.toks) (fun b o e => Heap.get?_push_of_some _ e) (Nat.le_refl _)
      (show ObjOk X.prog X.w _ _ _ (.frz { cls := .type "tuple", data := .seq its.toArray } (.tup ys)) from ⟨Heap.get?_push_size _ rfl, hz, its, r', IsTup.new _ _⟩)
  exact ⟨.ref h'.objs.size, _, I2, rfl, q _ _ (I1.hok.fresh (Nat.le_refl _)) rfl ⟨rfl, rfl⟩⟩
/-- o.m(e), o such a tuple -/
def tTM (r : V → List V → Hp → VK → Prop) (to : TE) (t : TA) : TE := fun σ H Q => to σ H fun x H1 => (∃ (p : Addr) (ob : Obj) (xs : List V), x = .ref p ∧ H1 p = some (.frz ob (.tup xs)) ∧ ob.cls = .type "tuple" ∧ ob.dict = none) ∧ t σ H1 fun xs H2 => r x xs H2 Q
section
variable {o e : Expr} {es : List Expr} {to : TE} {t : TA} {name : Str} {apos cpos : Pos} {id : String} {r : V → List V → Hp → VK → Prop}
theorem pe_tm (slot : Slot "tuple" name id) (hty : typeOf (.builtin id) = pure (.type "method_descriptor")) (hm : MtR X id r) (ho : PE X o to) (ha : PA X (e :: es) t)
    (hbase : attributeBase o name X.env (eval o X.env) = eval o X.env := by rfl)
    (hfew : ((backTo cpos (starEach (e :: es) X.env)).all (fun x => !x.1) && (backToKw cpos (keywordEach [] X.env)).all (fun x => x.1.isSome)
      && decide ((e :: es).length + ([] : List Keyword).length + (if ([] : List Keyword).isEmpty then 0 else 1) < 30)) = true := by rfl)
    (hline : (apos.endLine == cpos.line) = true := by rfl) (hs : starEach (e :: es) X.env = (false, eval e X.env) :: starEach es X.env := by rfl) (hplain : (backTo cpos (starEach es X.env)).any (·.1) = false := by rfl) :
    PE X (.Call (.Attribute o name apos) (e :: es) [] cpos) (tTM r to t) := by
  refine ⟨fun pins s σ H Q I h => ?_⟩
  refine wpAny_Call_method_late hbase hfew hline rfl (thn (ho.run pins s σ H _ I h) fun v s1 ⟨x, H1, I1, r1, ty, q1⟩ => ?_)
  obtain ⟨p, ob, xs, rfl, hp, hc, hd⟩ := ty
  obtain rfl : v = Value.ref p := r1
  have hh : s1.heap.get? p = some ob := (I1.hok p _ hp).1
  refine ⟨"tuple", id, PySem.F.plainAttrs_tuple, slot, hty, ⟨ob, hh, hc⟩, fun a e => by cases e; exact ⟨ob, hh, hd⟩, ?_⟩
  have hA := ha.run cpos pins s1 σ H1 _ I1 q1
  rw [hs] at hA ⊢
  refine Calls.callWith_builtin (by show (false || (backTo cpos (starEach es X.env)).any (·.1)) = false; rw [hplain] <;> rfl) (Calls.evalArgs_plain ?_)
  exact thn hA fun us s2 ⟨vs, H2, I2, r2, q2⟩ => hm pins s2 σ H2 (.ref p) vs (.ref p) us Q I2 rfl r2 q2
end
end Ax
set_option maxHeartbeats 4000000
/-! enumerate over a tuple; a list extended by a tuple. -/
namespace PySem
open Sem (wp)
theorem ax_enum1 {v : Value} {o : Obj} {H : Heap → Prop} (B : Begins v o H) :
    Meets (Builtin.«enumerate.__new__» ⟨[.type "enumerate", v], []⟩) (fun _ R s => H s.heap ∧
      R (.ok (.ret (.ref (s.heap.push o).objs.size))) { s with heap := (s.heap.push o).push { cls := .type "enumerate", data := .fields #[.none, .bool false, .ref s.heap.objs.size, rawInt 0, .none, .none] } }) :=
  .of_wp fun prog w A R s h => by
    obtain ⟨hp, g, d, tk, os⟩ := s
    obtain ⟨h1, h⟩ := h
    have hsub := sub_enumerate
    have start : ∀ {A' : Around} {E : Value → Shared → Prop} {Q : Value → Shared → Prop}, Q (.ref hp.objs.size) ⟨hp.push o, g, d, tk, os⟩ → wpAny (model prog w) A' (pyIter v) Q E ⟨hp, g, d, tk, os⟩ :=
      fun q => B.iter prog w _ _ ⟨hp, g, d, tk, os⟩ _ h1 q
    wp_walk using start
    refine wpAny_stack_any fun st => wpAny_pure ?_
    split
    · rename_i c _ _ _ _ _
      cases (c == Value.type "enumerate") <;> (wp_walk using start; exact ⟨_, rfl, h⟩)
    · wp_walk using start
      exact ⟨_, rfl, h⟩
section
variable {prog : Program} {w : World} {A : Around} {E : Value → Shared → Prop} {s : Shared}
theorem ax_enumCall {v : Value} {o : Obj} {H : Heap → Prop} {Q : Value → Shared → Prop} (B : Begins v o H) (h1 : H s.heap)
    (h : ∀ h', IsEnum h' (s.heap.objs.size + 1) s.heap.objs.size 0 .none → h'.get? s.heap.objs.size = some o → (∀ b u, s.heap.get? b = some u → h'.get? b = some u) → Q (.ref (s.heap.objs.size + 1)) { s with heap := h' }) :
    wpAny (model prog w) A (call (.type "enumerate") [v]) Q E s := by
  have hz : (s.heap.push o).objs.size = s.heap.objs.size + 1 := Heap.size_push ..
  have at_ := Heap.get?_push_size (s.heap.push o) (o := ({ cls := .type "enumerate", data := .fields #[.none, .bool false, .ref s.heap.objs.size, rawInt 0, .none, .none] } : Obj)) rfl
  refine callType_new F.called_enumerate (by decide) (F.typeCall_enumerate_1 _) (F.newCall_enumerate_1 _) (fun obj => F.args_object_init_2 obj _) F.entry_enumerate_new (ax_enum1 B) ⟨h1, ?_⟩
  show _ ∧ _
  rw [hz] at at_ ⊢
  exact ⟨⟨_, at_, rfl⟩, h _ at_ (Heap.get?_push_of_some _ (Heap.get?_push_size _ B.free)) fun b u x => Heap.get?_push_of_some _ (Heap.get?_push_of_some _ x)⟩
end
end PySem
namespace Ax
open PySem PySem.Spec PyProof.Rows L2
def IteT (K : PySem.W.Frag) (a : Addr) : It :=
  ⟨fun i H => ∃ (xs : List V) (x : V), SqT K H a xs ∧ xs[i]? = some x, fun i H v H' => ∃ T x, v = .ref T ∧ H T = none ∧ H' = upd H T (.tup [.int (i : Nat), x]) ∧ ∀ xs, SqT K H a xs → xs[i]? = some x, fun i H => ∃ xs : List V, SqT K H a xs ∧ xs.length ≤ i⟩
theorem apart1 {h : Heap} {a e : Addr} {its : Array Value} {o : Obj} (p : h.IsTuple a its) (q : h.get? e = some o) (n : o.cls ≠ .type "tuple") : e ≠ a := fun z => by
  obtain ⟨u, hu, hc, _⟩ := p
  rw [z, hu] at q
  rw [← Option.some.inj q] at n
  exact n hc
theorem turn_enumT {P : Program} {w : World} {K : PySem.W.Frag} {elts : List Expr} {kk : Nat} {tpos : Pos} (a e it : Addr) :
    Turn P w K (.Tuple elts kk tpos) (IteT K a) [e, it] e (fun i h => (∃ old, IsEnum h e it ((i : Nat) : Int) old) ∧ h.IsTupleIter it a i ∧ e ≠ it) where
  mem := List.mem_cons_self
  obj := fun i h st b hb => by
    obtain ⟨⟨old, he⟩, ⟨o, ho, hc, hd⟩, _⟩ := st
    rcases List.mem_cons.mp hb with z | z
    · subst z
      exact ⟨_, he, fun v q => nomatch q⟩
    · have z2 := List.mem_singleton.mp z
      subst z2
      exact ⟨o, ho, fun v q => by rw [hd] at q; cases q⟩
  keep := fun i h h' st k => by
    obtain ⟨⟨old, he⟩, hi, hne⟩ := st
    exact ⟨⟨old, k e List.mem_cons_self _ he⟩, hi.at fun o q => k it (List.mem_cons_of_mem _ List.mem_cons_self) o q, hne⟩
  item := by
    intro X hP hw hK hc i pins s σ H E I hf st hg
    subst hP hw hK
    obtain ⟨⟨old, he⟩, hit, hne⟩ := st
    obtain ⟨xs, x, hq, hx⟩ := hg
    obtain ⟨its, rv, p, hz⟩ := I.tuple hq
    obtain ⟨u, hu, ru⟩ := rv.get hx
    have hel : e < s.heap.objs.size := Heap.lt_size he
    obtain ⟨oi, hoi, hci, hdi⟩ := id hit
    have hil : it < s.heap.objs.size := Heap.lt_size hoi
    have hea : e ≠ a := apart1 p he (by simp)
    have hia : it ≠ a := apart1 p hoi (by rw [hci]; simp)
    have hlt : i < its.toArray.size := by
      have := (List.getElem?_eq_some_iff.mp hu).1
      simpa using this
    refine wpAny_pyNext_enum_itemD (Draws.tuple (show X.A.in1.handled = none from I.ok.hd hc) it a (Ne.symm hia) its.toArray) he ⟨hit, p⟩ hlt hne (by simp [hne, hea]) fun y h' tk hPy ho hst hT hsz hk => ?_
    have hyu : y = u := by
      have e1 : its.toArray[i]? = some y := hPy
      rw [List.getElem?_toArray, hu] at e1
      exact (Option.some.inj e1).symm
    subst hyu
    refine ⟨_, rfl, wpAny_letOwnedTupleGo_enum (s := { s with heap := h', toks := tk + 1 }) ho fun h'' he' sb => ?_⟩
    have hT2 : h''.get? s.heap.objs.size = some { cls := .type "tuple", data := .seq #[.int i tk, y] } := (sb.2 _ (Nat.ne_of_gt hel)).trans hT
    have new : ObjOk X.prog X.w (upd H s.heap.objs.size (.tup [.int (i : Nat), x])) h'' s.heap.objs.size (.tup [.int (i : Nat), x]) :=
      ⟨by show 2 ≤ sizeLine; decide, [.int i tk, y], .cons ⟨_, rfl⟩ (.cons ru .nil), ⟨_, hT2, rfl, _, rfl⟩⟩
    have I1 : Inv X pins σ (upd H s.heap.objs.size (.tup [.int (i : Nat), x])) { s with heap := h'', toks := tk + 1 } :=
      I.turnedNew (ch := [e, it]) (fun b ob hb q => (sb.2 b (fun z => hb (by simp [z]))).trans (hk b ob (fun z => hb (by simp [z])) (fun z => hb (by simp [z])) q)) hf (Nat.le_refl _) new
    have e1 : ((i + 1 : Nat) : Int) = (i : Int) + 1 := by omega
    refine ⟨.ref s.heap.objs.size, _, I1, rfl, ⟨_, x, rfl, I.hok.fresh (Nat.le_refl _), rfl, fun ys hy => by rw [I.tuple_inj hy hq]; exact hx⟩, ⟨⟨y, by rw [e1]; exact he'⟩, hst.1.at fun o q => (sb.2 it (Ne.symm hne)).trans q, hne⟩, fun b hb => ?_⟩
    have hb' : b < s.heap.objs.size := by
      rcases List.mem_cons.mp hb with z | z
      · rw [z]; exact hel
      · rw [List.mem_singleton.mp z]; exact hil
    rw [upd_ne (Nat.ne_of_lt hb')]
    exact (hf b hb).1
  done := by
    intro X hP hw hK hc i pins s σ H E I hf st hg
    subst hP hw hK
    obtain ⟨⟨old, he⟩, hit, hne⟩ := st
    obtain ⟨xs, hq, hx⟩ := hg
    obtain ⟨its, rv, p, hz⟩ := I.tuple hq
    have hh : X.A.in1.handled = none := I.ok.hd hc
    have hl := rv.length
    have hnone : its.toArray[i]? = none := by
      rw [List.getElem?_toArray]
      exact List.getElem?_eq_none (by omega)
    have D : Draws X.prog X.w X.A.in1 it [it, a] i (fun _ _ => True) (fun j h => j = i ∧ h.IsTupleIter it a i ∧ h.IsTuple a its.toArray) :=
      { live := fun _ _ st => let ⟨_, ⟨o, ho, _⟩, _⟩ := st; ⟨o, ho⟩
        frame := fun _ _ _ st hk => ⟨st.1, st.2.1.at fun o e => hk it List.mem_cons_self o e, st.2.2.at fun o e => hk a (List.mem_cons_of_mem _ List.mem_cons_self) o e⟩
        item := fun j s Q E hj st _ => absurd st.1 (Nat.ne_of_lt hj)
        done := fun s Q E st hE => wpAny_nextOf_tuple_end hh st.2.1 st.2.2 hnone hE }
    obtain ⟨f0, f1, f2, f3, f4, f5⟩ := hf it (List.mem_cons_of_mem _ List.mem_cons_self)
    exact wpAny_pyNext_enum_endD D he ⟨rfl, hit, p⟩ fun h' eb => ⟨rfl, I.turned (t' := s.toks) (fun b o hb q => eb b o hb q) f0 f1 f3 f4 f5⟩
  self := fun A i s Q E st h => let ⟨⟨_, he⟩, _⟩ := st; wpAny_pyIter_enum he h
def iEnumT (K : PySem.W.Frag) (ta : TA) : TI := fun σ H R => ta σ H fun vs H1 => ∃ a xs, vs = [.ref a] ∧ SqT K H1 a xs ∧ R (IteT K a) H1
theorem pi_enumT {X : Cx} {e : Expr} {ta : TA} {p pos tpos : Pos} {elts : List Expr} {kk : Nat} (hg : Gl X "enumerate") (hm : X.mg "enumerate" = none) (ha : PA X [e] ta) (hs : starEach [e] X.env = [(false, eval e X.env)] := by rfl) :
    PI X (.Tuple elts kk tpos) (.Call (.Name "enumerate" p) [e] [] pos) (iEnumT X.K ta) := by
  constructor
  intro pins s σ H R I h
  refine Call_ (ld_blt I hg hm boot_enumerate (PyProof.Rows.callWith_type1 (thn (ha.run pos pins s σ H _ I h) fun us s1 got => ?_) hs rfl))
  obtain ⟨vs, H1, I1, r1, a, xs, rfl, hq, q⟩ := got
  obtain ⟨u, rfl, ru⟩ := vals1 r1
  obtain rfl : u = Value.ref a := ru
  obtain ⟨its, rv, pt, hz⟩ := I1.tuple hq
  refine ax_enumCall (begins_tuple a its.toArray) pt fun h' he hi hk => wpAny_pyIter_enum he ?_
  have I2 : Inv X pins σ H1 { s1 with heap := h' } := I1.kept (t' := s1.toks) hk
  refine ⟨s1.heap.objs.size + 1, [s1.heap.objs.size + 1, s1.heap.objs.size], _, _, H1, rfl, I2, turn_enumT a (s1.heap.objs.size + 1) s1.heap.objs.size, ⟨⟨.none, he⟩, ⟨_, hi, rfl, rfl⟩, Nat.succ_ne_self _⟩, fun b hb => ?_, q⟩
  have hle : s1.heap.objs.size ≤ b := by
    rcases List.mem_cons.mp hb with z | z
    · rw [z]; exact Nat.le_add_right _ _
    · rw [List.mem_singleton.mp z]; exact Nat.le_refl _
  exact I1.fpOk hle (I1.hok.fresh hle)
theorem walk_enumT {K : PySem.W.Frag} {a : Addr} {xs : List V} : Walk (IteT K a) xs.length (fun H => SqT K H a xs) (YPair (fun i => some (.int (i : Nat))) (fun i => xs[i]?)) := by
  refine ⟨fun i _ hi q => ⟨xs, xs[i], q, List.getElem?_eq_getElem hi⟩, fun _ q => ⟨xs, q, Nat.le_refl _⟩, fun i H v H' _ q y => ?_⟩
  obtain ⟨T, x, h1, h2, h3, h4⟩ := y
  exact ⟨T, _, x, h1, h2, h3, rfl, h4 xs q⟩
/-! ### xs.extend(t) -/
def rExtT : V → List V → Hp → VK → Prop := fun x vs H Q => ∃ (l b : Addr) (xs zs : List V) (ob : Obj), x = .ref l ∧ vs = [.ref b] ∧ H l = some (.lst xs) ∧ H b = some (.frz ob (.tup zs)) ∧ ob.cls = .type "tuple" ∧ (ob.dict = none ∧ ob.slots = #[]) ∧ xs.length + zs.length ≤ sizeLine ∧ Q .non (upd H l (.lst (xs ++ zs)))
theorem mt_extendT {X : Cx} : MtM X "list.extend" rExtT := by
  intro pins s σ H x vs v us Q I rx rv h
  obtain ⟨l, b, xs, zs, ob, rfl, rfl, hH, hB, hc, ⟨hd, hs⟩, hz, q⟩ := h
  cases rx
  obtain ⟨u, rfl, ru⟩ := rv.one
  cases ru
  obtain ⟨z, its, n, r, hl, e⟩ := I.lstM hH
  obtain ⟨e2, z2, its2, r2, ob2, e3, hc2, n2, hd2⟩ := I.hok b _ hB
  rw [e2] at e3
  cases Option.some.inj e3
  have l1 := r.length
  have l2 := r2.length
  have eo : ob = { cls := .type "tuple", dict := none, data := .seq its2.toArray n2, slots := #[] } := by
    obtain ⟨oc, od, dt, sl⟩ := ob
    dsimp only at hc hd hs hd2
    rw [hc, hd, hs, hd2]
  rw [eo] at e2
  have hsz : its.toArray.size + its2.toArray.size ≤ sizeLine := by
    rw [List.size_toArray, List.size_toArray]
    omega
  have few : ¬ (!its.toArray.isEmpty && Builtin.List.listTooLong (its.toArray.size + its2.toArray.size)) = true := by
    rw [notLongL hsz, Bool.and_false]
    exact Bool.false_ne_true
  refine call_meets F.slot_list_extend ⟨_, e, rfl⟩ F.entry_list_extend (F.args_list_extend_2 _ _) (AutoSeq1.list_extend_list_tuple_0 l its.toArray n b its2.toArray n2 few (by omega) (by omega)) ⟨e, e2, ?_⟩
  refine ⟨.non, _, I.lset (its' := its ++ its2) hH e (by simp) (r.append r2) ?_, rfl, q⟩
  rw [List.length_append]
  omega
end Ax
set_option maxHeartbeats 4000000
/-! == of two tuples whose items are compared by promises of any answer. -/
namespace Ax
open PySem PySem.SeqAt
open AutoSeq1 (wpAny_loadPart')
section
variable {prog : Program} {w : World} {A : Around} {R : Result → Shared → Prop}
/-- I i: the first i pairs are equal; J: a pair was not -/
theorem tuple_any (l b : Addr) (items items2 : Array Value) (n n2 : Nat) (dd dd2 : Option Addr) (sl sl2 : Array (Option Value)) (I : Nat → Shared → Prop) (J : Shared → Prop)
    (turn : ∀ i (h1 : i < items.size) (h2 : i < items2.size) s, I i s → wpAny (model prog w) A.in1 (eqBool items[i] items2[i]) (fun r s' => (r = true ∧ I (i + 1) s') ∨ (r = false ∧ J s')) (fun e s' => R (.error e) s') s)
    (fin : ∀ s, I (min items.size items2.size) s → R (.ok (.ret (.bool (items.size == items2.size)))) s) (no : ∀ s, J s → R (.ok (.ret (.bool false))) s) {s : Shared}
    (hl1 : s.heap.get? l = some { cls := .type "tuple", dict := dd, data := .seq items n, slots := sl }) (hb1 : s.heap.get? b = some { cls := .type "tuple", dict := dd2, data := .seq items2 n2, slots := sl2 }) (h0 : I 0 s) :
    wpAny (model prog w) A.in1 (Builtin.«tuple.__eq__» ⟨[.ref l, .ref b], []⟩) (GQ.FinOf prog w A R) (fun e s' => R (.error e) s') s := by
  have f2 := AutoSeq1.sub_tuple_tuple
  have hZ : (items.toList.zip items2.toList).length = min items.size items2.size := by simp
  have start := h0
  obtain ⟨hp, g, d, tk, os⟩ := s
  wp_walk using wpAny_loadPart' hl1, wpAny_loadPart' hb1, wpAny_forIn_list _ (fun rest c s' => c.1 = none ∧ ∃ i, rest = (items.toList.zip items2.toList).drop i ∧ i ≤ min items.size items2.size ∧ I i s') _
  case turn =>
    rintro ⟨y, x⟩ rest c s' ⟨hc, i, hz, hi, hI⟩
    have hlt : i < (items.toList.zip items2.toList).length := by
      by_cases q : i < (items.toList.zip items2.toList).length
      · exact q
      · rw [List.drop_of_length_le (Nat.le_of_not_lt q)] at hz
        cases hz
    have hm : i < min items.size items2.size := hZ ▸ hlt
    have h1 : i < items.size := by omega
    have h2 : i < items2.size := by omega
    rw [List.drop_eq_getElem_cons hlt] at hz
    injection hz with hyx hrest
    have hy : y = items[i] := by simpa using congrArg Prod.fst hyx
    have hx : x = items2[i] := by simpa using congrArg Prod.snd hyx
    subst hy hx
    refine wpAny_bind (wpAny_mono (turn i h1 h2 s' hI) (fun r s2 q2 => ?_) fun _ _ z => z)
    rcases q2 with ⟨hr, q2⟩ | ⟨hr, q2⟩
    · subst hr
      wp_walk
      exact ⟨rfl, i + 1, hrest, hm, q2⟩
    · subst hr
      have hR := no s2 q2
      obtain ⟨hp2, g2, d2, tk2, os2⟩ := s2
      wp_walk
      exact hR
  case fin =>
    rintro ⟨c1, c2⟩ s' ⟨hc, i, hz, hi, hI⟩
    simp only at hc
    subst hc
    have hge : min items.size items2.size ≤ i := by
      by_cases q : i < (items.toList.zip items2.toList).length
      · rw [List.drop_eq_getElem_cons q] at hz
        cases hz
      · rw [hZ] at q
        omega
    have hi' : i = min items.size items2.size := by omega
    have hR := fin s' (hi' ▸ hI)
    wp_walk
    simpa [Builtin.Tuple.tupleCompareSizes] using hR
  case h =>
    exact ⟨rfl, 0, rfl, Nat.zero_le _, start⟩
end
end Ax
set_option maxHeartbeats 4000000
/-! == with either answer: flat values, tuples, instances with an own __eq__. -/
namespace Ax
open PySem PySem.Spec PyProof.Rows L2
abbrev Eqb := V → V → Bool → Hp → Prop
def MonB (D : Eqb) : Prop := ∀ x y k H H', Ext H H' → D x y k H → D x y k H'
def EqB (X : Cx) (n : Nat) (D : Eqb) : Prop := ∀ (A : Around) (pins : List (Addr × Obj)) (s : Shared) (σ : L2.St) (H : Hp) (x y : V) (u v : Value) (k : Bool), L2.Sub X n A → Inv X pins σ H s → RelV x u → RelV y v → D x y k H →
  wpAny (model X.prog X.w) A (eqBool u v) (fun r s' => r = k ∧ LoopI X pins σ H s') X.xe s
def RcB (X : Cx) (n : Nat) (D : Eqb) : Prop := ∀ (A : Around) (pins : List (Addr × Obj)) (s : Shared) (σ : L2.St) (H : Hp) (x y : V) (u v : Value) (k : Bool), L2.Sub X n A → Inv X pins σ H s → RelV x u → RelV y v → D x y k H →
  wpAny (model X.prog X.w) A (richCompare .Eq u v) (fun r s' => r = .bool k ∧ LoopI X pins σ H s') X.xe s
section
variable {X : Cx} {n m : Nat} {D D' : Eqb}
theorem EqB.mono (h : EqB X n D) (hn : n ≤ m) : EqB X m D := fun A pins s σ H x y u v k sb => h A pins s σ H x y u v k (sb.mono hn)
theorem EqB.or (h : EqB X n D) (h' : EqB X n D') : EqB X n (fun x y k H => D x y k H ∨ D' x y k H) := fun A pins s σ H x y u v k sb I rx ry d =>
  d.elim (h A pins s σ H x y u v k sb I rx ry) (h' A pins s σ H x y u v k sb I rx ry)
def DFlatB : Eqb := fun x y k _ => flatV x = true ∧ flatV y = true ∧ eqV x y = k
theorem monB_flat : MonB DFlatB := fun _ _ _ _ _ _ d => d
theorem eqB_flat : EqB X 0 DFlatB := by
  intro A pins s σ H x y u v k sb I rx ry d
  obtain ⟨fx, fy, rfl⟩ := d
  exact eqAt_V (A := A) (s := s) rx ry fx fy X.prog X.w X.xe _ ⟨rfl, H, I, Ext.rfl'⟩
/-- two tuples: f tells each pair's answer -/
def DTupB (K : PySem.W.Frag) (D : Eqb) : Eqb := fun x y k H => ∃ (a b : Addr) (xs ys : List V) (f : Nat → Bool), x = .ref a ∧ y = .ref b ∧ SqT K H a xs ∧ SqT K H b ys ∧ (∀ i u v, xs[i]? = some u → ys[i]? = some v → D u v (f i) H) ∧
  k = ((xs.length == ys.length) && (List.range (min xs.length ys.length)).all f)
theorem monB_tup {K : PySem.W.Frag} (hD : MonB D) : MonB (DTupB K D) := fun x y k H H' e d => by
  obtain ⟨a, b, xs, ys, f, hx, hy, h1, h2, p, q⟩ := d
  exact ⟨a, b, xs, ys, f, hx, hy, h1.ext e, h2.ext e, fun i u v g1 g2 => hD _ _ _ _ _ e (p i u v g1 g2), q⟩
theorem rcB_tup (hD : MonB D) (h : EqB X n D) : RcB X (n + 1) (DTupB X.K D) := by
  intro A pins s σ H x y u v k sb I rx ry d
  obtain ⟨a, b, xs, ys, f, rfl, rfl, ha, hb, p, hk⟩ := d
  cases rx
  cases ry
  obtain ⟨its, r, e, z⟩ := I.tuple ha
  obtain ⟨its2, r2, e2, z2⟩ := I.tuple hb
  have l1 := r.length
  have l2 := r2.length
  obtain ⟨⟨cls, dd, data, sl⟩, ho, hc, n1, hd⟩ := id e
  obtain ⟨⟨cls2, dd2, data2, sl2⟩, ho2, hc2, n2, hd2⟩ := id e2
  simp only at hc hd hc2 hd2
  subst hc hd hc2 hd2
  have hmin : min its.toArray.size its2.toArray.size = min xs.length ys.length := by simp only [List.size_toArray]; omega
  refine wpAny_richCompare_same_room (op := .Eq) ⟨_, ho, rfl⟩ ⟨_, ho2, rfl⟩ F.slot_tuple_eq (GQ.call_here F.slot_tuple_eq ⟨_, ho, rfl⟩ F.entry_tuple_eq (F.args_tuple_eq_2 _ _) ?_) sb.room.units0
  refine tuple_any (R := wants (fun v s' => v ≠ .notImplemented ∧ v = .bool k ∧ LoopI X pins σ H s') X.xe) a b its.toArray its2.toArray n1 n2 dd dd2 sl sl2 (fun i s' => LoopI X pins σ H s' ∧ ∀ j, j < i → f j = true) (fun s' => LoopI X pins σ H s' ∧ ∃ j, j < min xs.length ys.length ∧ f j = false) ?_ ?_ ?_ ho ho2 ⟨⟨H, I, Ext.rfl'⟩, fun j hj => absurd hj (Nat.not_lt_zero _)⟩
  · rintro i h1 h2 s1 ⟨⟨H1, I1, e1⟩, hf⟩
    have k1 : i < xs.length := by rw [l1]; simpa using h1
    have k2 : i < ys.length := by rw [l2]; simpa using h2
    obtain ⟨u, hu, ru⟩ := r.get (List.getElem?_eq_getElem k1)
    obtain ⟨v, hv, rv⟩ := r2.get (List.getElem?_eq_getElem k2)
    have g1 : its.toArray[i] = u := by
      have q : its[i]? = some its.toArray[i] := by rw [List.getElem?_eq_getElem (by simpa using h1)]; simp
      exact Option.some.inj (q.symm.trans hu)
    have g2 : its2.toArray[i] = v := by
      have q : its2[i]? = some its2.toArray[i] := by rw [List.getElem?_eq_getElem (by simpa using h2)]; simp
      exact Option.some.inj (q.symm.trans hv)
    rw [g1, g2]
    refine wpAny_mono (h A.in1 pins s1 σ H1 _ _ u v (f i) sb.in1 I1 ru rv (hD _ _ _ _ _ e1 (p i _ _ (List.getElem?_eq_getElem k1) (List.getElem?_eq_getElem k2)))) (fun rr s2 q => ?_) fun _ _ z => z
    obtain ⟨hr, H2, I2, e2⟩ := q
    have L2' : LoopI X pins σ H s2 := ⟨H2, I2, e1.trans e2⟩
    cases hfi : f i with
    | true =>
      refine .inl ⟨hr.trans hfi, L2', fun j hj => ?_⟩
      by_cases c : j < i
      · exact hf j c
      · have : j = i := by omega
        rw [this]
        exact hfi
    | false => exact .inr ⟨hr.trans hfi, L2', i, by omega, hfi⟩
  · rintro s1 ⟨L1, hf⟩
    rw [hmin] at hf
    have ek : (its.toArray.size == its2.toArray.size) = k := by
      have e1 : (List.range (min xs.length ys.length)).all f = true := List.all_eq_true.mpr fun j hj => hf j (List.mem_range.mp hj)
      rw [hk, e1, Bool.and_true, List.size_toArray, List.size_toArray, ← l1, ← l2]
    rw [ek]
    exact ⟨(fun z => nomatch z), rfl, L1⟩
  · rintro s1 ⟨L1, j, hj, hfj⟩
    have ek : k = false := by
      have e1 : (List.range (min xs.length ys.length)).all f = false := by
        rw [List.all_eq_false]
        exact ⟨j, List.mem_range.mpr hj, by rw [hfj]; decide⟩
      rw [hk, e1, Bool.and_false]
    rw [ek]
    exact ⟨(fun z => nomatch z), rfl, L1⟩
/-- instances of the class at C -/
def DInsB (C : Addr) (R : Addr → Addr → Bool → Hp → Prop) : Eqb := fun x y k H => ∃ a b dx dy fs gs, x = .ref a ∧ y = .ref b ∧ H a = some (.ins C dx fs) ∧ H b = some (.ins C dy gs) ∧ R a b k H
theorem monB_ins {C : Addr} {R : Addr → Addr → Bool → Hp → Prop} (hR : ∀ a b k H H', Ext H H' → R a b k H → R a b k H') : MonB (DInsB C R) := fun x y k H H' e d => by
  obtain ⟨a, b, dx, dy, fs, gs, hx, hy, h1, h2, r⟩ := d
  exact ⟨a, b, dx, dy, fs, gs, hx, hy, e _ _ h1, e _ _ h2, hR a b k H H' e r⟩
def spEqB (R : Addr → Addr → Bool → Hp → Prop) : Sp := fun vs H Q _ => ∃ a b k, vs = [.ref a, .ref b] ∧ R a b k H ∧ ∀ H', Ext H H' → Q (.bl k) H'
theorem rcB_ins {CX : CXT} {C f : Addr} {fd : FuncData} {ps : List Str} {R : Addr → Addr → Bool → Hp → Prop} {E : XK} (F : FnOk X.prog X.w X.K X.mg X.base CX n f fd ps (spEqB R)) (c : EqC X.K C f) (hb : Binds X.K fd ps []) (hx : Passes CX X E) : RcB X n (DInsB C R) := by
  intro A pins s σ H x y u v k sb I rx ry d
  obtain ⟨a, b, dx, dy, fs, gs, rfl, rfl, ha, hb', hr⟩ := d
  obtain rfl : u = Value.ref a := rx
  obtain rfl : v = Value.ref b := ry
  obtain ⟨m1, J, _⟩ := ins_get I.hok ha
  obtain ⟨m2, J', _⟩ := ins_get I.hok hb'
  obtain ⟨od, J, _⟩ := J.look
  obtain ⟨od', J', _⟩ := J'.look
  obtain ⟨m, hF⟩ := I.fr
  refine PySem.W.cmp_K (op := .Eq) sb.room.units0 hF I.ok.mod.kin J J'.type (by simp [PySem.W.notFirst]) c.eq c.fn ?_
  refine wpAny_mono (run_in (us := [.ref a, .ref b]) (vs := [V.ref a, V.ref b]) (Q := fun v H' => v = .bl k ∧ Ext H H') F hb hx sb I (.cons rfl (.cons rfl .nil)) ⟨a, b, k, rfl, hr, fun H' e => ⟨rfl, e⟩⟩) (fun w s' z => ?_) fun _ _ z => z
  obtain ⟨v, H', I', rv, ev, ex⟩ := z
  subst ev
  obtain rfl : w = Value.bool k := rv
  exact ⟨rfl, H', I', ex⟩
theorem RcB.eqB (h : RcB X n D) (hr : ∀ x y k H, D x y k H → ∃ a b, x = .ref a ∧ y = .ref b ∧ (a = b → k = true)) : EqB X n D := by
  intro A pins s σ H x y u v k sb I rx ry d
  obtain ⟨a, b, rfl, rfl, hs⟩ := hr _ _ _ _ d
  obtain rfl : u = Value.ref a := rx
  obtain rfl : v = Value.ref b := ry
  by_cases hab : a = b
  · subst hab
    rw [hs rfl]
    exact SeqAt.EqAt.same (A := A) (s := s) (.ref a) X.prog X.w X.xe _ ⟨rfl, H, I, Ext.rfl'⟩
  · exact GQ.eqBool_refG hab (wpAny_mono (h A pins s σ H (.ref a) (.ref b) _ _ k sb I rfl rfl d) (fun r s' q => ⟨k, q.1, rfl, q.2⟩) fun _ _ z => z)
def rEqB (D : Eqb) : R2 := fun x y H Q => ∃ k, D x y k H ∧ ∀ H', Ext H H' → Q (.bl k) H'
theorem op_eqB (h : RcB X n D) (hr : Room n X.A) : OpR X (compareOp .Eq) (rEqB D) := by
  intro pins s σ H x y v u Q I rx ry hq
  obtain ⟨k, d, q⟩ := hq
  show wpAny (model X.prog X.w) X.A (richCompare .Eq v u) (EP X pins σ Q) X.xe s
  refine wpAny_mono (h X.A pins s σ H x y v u k ⟨hr, rfl⟩ I rx ry d) (fun r s' z => ?_) fun _ _ z => z
  obtain ⟨hr', H', I', e⟩ := z
  exact ⟨.bl k, H', I', hr', q H' e⟩
end
end Ax
set_option maxHeartbeats 2000000
/-! A Hook: facts by names, defs, one more Bool, over what the names reach and the interpreter's statics. -/
namespace Ax
open PySem PySem.Spec PyProof.Rows L2 He
def asY (g : Addr → Option Obj) (n : Nat) : List Addr := asD g n ++ [cStatics]
def SaysY (fa : List Fa) (fn : List DefD) (ex : PySem.W.Frag → Bool) (K : PySem.W.Frag) : Prop := SaysD fa fn K ∧ ex K = true
abbrev AlY : Type := AlD × Bool
def obsY (n : Nat) (fa : List Fa) (fn : List DefD) (ex : PySem.W.Frag → Bool) (g : Addr → Option Obj) : AlY := (obsD fa fn (frG g (asY g n)), ex (frG g (asY g n)))
def valY (fn : List DefD) : AlY := (valD fn, true)
def hookY (n : Nat) (fa : List Fa) (fn : List DefD) (ex : PySem.W.Frag → Bool) : PySem.W.Hook where
  α := AlY
  obs := fun s => obsY n fa fn ex s.heap.get?
  val := fun _ => valY fn
  says := fun _ h => ∃ K : PySem.W.Frag, K.In h ∧ SaysY fa fn ex K
  of := fun _ _ e => ⟨_, frG_in, congrArg (fun z : AlY => z.1) e, congrArg (fun z : AlY => z.2) e⟩
  keeps := fun _ _ _ ⟨K, hK, c⟩ k => ⟨K, PySem.W.Frag.In.keeps hK k, c⟩
theorem obsY_eq {n : Nat} {fa : List Fa} {fn : List DefD} {ex : PySem.W.Frag → Bool} {g : Addr → Option Obj} {s : Shared} (h : ∀ a, g a = s.heap.get? a) : obsY n fa fn ex g = (hookY n fa fn ex).obs s := by
  have e : g = s.heap.get? := funext h
  rw [e] <;> rfl
end Ax
set_option maxHeartbeats 1000000
/-! A head that also tells of getters of properties. -/
namespace Ax
open PySem PySem.Spec PyProof.Rows L2 He
/-- the getter's function of the property f of the class C -/
def gAd (K : PySem.W.Frag) (C : Addr) (f : Str) : Addr := match PySem.W.recIn K (ma K C f) "property" with
  | some (.ref g :: _) => g
  | _ => 0
def propB (K : PySem.W.Frag) (C : Addr) (f : Str) : Bool := decide (PySem.W.findIn K (.ref C) f = some (some (.ref (ma K C f)))) && (decide (PySem.W.specialIn K (.ref (ma K C f)) "__get__" = some (some (.builtin "property.__get__"))) &&
  (decide (PySem.W.takesIn K (.ref (ma K C f)) = some true) && (match PySem.W.recIn K (ma K C f) "property" with
    | some (.ref _ :: _) => true
    | _ => false)))
theorem propB_ok {K : PySem.W.Frag} {C : Addr} {f : Str} (h : propB K C f = true) : PropOf K C f (ma K C f) (gAd K C f) := by
  obtain ⟨h1, h⟩ := Bool.and_eq_true_iff.mp h
  obtain ⟨h2, h⟩ := Bool.and_eq_true_iff.mp h
  obtain ⟨h3, h⟩ := Bool.and_eq_true_iff.mp h
  refine ⟨of_decide_eq_true h1, of_decide_eq_true h2, of_decide_eq_true h3, ?_⟩
  unfold gAd
  split at h
  · rename_i g rest q
    rw [q]
    exact ⟨rest, rfl⟩
  · cases h
/-- what stands at an address, as a def -/
def seenAt (K : PySem.W.Frag) (a : Addr) : FnW := match K.lookup a with
  | some ⟨_, _, .func fd, _⟩ => some (fd.name, fd.qualname, fd.params, fd.body, fd.scope, fd.globals, fd.closure, fd.builtins)
  | _ => none
def wellAt (K : PySem.W.Frag) (a : Addr) (qual : Str) : Bool := PySem.W.keepIn K (.ref a) && (match K.lookup a with
  | some ⟨_, _, .func fd, _⟩ => PySem.W.codeIn K fd.code qual && (dflB K fd.defaults [] && kwdB K fd.kwdefaults [])
  | _ => false)
theorem funD_at {K : PySem.W.Frag} {a : Addr} {d : DefD} (e : seenAt K a = d.val) (c : wellAt K a d.qual = true) : ∃ fd, FunD K d.name d.qual d.params d.body d.scope [] [] a fd := by
  obtain ⟨kp, c2⟩ := Bool.and_eq_true_iff.mp c
  unfold seenAt at e
  cases q : K.lookup a with
  | none =>
    rw [q] at c2
    cases c2
  | some o =>
    obtain ⟨oc, od, dt, osl⟩ := o
    rw [q] at c2 e
    cases dt with
    | func fd =>
      obtain ⟨n1, n2, n3, n4, n5, n6, n7, n8, n9, n10, n11, n12, n13, n14, n15⟩ := fd
      have e2 : (some (n1, n2, n3, n4, n5, n6, n7, n15) : FnW) = some (d.name, d.qual, d.params, .stmts d.body, d.scope, mainGlobals, [], builtinsNs) := e
      simp only [Option.some.injEq, Prod.mk.injEq] at e2
      obtain ⟨h1, h2, h3, h4, h5, h6, h7, h8⟩ := e2
      subst h1 h2 h3 h4 h5 h6 h7 h8
      have c3 : (PySem.W.codeIn K n13 d.qual && (dflB K n8 [] && kwdB K n9 [])) = true := c2
      obtain ⟨k1, k2⟩ := Bool.and_eq_true_iff.mp c3
      obtain ⟨k3, k4⟩ := Bool.and_eq_true_iff.mp k2
      exact ⟨_, ⟨oc, od, n8, n9, n10, n11, n12, n13, n14, osl, rfl, q, k1, dflB_ok k3, kwdB_ok k4⟩, kp⟩
    | _ => cases c2
/-- getters: a class's global name, the property, the getter's def -/
abbrev Gs : Type := List (Str × Str × DefD)
def getW (K : PySem.W.Frag) (gs : Gs) : List FnW := gs.map fun p => seenAt K (gAd K (ga K p.1) p.2.1)
def getV (gs : Gs) : List FnW := gs.map fun p => p.2.2.val
def getB (K : PySem.W.Frag) (gs : Gs) : Bool := gs.all fun p => propB K (ga K p.1) p.2.1 && wellAt K (gAd K (ga K p.1) p.2.1) p.2.2.qual
def SaysP (fa : List Fa) (fn : List DefD) (ex : PySem.W.Frag → Bool) (gs : Gs) (K : PySem.W.Frag) : Prop := SaysD fa fn K ∧ ex K = true ∧ getB K gs = true ∧ getW K gs = getV gs
abbrev AlP : Type := AlD × Bool × Bool × List FnW
def obsP (n : Nat) (fa : List Fa) (fn : List DefD) (ex : PySem.W.Frag → Bool) (gs : Gs) (g : Addr → Option Obj) : AlP :=
  (obsD fa fn (frG g (asY g n)), ex (frG g (asY g n)), getB (frG g (asY g n)) gs, getW (frG g (asY g n)) gs)
def hookP (n : Nat) (fa : List Fa) (fn : List DefD) (ex : PySem.W.Frag → Bool) (gs : Gs) : PySem.W.Hook where
  α := AlP
  obs := fun s => obsP n fa fn ex gs s.heap.get?
  val := fun _ => (valD fn, true, true, getV gs)
  says := fun _ h => ∃ K : PySem.W.Frag, K.In h ∧ SaysP fa fn ex gs K
  of := fun _ _ e => ⟨_, frG_in, congrArg (fun z : AlP => z.1) e, congrArg (fun z : AlP => z.2.1) e, congrArg (fun z : AlP => z.2.2.1) e, congrArg (fun z : AlP => z.2.2.2) e⟩
  keeps := fun _ _ _ ⟨K, hK, c⟩ k => ⟨K, PySem.W.Frag.In.keeps hK k, c⟩
theorem obsP_eq {n : Nat} {fa : List Fa} {fn : List DefD} {ex : PySem.W.Frag → Bool} {gs : Gs} {g : Addr → Option Obj} {s : Shared} (h : ∀ a, g a = s.heap.get? a) : obsP n fa fn ex gs g = (hookP n fa fn ex gs).obs s := by
  have e : g = s.heap.get? := funext h
  rw [e] <;> rfl
/-- a property's getter, of such a head -/
theorem SaysP.getter {fa : List Fa} {fn : List DefD} {ex : PySem.W.Frag → Bool} {gs : Gs} {K : PySem.W.Frag} (c : SaysP fa fn ex gs K) (i : Nat) {C f : Str} {d : DefD} (h : gs[i]? = some (C, f, d) := by rfl) :
    PropOf K (ga K C) f (ma K (ga K C) f) (gAd K (ga K C) f) ∧ ∃ fd, FunD K d.name d.qual d.params d.body d.scope [] [] (gAd K (ga K C) f) fd := by
  obtain ⟨_, _, h1, h2⟩ := c
  have b := List.all_eq_true.mp h1 _ (List.mem_of_getElem? h)
  obtain ⟨b1, b2⟩ := Bool.and_eq_true_iff.mp b
  have e2 : (getW K gs)[i]? = (getV gs)[i]? := by rw [h2]
  unfold getW getV at e2
  rw [List.getElem?_map, List.getElem?_map, h] at e2
  exact ⟨propB_ok b1, funD_at (Option.some.inj e2) b2⟩
end Ax
set_option maxHeartbeats 0
/-! The head of k01: what stands where. -/
namespace K01
open PySem PySem.Spec PyProof.Rows L2
def top (i : Nat) : Stmt := PySem.Challenge.pw_askedtrue_k01_whole_forebears_by_own_wal.main.body.getD i (.Pass ⟨0, 0, 0, 0⟩)
abbrev s_AskedError_init : Stmt := inClass (top 1) 0
def d_AskedError_init : He.DefD := ⟨("AskedError", some "__init__"), "__init__", "AskedError.__init__", defArgs s_AskedError_init, defBody s_AskedError_init, defScope s_AskedError_init, [], []⟩
abbrev n_AskedError_init : List Str := ["self", "told"]
theorem sc_AskedError_init : FnScope n_AskedError_init ["self", "told"] (defScope s_AskedError_init) := ⟨rfl, rfl, rfl, by decide +kernel, rfl, by decide +kernel, by decide +kernel⟩
abbrev s_BadOrder_init : Stmt := inClass (top 2) 0
def d_BadOrder_init : He.DefD := ⟨("BadOrder", some "__init__"), "__init__", "BadOrder.__init__", defArgs s_BadOrder_init, defBody s_BadOrder_init, defScope s_BadOrder_init, [], []⟩
abbrev n_BadOrder_init : List Str := ["self", "what", "name"]
theorem sc_BadOrder_init : FnScope n_BadOrder_init ["self", "what", "name"] (defScope s_BadOrder_init) := ⟨rfl, rfl, rfl, by decide +kernel, rfl, by decide +kernel, by decide +kernel⟩
abbrev s_is_whole : Stmt := top 11
def d_is_whole : He.DefD := ⟨("is_whole", none), "is_whole", "is_whole", defArgs s_is_whole, defBody s_is_whole, defScope s_is_whole, [], []⟩
abbrev n_is_whole : List Str := ["thing"]
theorem sc_is_whole : FnScope n_is_whole ["thing"] (defScope s_is_whole) := ⟨rfl, rfl, rfl, by decide +kernel, rfl, by decide +kernel, by decide +kernel⟩
abbrev s_is_between : Stmt := top 12
def d_is_between : He.DefD := ⟨("is_between", none), "is_between", "is_between", defArgs s_is_between, defBody s_is_between, defScope s_is_between, [], []⟩
abbrev n_is_between : List Str := ["thing", "least", "most"]
theorem sc_is_between : FnScope n_is_between ["thing", "least", "most"] (defScope s_is_between) := ⟨rfl, rfl, rfl, by decide +kernel, rfl, by decide +kernel, by decide +kernel⟩
abbrev s_is_name : Stmt := top 13
def d_is_name : He.DefD := ⟨("is_name", none), "is_name", "is_name", defArgs s_is_name, defBody s_is_name, defScope s_is_name, [], []⟩
abbrev n_is_name : List Str := ["thing", "sign"]
theorem sc_is_name : FnScope n_is_name ["thing"] (defScope s_is_name) := ⟨rfl, rfl, rfl, by decide +kernel, rfl, by decide +kernel, by decide +kernel⟩
abbrev s_Event_init : Stmt := inClass (top 14) 0
def d_Event_init : He.DefD := ⟨("Event", some "__init__"), "__init__", "Event.__init__", defArgs s_Event_init, defBody s_Event_init, defScope s_Event_init, [.adr (He.dflAt ("Event", some "__init__") 0)], []⟩
abbrev n_Event_init : List Str := ["self", "name", "end", "kind", "needs"]
theorem sc_Event_init : FnScope n_Event_init ["self", "name", "end", "kind", "needs"] (defScope s_Event_init) := ⟨rfl, rfl, rfl, by decide +kernel, rfl, by decide +kernel, by decide +kernel⟩
abbrev s_Event_eq : Stmt := inClass (top 14) 1
def d_Event_eq : He.DefD := ⟨("Event", some "__eq__"), "__eq__", "Event.__eq__", defArgs s_Event_eq, defBody s_Event_eq, defScope s_Event_eq, [], []⟩
abbrev n_Event_eq : List Str := ["self", "other"]
theorem sc_Event_eq : FnScope n_Event_eq ["self", "other"] (defScope s_Event_eq) := ⟨rfl, rfl, rfl, by decide +kernel, rfl, by decide +kernel, by decide +kernel⟩
abbrev s_Order_init : Stmt := inClass (top 15) 0
def d_Order_init : He.DefD := ⟨("Order", some "__init__"), "__init__", "Order.__init__", defArgs s_Order_init, defBody s_Order_init, defScope s_Order_init, [], []⟩
abbrev n_Order_init : List Str := ["self", "events", "elder", "event", "word"]
theorem sc_Order_init : FnScope n_Order_init ["self", "events"] (defScope s_Order_init) := ⟨rfl, rfl, rfl, by decide +kernel, rfl, by decide +kernel, by decide +kernel⟩
abbrev s_Order_eq : Stmt := inClass (top 15) 1
def d_Order_eq : He.DefD := ⟨("Order", some "__eq__"), "__eq__", "Order.__eq__", defArgs s_Order_eq, defBody s_Order_eq, defScope s_Order_eq, [], []⟩
abbrev n_Order_eq : List Str := ["self", "other"]
theorem sc_Order_eq : FnScope n_Order_eq ["self", "other"] (defScope s_Order_eq) := ⟨rfl, rfl, rfl, by decide +kernel, rfl, by decide +kernel, by decide +kernel⟩
abbrev s_Order_iter : Stmt := inClass (top 15) 2
def d_Order_iter : He.DefD := ⟨("Order", some "__iter__"), "__iter__", "Order.__iter__", defArgs s_Order_iter, defBody s_Order_iter, defScope s_Order_iter, [], []⟩
abbrev n_Order_iter : List Str := ["self"]
theorem sc_Order_iter : FnScope n_Order_iter ["self"] (defScope s_Order_iter) := ⟨rfl, rfl, rfl, by decide +kernel, rfl, by decide +kernel, by decide +kernel⟩
abbrev s_Order_len : Stmt := inClass (top 15) 3
def d_Order_len : He.DefD := ⟨("Order", some "__len__"), "__len__", "Order.__len__", defArgs s_Order_len, defBody s_Order_len, defScope s_Order_len, [], []⟩
abbrev n_Order_len : List Str := ["self"]
theorem sc_Order_len : FnScope n_Order_len ["self"] (defScope s_Order_len) := ⟨rfl, rfl, rfl, by decide +kernel, rfl, by decide +kernel, by decide +kernel⟩
abbrev s_Order_place : Stmt := inClass (top 15) 5
def d_Order_place : He.DefD := ⟨("Order", some "place"), "place", "Order.place", defArgs s_Order_place, defBody s_Order_place, defScope s_Order_place, [], []⟩
abbrev n_Order_place : List Str := ["self", "name", "place", "event"]
theorem sc_Order_place : FnScope n_Order_place ["self", "name"] (defScope s_Order_place) := ⟨rfl, rfl, rfl, by decide +kernel, rfl, by decide +kernel, by decide +kernel⟩
abbrev s_Order_event : Stmt := inClass (top 15) 6
def d_Order_event : He.DefD := ⟨("Order", some "event"), "event", "Order.event", defArgs s_Order_event, defBody s_Order_event, defScope s_Order_event, [], []⟩
abbrev n_Order_event : List Str := ["self", "name"]
theorem sc_Order_event : FnScope n_Order_event ["self", "name"] (defScope s_Order_event) := ⟨rfl, rfl, rfl, by decide +kernel, rfl, by decide +kernel, by decide +kernel⟩
abbrev s_Order_of_end : Stmt := inClass (top 15) 7
def d_Order_of_end : He.DefD := ⟨("Order", some "of_end"), "of_end", "Order.of_end", defArgs s_Order_of_end, defBody s_Order_of_end, defScope s_Order_of_end, [], []⟩
abbrev n_Order_of_end : List Str := ["self", "end", "event"]
theorem sc_Order_of_end : FnScope n_Order_of_end ["self", "end"] (defScope s_Order_of_end) := ⟨rfl, rfl, rfl, by decide +kernel, rfl, by decide +kernel, by decide +kernel⟩
abbrev s_Order_foreign : Stmt := inClass (top 15) 8
def d_Order_foreign : He.DefD := ⟨("Order", some "foreign"), "foreign", "Order.foreign", defArgs s_Order_foreign, defBody s_Order_foreign, defScope s_Order_foreign, [], []⟩
abbrev n_Order_foreign : List Str := ["self", "name", "event", "need"]
theorem sc_Order_foreign : FnScope n_Order_foreign ["self", "name"] (defScope s_Order_foreign) := ⟨rfl, rfl, rfl, by decide +kernel, rfl, by decide +kernel, by decide +kernel⟩
abbrev s_Order_behind : Stmt := inClass (top 15) 9
def d_Order_behind : He.DefD := ⟨("Order", some "behind"), "behind", "Order.behind", defArgs s_Order_behind, defBody s_Order_behind, defScope s_Order_behind, [], []⟩
abbrev n_Order_behind : List Str := ["self", "name", "found", "event", "need"]
theorem sc_Order_behind : FnScope n_Order_behind ["self", "name"] (defScope s_Order_behind) := ⟨rfl, rfl, rfl, by decide +kernel, rfl, by decide +kernel, by decide +kernel⟩
abbrev s_Order_loose : Stmt := inClass (top 15) 10
def d_Order_loose : He.DefD := ⟨("Order", some "loose"), "loose", "Order.loose", defArgs s_Order_loose, defBody s_Order_loose, defScope s_Order_loose, [], []⟩
abbrev n_Order_loose : List Str := ["self", "name", "found", "event"]
theorem sc_Order_loose : FnScope n_Order_loose ["self", "name"] (defScope s_Order_loose) := ⟨rfl, rfl, rfl, by decide +kernel, rfl, by decide +kernel, by decide +kernel⟩
abbrev s_Order_sources : Stmt := inClass (top 15) 11
def d_Order_sources : He.DefD := ⟨("Order", some "sources"), "sources", "Order.sources", defArgs s_Order_sources, defBody s_Order_sources, defScope s_Order_sources, [], []⟩
abbrev n_Order_sources : List Str := ["self", "name", "event"]
theorem sc_Order_sources : FnScope n_Order_sources ["self", "name"] (defScope s_Order_sources) := ⟨rfl, rfl, rfl, by decide +kernel, rfl, by decide +kernel, by decide +kernel⟩
abbrev s_Order_as_kind : Stmt := inClass (top 15) 12
def d_Order_as_kind : He.DefD := ⟨("Order", some "as_kind"), "as_kind", "Order.as_kind", defArgs s_Order_as_kind, defBody s_Order_as_kind, defScope s_Order_as_kind, [], []⟩
abbrev n_Order_as_kind : List Str := ["self", "name", "kind", "place", "old", "changed"]
theorem sc_Order_as_kind : FnScope n_Order_as_kind ["self", "name", "kind"] (defScope s_Order_as_kind) := ⟨rfl, rfl, rfl, by decide +kernel, rfl, by decide +kernel, by decide +kernel⟩
abbrev s_Order_key_of : Stmt := inClass (top 15) 13
def d_Order_key_of : He.DefD := ⟨("Order", some "key_of"), "key_of", "Order.key_of", defArgs s_Order_key_of, defBody s_Order_key_of, defScope s_Order_key_of, [], []⟩
abbrev n_Order_key_of : List Str := ["self", "name", "values", "needs", "need"]
theorem sc_Order_key_of : FnScope n_Order_key_of ["self", "name", "values"] (defScope s_Order_key_of) := ⟨rfl, rfl, rfl, by decide +kernel, rfl, by decide +kernel, by decide +kernel⟩
abbrev s_Order_in_order : Stmt := inClass (top 15) 14
def d_Order_in_order : He.DefD := ⟨("Order", some "_in_order"), "_in_order", "Order._in_order", defArgs s_Order_in_order, defBody s_Order_in_order, defScope s_Order_in_order, [], []⟩
abbrev n_Order_in_order : List Str := ["self", "names", "name"]
theorem sc_Order_in_order : FnScope n_Order_in_order ["self", "names"] (defScope s_Order_in_order) := ⟨rfl, rfl, rfl, by decide +kernel, rfl, by decide +kernel, by decide +kernel⟩
abbrev s_event_fault : Stmt := top 16
def d_event_fault : He.DefD := ⟨("event_fault", none), "event_fault", "event_fault", defArgs s_event_fault, defBody s_event_fault, defScope s_event_fault, [], []⟩
abbrev n_event_fault : List Str := ["event", "elder"]
theorem sc_event_fault : FnScope n_event_fault ["event", "elder"] (defScope s_event_fault) := ⟨rfl, rfl, rfl, by decide +kernel, rfl, by decide +kernel, by decide +kernel⟩
abbrev s_are_needs : Stmt := top 17
def d_are_needs : He.DefD := ⟨("are_needs", none), "are_needs", "are_needs", defArgs s_are_needs, defBody s_are_needs, defScope s_are_needs, [], []⟩
abbrev n_are_needs : List Str := ["needs", "elder", "need"]
theorem sc_are_needs : FnScope n_are_needs ["needs", "elder"] (defScope s_are_needs) := ⟨rfl, rfl, rfl, by decide +kernel, rfl, by decide +kernel, by decide +kernel⟩
abbrev s_law_bag : Stmt := top 19
def d_law_bag : He.DefD := ⟨("_law_bag", none), "_law_bag", "_law_bag", defArgs s_law_bag, defBody s_law_bag, defScope s_law_bag, [], []⟩
abbrev n_law_bag : List Str := ["script", "cells", "cell"]
theorem sc_law_bag : FnScope n_law_bag ["script"] (defScope s_law_bag) := ⟨rfl, rfl, rfl, by decide +kernel, rfl, by decide +kernel, by decide +kernel⟩
abbrev s_law_draw : Stmt := top 20
def d_law_draw : He.DefD := ⟨("_law_draw", none), "_law_draw", "_law_draw", defArgs s_law_draw, defBody s_law_draw, defScope s_law_draw, [], []⟩
abbrev n_law_draw : List Str := ["bag", "limit", "digit", "turn", "cells", "cell", "mixed"]
theorem sc_law_draw : FnScope n_law_draw ["bag", "limit"] (defScope s_law_draw) := ⟨rfl, rfl, rfl, by decide +kernel, rfl, by decide +kernel, by decide +kernel⟩
abbrev s_law_drawn_events : Stmt := top 21
def d_law_drawn_events : He.DefD := ⟨("_law_drawn_events", none), "_law_drawn_events", "_law_drawn_events", defArgs s_law_drawn_events, defBody s_law_drawn_events, defScope s_law_drawn_events, [], []⟩
abbrev n_law_drawn_events : List Str := ["bag", "pool", "names", "turn", "events", "place", "left", "needs", "at"]
theorem sc_law_drawn_events : FnScope n_law_drawn_events ["bag"] (defScope s_law_drawn_events) := ⟨rfl, rfl, rfl, by decide +kernel, rfl, by decide +kernel, by decide +kernel⟩
abbrev s_law_event : Stmt := top 22
def d_law_event : He.DefD := ⟨("_law_event", none), "_law_event", "_law_event", defArgs s_law_event, defBody s_law_event, defScope s_law_event, [], []⟩
abbrev n_law_event : List Str := ["events", "name", "event"]
theorem sc_law_event : FnScope n_law_event ["events", "name"] (defScope s_law_event) := ⟨rfl, rfl, rfl, by decide +kernel, rfl, by decide +kernel, by decide +kernel⟩
abbrev s_law_sorted : Stmt := top 23
def d_law_sorted : He.DefD := ⟨("_law_sorted", none), "_law_sorted", "_law_sorted", defArgs s_law_sorted, defBody s_law_sorted, defScope s_law_sorted, [], []⟩
abbrev n_law_sorted : List Str := ["events", "names", "event"]
theorem sc_law_sorted : FnScope n_law_sorted ["events", "names"] (defScope s_law_sorted) := ⟨rfl, rfl, rfl, by decide +kernel, rfl, by decide +kernel, by decide +kernel⟩
abbrev s_law_loose : Stmt := top 24
def d_law_loose : He.DefD := ⟨("_law_loose", none), "_law_loose", "_law_loose", defArgs s_law_loose, defBody s_law_loose, defScope s_law_loose, [], []⟩
abbrev n_law_loose : List Str := ["events", "name", "found", "event", "need"]
theorem sc_law_loose : FnScope n_law_loose ["events", "name"] (defScope s_law_loose) := ⟨rfl, rfl, rfl, by decide +kernel, rfl, by decide +kernel, by decide +kernel⟩
abbrev s_law_chained : Stmt := top 25
def d_law_chained : He.DefD := ⟨("_law_chained", none), "_law_chained", "_law_chained", defArgs s_law_chained, defBody s_law_chained, defScope s_law_chained, [], []⟩
abbrev n_law_chained : List Str := ["events", "name", "elder", "reached", "event"]
theorem sc_law_chained : FnScope n_law_chained ["events", "name", "elder"] (defScope s_law_chained) := ⟨rfl, rfl, rfl, by decide +kernel, rfl, by decide +kernel, by decide +kernel⟩
abbrev s_law_behind : Stmt := top 26
def d_law_behind : He.DefD := ⟨("_law_behind", none), "_law_behind", "_law_behind", defArgs s_law_behind, defBody s_law_behind, defScope s_law_behind, [], []⟩
abbrev n_law_behind : List Str := ["events", "name", "found", "event", "need"]
theorem sc_law_behind : FnScope n_law_behind ["events", "name"] (defScope s_law_behind) := ⟨rfl, rfl, rfl, by decide +kernel, rfl, by decide +kernel, by decide +kernel⟩
abbrev s_law_right : Stmt := top 27
def d_law_right : He.DefD := ⟨("_law_right", none), "_law_right", "_law_right", defArgs s_law_right, defBody s_law_right, defScope s_law_right, [], []⟩
abbrev n_law_right : List Str := ["events", "order", "place", "event", "name", "due", "loose", "end", "need"]
theorem sc_law_right : FnScope n_law_right ["events", "order"] (defScope s_law_right) := ⟨rfl, rfl, rfl, by decide +kernel, rfl, by decide +kernel, by decide +kernel⟩
abbrev s_law_keys_right : Stmt := top 28
def d_law_keys_right : He.DefD := ⟨("_law_keys_right", none), "_law_keys_right", "_law_keys_right", defArgs s_law_keys_right, defBody s_law_keys_right, defScope s_law_keys_right, [], []⟩
abbrev n_law_keys_right : List Str := ["bag", "events", "order", "values", "event", "lacking", "due", "need"]
theorem sc_law_keys_right : FnScope n_law_keys_right ["bag", "events", "order"] (defScope s_law_keys_right) := ⟨rfl, rfl, rfl, by decide +kernel, rfl, by decide +kernel, by decide +kernel⟩
abbrev s_law_unknown : Stmt := top 29
def d_law_unknown : He.DefD := ⟨("_law_unknown", none), "_law_unknown", "_law_unknown", defArgs s_law_unknown, defBody s_law_unknown, defScope s_law_unknown, [], []⟩
abbrev n_law_unknown : List Str := ["order", "name", "asks", "ask", "e"]
theorem sc_law_unknown : FnScope n_law_unknown ["order", "name"] (defScope s_law_unknown) := ⟨rfl, rfl, rfl, by decide +kernel, rfl, by decide +kernel, by decide +kernel⟩
abbrev s_law : Stmt := top 30
def d_law : He.DefD := ⟨("law", none), "law", "law", defArgs s_law, defBody s_law, defScope s_law, [], []⟩
abbrev n_law : List Str := ["script", "bag", "events", "order", "event", "other", "changed", "beside", "e", "name", "end", "kind", "needs", "one"]
theorem sc_law : FnScope n_law ["script"] (defScope s_law) := ⟨rfl, rfl, rfl, by decide +kernel, rfl, by decide +kernel, by decide +kernel⟩
abbrev s_Order_names : Stmt := inClass (top 15) 4
def d_Order_names : He.DefD := ⟨("Order", some "names"), "names", "Order.names", defArgs s_Order_names, defBody s_Order_names, defScope s_Order_names, [], []⟩
abbrev n_Order_names : List Str := ["self"]
theorem sc_Order_names : FnScope n_Order_names ["self"] (defScope s_Order_names) := ⟨rfl, rfl, rfl, by decide +kernel, rfl, by decide +kernel, by decide +kernel⟩
def gs : Ax.Gs := [("Order", "names", d_Order_names)]
def fn : List He.DefD := [d_AskedError_init, d_BadOrder_init, d_is_whole, d_is_between, d_is_name, d_Event_init, d_Event_eq, d_Order_init, d_Order_eq, d_Order_iter, d_Order_len, d_Order_place, d_Order_event, d_Order_of_end, d_Order_foreign, d_Order_behind, d_Order_loose, d_Order_sources, d_Order_as_kind, d_Order_key_of, d_Order_in_order, d_event_fault, d_are_needs, d_law_bag, d_law_draw, d_law_drawn_events, d_law_event, d_law_sorted, d_law_loose, d_law_chained, d_law_behind, d_law_right, d_law_keys_right, d_law_unknown, d_law]
def fa : List He.Fa := [.glo "AskedError", .glo "BadOrder", .glo "Event", .glo "Order", .glo "KINDS", .glo "is_whole", .glo "is_between", .glo "is_name", .glo "event_fault", .glo "are_needs", .glo "_law_bag", .glo "_law_draw", .glo "_law_drawn_events", .glo "_law_event", .glo "_law_sorted", .glo "_law_loose", .glo "_law_chained", .glo "_law_behind", .glo "_law_right", .glo "_law_keys_right", .glo "_law_unknown", .glo "law", .free "isinstance", .free "int", .free "bool", .free "str", .free "len", .free "tuple", .free "all", .free "any", .free "iter", .free "range", .free "abs", .free "list", .free "enumerate", .free "reversed", .int "LONGEST_NAME" 8, .int "MOST_EVENTS" 12, .int "MOST_NEEDS" 3, .int "LAST_END" 5, .str "LETTERS" "abcdefghijklmnopqrstuvwxyz", .str "SIGNS" "abcdefghijklmnopqrstuvwxyz0123456789", .cls "Event", .cls "Order", .mkr "Event", .mkr "Order", .meth "Event" "__eq__", .meth "Order" "__eq__", .meth "Order" "__iter__", .meth "Order" "__len__", .meth "Order" "place", .meth "Order" "event", .meth "Order" "of_end", .meth "Order" "foreign", .meth "Order" "behind", .meth "Order" "loose", .meth "Order" "sources", .meth "Order" "as_kind", .meth "Order" "key_of", .meth "Order" "_in_order", .noat "Event" "name", .noat "Event" "end", .noat "Event" "kind", .noat "Event" "needs", .noat "Order" "events", .noat "Order" "_names", .noat "BadOrder" "what", .noat "BadOrder" "name", .noat "BadOrder" "told", .exm "BadOrder" "BadOrder" true]
/-! ### further facts -/
def sl4 : List (Option Value) → Bool
  | [_, _, _, _, some (.builtin n), _] => decide (n = "ValueError.__new__")
  | _ => false
theorem sl4_ok : ∀ {l : List (Option Value)}, sl4 l = true → ∃ k0 k1 k2 k3 k5, l = [k0, k1, k2, k3, some (.builtin "ValueError.__new__"), k5] := by
  intro l h
  unfold sl4 at h
  split at h
  · rename_i k0 k1 k2 k3 n k5
    rw [of_decide_eq_true h]
    exact ⟨k0, k1, k2, k3, k5, rfl⟩
  · cases h
def oexB (K : PySem.W.Frag) (C : Addr) : Bool := match K.lookup C with
  | some ⟨.type t, _, .cls cd, sl⟩ => decide (t = "type") && ((match cd.mro with
    | .ref c :: bm => decide (c = C) && PySem.HandSPX.refsVE bm
    | _ => false) && (sl4 sl.toList && (cd.hasDict && !cd.hasDel)))
  | _ => false
theorem oexB_ok {K : PySem.W.Frag} {C : Addr} (h : oexB K C = true) : ∃ nm q N bs bm sn sub ab col dd k0 k1 k2 k3 k5, K.lookup C = some (excClassObj nm q C N bs bm true sn sub ab col dd k0 k1 k2 k3 k5 "ValueError.__new__") ∧ PySem.HandSPX.refsVE bm = true := by
  unfold oexB at h
  split at h
  · rename_i t dd cd sl ho
    obtain ⟨h1, h⟩ := Bool.and_eq_true_iff.mp h
    obtain ⟨h2, h⟩ := Bool.and_eq_true_iff.mp h
    obtain ⟨h3, h4⟩ := Bool.and_eq_true_iff.mp h
    obtain ⟨h5, h6⟩ := Bool.and_eq_true_iff.mp h4
    obtain ⟨nm, bs, mro, ns, qn, hd, sn, sub, ab, col, del⟩ := cd
    dsimp only at h2 h5 h6
    cases mro with
    | nil => cases h2
    | cons v bm => cases v with
      | ref c =>
        obtain ⟨h7, h8⟩ := Bool.and_eq_true_iff.mp h2
        obtain ⟨k0, k1, k2, k3, k5, e3⟩ := sl4_ok h3
        obtain ⟨l⟩ := sl
        dsimp only at e3
        have e7 := of_decide_eq_true h7
        have e1 := of_decide_eq_true h1
        subst e3 e7 e1 h5
        cases del with
        | true => cases h6
        | false => exact ⟨nm, qn, ns, bs, bm, sn, sub, ab, col, dd, k0, k1, k2, k3, k5, ho, h8⟩
      | _ => cases h2
  · cases h
def oexAll (K : PySem.W.Frag) (C : Addr) : Bool := oexB K C && (decide (PySem.W.findIn K (.ref C) "__setattr__" = some (some (.builtin "object.__setattr__"))) && (decide (PySem.W.subIn K (.ref C) (.type "BaseException") = some true) && (decide (PySem.W.typeIn K (.ref C) = some (.type "type")) && PySem.W.keepIn K (.ref C))))
theorem oexAll_ok {K : PySem.W.Frag} {C : Addr} (h : oexAll K C = true) : OexC K C := by
  obtain ⟨h1, h⟩ := Bool.and_eq_true_iff.mp h
  obtain ⟨h2, h⟩ := Bool.and_eq_true_iff.mp h
  obtain ⟨h3, h⟩ := Bool.and_eq_true_iff.mp h
  obtain ⟨h4, h5⟩ := Bool.and_eq_true_iff.mp h
  exact ⟨oexB_ok h1, of_decide_eq_true h2, of_decide_eq_true h3, of_decide_eq_true h4, h5⟩
/-- C's own __eq__ at f -/
def eqcB (K : PySem.W.Frag) (C : Addr) : Bool := decide (PySem.W.findIn K (.ref C) "__ne__" = some (some (.builtin "object.__ne__"))) && decide (PySem.W.subIn K (.ref C) (.type "object") = some true)
/-- isinstance of instances -/
structure InsC (K : PySem.W.Frag) (C : Addr) : Prop where
  ha : PySem.W.findIn K (.ref C) "__class__" = some (some (.builtin "object.__class__"))
  hn : PySem.W.specialIn K (.builtin "object.__class__") "__get__" = some (some (.builtin "getset_descriptor.__get__"))
  htk : PySem.W.takesIn K (.builtin "object.__class__") = some true
  hm : PySem.W.mroIn K C (.type "object") = some true
def insB (K : PySem.W.Frag) (C : Addr) : Bool := decide (PySem.W.findIn K (.ref C) "__class__" = some (some (.builtin "object.__class__"))) && (decide (PySem.W.specialIn K (.builtin "object.__class__") "__get__" = some (some (.builtin "getset_descriptor.__get__"))) && (decide (PySem.W.takesIn K (.builtin "object.__class__") = some true) && decide (PySem.W.mroIn K C (.type "object") = some true)))
theorem insB_ok {K : PySem.W.Frag} {C : Addr} (h : insB K C = true) : InsC K C := by
  obtain ⟨h1, h⟩ := Bool.and_eq_true_iff.mp h
  obtain ⟨h2, h⟩ := Bool.and_eq_true_iff.mp h
  obtain ⟨h3, h⟩ := Bool.and_eq_true_iff.mp h
  exact ⟨of_decide_eq_true h1, of_decide_eq_true h2, of_decide_eq_true h3, of_decide_eq_true h⟩
def isFnd : Option PySem.W.CFound → Addr → Bool
  | some (.val (.ref a)), g => decide (a = g)
  | _, _ => false
def clsfnB (K : PySem.W.Frag) (C : Addr) (m : Str) : Bool := PySem.W.readsIn K C (.type "type") && (decide (PySem.W.specialIn K (.ref C) "__getattribute__" = some (some (.builtin "type.__getattribute__"))) && (isFnd (PySem.W.findCls K (.ref C) (.type "type") m) (He.ma K C m) && PySem.W.keepIn K (.ref (He.ma K C m))))
theorem clsfnB_ok {K : PySem.W.Frag} {C : Addr} {m : Str} (h : clsfnB K C m = true) : Ax.ClsFn K C m (He.ma K C m) := by
  obtain ⟨h1, h⟩ := Bool.and_eq_true_iff.mp h
  obtain ⟨h2, h⟩ := Bool.and_eq_true_iff.mp h
  obtain ⟨h3, h4⟩ := Bool.and_eq_true_iff.mp h
  refine ⟨⟨.type "type", ⟨h1, of_decide_eq_true h2⟩, ⟨?_, rfl⟩⟩, h4⟩
  revert h3
  cases e : PySem.W.findCls K (.ref C) (.type "type") m with
  | none => intro h3; cases h3
  | some r =>
    cases r with
    | val u =>
      cases u with
      | ref a =>
        intro h3
        have z : a = He.ma K C m := of_decide_eq_true h3
        rw [z]
      | _ => intro h3; cases h3
    | _ => intro h3; cases h3
def exL : List (PySem.W.Frag → Bool) := [fun K => oexAll K (He.ga K "BadOrder"),
  fun K => xfB K (He.ga K "BadOrder"),
  fun K => decide (PySem.W.findIn K (.ref (He.ga K "BadOrder")) "__init__" = some (some (.ref (He.ma K (He.ga K "BadOrder") "__init__")))),
  fun K => decide (PySem.W.typeIn K (.ref (He.ma K (He.ga K "BadOrder") "__init__")) = some (.type "function")),
  fun K => eqcB K (He.ga K "Event"),
  fun K => eqcB K (He.ga K "Order"),
  fun K => insB K (He.ga K "Event"),
  fun K => insB K (He.ga K "Order"),
  fun K => decide (PySem.W.findIn K (.ref (He.ga K "Order")) "__iter__" = some (some (.ref (He.ma K (He.ga K "Order") "__iter__")))) && PySem.W.isFn K (.ref (He.ma K (He.ga K "Order") "__iter__")),
  fun K => clsfnB K (He.ga K "AskedError") "__init__",
  fun K => He.tupB K "KINDS" [.str "query", .str "action"]]
def exA (K : PySem.W.Frag) : Bool := exL.all fun q => q K
theorem exA_ok {K : PySem.W.Frag} (h : exA K = true) (i : Nat) {q : PySem.W.Frag → Bool} (e : exL[i]? = some q) : q K = true := List.all_eq_true.mp h q (List.mem_of_getElem? e)
def Tx (w : World) (K : PySem.W.Frag) (mg : Str → Option Value) : Prop := ∃ h : Heap, K.In h ∧ h.Ns mainGlobals mg ∧ Ax.SaysP fa fn exA gs K
section
variable {w : World} {K : PySem.W.Frag} {mg : Str → Option Value}
theorem Tx.g_AskedError (T : Tx w K mg) : mg "AskedError" = some (.ref (He.ga K "AskedError")) := let ⟨_, c⟩ := T; He.glo_ok c.1 c.2.1 (c.2.2.1.fact 0 (f := .glo "AskedError") rfl)
theorem Tx.g_BadOrder (T : Tx w K mg) : mg "BadOrder" = some (.ref (He.ga K "BadOrder")) := let ⟨_, c⟩ := T; He.glo_ok c.1 c.2.1 (c.2.2.1.fact 1 (f := .glo "BadOrder") rfl)
theorem Tx.g_Event (T : Tx w K mg) : mg "Event" = some (.ref (He.ga K "Event")) := let ⟨_, c⟩ := T; He.glo_ok c.1 c.2.1 (c.2.2.1.fact 2 (f := .glo "Event") rfl)
theorem Tx.g_Order (T : Tx w K mg) : mg "Order" = some (.ref (He.ga K "Order")) := let ⟨_, c⟩ := T; He.glo_ok c.1 c.2.1 (c.2.2.1.fact 3 (f := .glo "Order") rfl)
theorem Tx.p_Order_names (T : Tx w K mg) : PropOf K (He.ga K "Order") "names" (He.ma K (He.ga K "Order") "names") (Ax.gAd K (He.ga K "Order") "names") ∧ ∃ fd, FunD K "names" "Order.names" (defArgs s_Order_names) (defBody s_Order_names) (defScope s_Order_names) [] [] (Ax.gAd K (He.ga K "Order") "names") fd := let ⟨_, c⟩ := T; c.2.2.getter 0 rfl
theorem Tx.g_KINDS (T : Tx w K mg) : mg "KINDS" = some (.ref (He.ga K "KINDS")) := let ⟨_, c⟩ := T; He.glo_ok c.1 c.2.1 (c.2.2.1.fact 4 (f := .glo "KINDS") rfl)
theorem Tx.g_is_whole (T : Tx w K mg) : mg "is_whole" = some (.ref (He.ga K "is_whole")) := let ⟨_, c⟩ := T; He.glo_ok c.1 c.2.1 (c.2.2.1.fact 5 (f := .glo "is_whole") rfl)
theorem Tx.g_is_between (T : Tx w K mg) : mg "is_between" = some (.ref (He.ga K "is_between")) := let ⟨_, c⟩ := T; He.glo_ok c.1 c.2.1 (c.2.2.1.fact 6 (f := .glo "is_between") rfl)
theorem Tx.g_is_name (T : Tx w K mg) : mg "is_name" = some (.ref (He.ga K "is_name")) := let ⟨_, c⟩ := T; He.glo_ok c.1 c.2.1 (c.2.2.1.fact 7 (f := .glo "is_name") rfl)
theorem Tx.g_event_fault (T : Tx w K mg) : mg "event_fault" = some (.ref (He.ga K "event_fault")) := let ⟨_, c⟩ := T; He.glo_ok c.1 c.2.1 (c.2.2.1.fact 8 (f := .glo "event_fault") rfl)
theorem Tx.g_are_needs (T : Tx w K mg) : mg "are_needs" = some (.ref (He.ga K "are_needs")) := let ⟨_, c⟩ := T; He.glo_ok c.1 c.2.1 (c.2.2.1.fact 9 (f := .glo "are_needs") rfl)
theorem Tx.g_law_bag (T : Tx w K mg) : mg "_law_bag" = some (.ref (He.ga K "_law_bag")) := let ⟨_, c⟩ := T; He.glo_ok c.1 c.2.1 (c.2.2.1.fact 10 (f := .glo "_law_bag") rfl)
theorem Tx.g_law_draw (T : Tx w K mg) : mg "_law_draw" = some (.ref (He.ga K "_law_draw")) := let ⟨_, c⟩ := T; He.glo_ok c.1 c.2.1 (c.2.2.1.fact 11 (f := .glo "_law_draw") rfl)
theorem Tx.g_law_drawn_events (T : Tx w K mg) : mg "_law_drawn_events" = some (.ref (He.ga K "_law_drawn_events")) := let ⟨_, c⟩ := T; He.glo_ok c.1 c.2.1 (c.2.2.1.fact 12 (f := .glo "_law_drawn_events") rfl)
theorem Tx.g_law_event (T : Tx w K mg) : mg "_law_event" = some (.ref (He.ga K "_law_event")) := let ⟨_, c⟩ := T; He.glo_ok c.1 c.2.1 (c.2.2.1.fact 13 (f := .glo "_law_event") rfl)
theorem Tx.g_law_sorted (T : Tx w K mg) : mg "_law_sorted" = some (.ref (He.ga K "_law_sorted")) := let ⟨_, c⟩ := T; He.glo_ok c.1 c.2.1 (c.2.2.1.fact 14 (f := .glo "_law_sorted") rfl)
theorem Tx.g_law_loose (T : Tx w K mg) : mg "_law_loose" = some (.ref (He.ga K "_law_loose")) := let ⟨_, c⟩ := T; He.glo_ok c.1 c.2.1 (c.2.2.1.fact 15 (f := .glo "_law_loose") rfl)
theorem Tx.g_law_chained (T : Tx w K mg) : mg "_law_chained" = some (.ref (He.ga K "_law_chained")) := let ⟨_, c⟩ := T; He.glo_ok c.1 c.2.1 (c.2.2.1.fact 16 (f := .glo "_law_chained") rfl)
theorem Tx.g_law_behind (T : Tx w K mg) : mg "_law_behind" = some (.ref (He.ga K "_law_behind")) := let ⟨_, c⟩ := T; He.glo_ok c.1 c.2.1 (c.2.2.1.fact 17 (f := .glo "_law_behind") rfl)
theorem Tx.g_law_right (T : Tx w K mg) : mg "_law_right" = some (.ref (He.ga K "_law_right")) := let ⟨_, c⟩ := T; He.glo_ok c.1 c.2.1 (c.2.2.1.fact 18 (f := .glo "_law_right") rfl)
theorem Tx.g_law_keys_right (T : Tx w K mg) : mg "_law_keys_right" = some (.ref (He.ga K "_law_keys_right")) := let ⟨_, c⟩ := T; He.glo_ok c.1 c.2.1 (c.2.2.1.fact 19 (f := .glo "_law_keys_right") rfl)
theorem Tx.g_law_unknown (T : Tx w K mg) : mg "_law_unknown" = some (.ref (He.ga K "_law_unknown")) := let ⟨_, c⟩ := T; He.glo_ok c.1 c.2.1 (c.2.2.1.fact 20 (f := .glo "_law_unknown") rfl)
theorem Tx.g_law (T : Tx w K mg) : mg "law" = some (.ref (He.ga K "law")) := let ⟨_, c⟩ := T; He.glo_ok c.1 c.2.1 (c.2.2.1.fact 21 (f := .glo "law") rfl)
theorem Tx.b_isinstance (T : Tx w K mg) : mg "isinstance" = none := let ⟨_, c⟩ := T; He.free_ok c.1 c.2.1 (c.2.2.1.fact 22 (f := .free "isinstance") rfl)
theorem Tx.b_int (T : Tx w K mg) : mg "int" = none := let ⟨_, c⟩ := T; He.free_ok c.1 c.2.1 (c.2.2.1.fact 23 (f := .free "int") rfl)
theorem Tx.b_bool (T : Tx w K mg) : mg "bool" = none := let ⟨_, c⟩ := T; He.free_ok c.1 c.2.1 (c.2.2.1.fact 24 (f := .free "bool") rfl)
theorem Tx.b_str (T : Tx w K mg) : mg "str" = none := let ⟨_, c⟩ := T; He.free_ok c.1 c.2.1 (c.2.2.1.fact 25 (f := .free "str") rfl)
theorem Tx.b_len (T : Tx w K mg) : mg "len" = none := let ⟨_, c⟩ := T; He.free_ok c.1 c.2.1 (c.2.2.1.fact 26 (f := .free "len") rfl)
theorem Tx.b_tuple (T : Tx w K mg) : mg "tuple" = none := let ⟨_, c⟩ := T; He.free_ok c.1 c.2.1 (c.2.2.1.fact 27 (f := .free "tuple") rfl)
theorem Tx.b_all (T : Tx w K mg) : mg "all" = none := let ⟨_, c⟩ := T; He.free_ok c.1 c.2.1 (c.2.2.1.fact 28 (f := .free "all") rfl)
theorem Tx.b_any (T : Tx w K mg) : mg "any" = none := let ⟨_, c⟩ := T; He.free_ok c.1 c.2.1 (c.2.2.1.fact 29 (f := .free "any") rfl)
theorem Tx.b_iter (T : Tx w K mg) : mg "iter" = none := let ⟨_, c⟩ := T; He.free_ok c.1 c.2.1 (c.2.2.1.fact 30 (f := .free "iter") rfl)
theorem Tx.b_range (T : Tx w K mg) : mg "range" = none := let ⟨_, c⟩ := T; He.free_ok c.1 c.2.1 (c.2.2.1.fact 31 (f := .free "range") rfl)
theorem Tx.b_abs (T : Tx w K mg) : mg "abs" = none := let ⟨_, c⟩ := T; He.free_ok c.1 c.2.1 (c.2.2.1.fact 32 (f := .free "abs") rfl)
theorem Tx.b_list (T : Tx w K mg) : mg "list" = none := let ⟨_, c⟩ := T; He.free_ok c.1 c.2.1 (c.2.2.1.fact 33 (f := .free "list") rfl)
theorem Tx.b_enumerate (T : Tx w K mg) : mg "enumerate" = none := let ⟨_, c⟩ := T; He.free_ok c.1 c.2.1 (c.2.2.1.fact 34 (f := .free "enumerate") rfl)
theorem Tx.b_reversed (T : Tx w K mg) : mg "reversed" = none := let ⟨_, c⟩ := T; He.free_ok c.1 c.2.1 (c.2.2.1.fact 35 (f := .free "reversed") rfl)
theorem Tx.i_LONGEST_NAME (T : Tx w K mg) : ∃ t, mg "LONGEST_NAME" = some (.int 8 t) := let ⟨_, c⟩ := T; He.int_ok c.1 c.2.1 (c.2.2.1.fact 36 (f := .int "LONGEST_NAME" 8) rfl)
theorem Tx.i_MOST_EVENTS (T : Tx w K mg) : ∃ t, mg "MOST_EVENTS" = some (.int 12 t) := let ⟨_, c⟩ := T; He.int_ok c.1 c.2.1 (c.2.2.1.fact 37 (f := .int "MOST_EVENTS" 12) rfl)
theorem Tx.i_MOST_NEEDS (T : Tx w K mg) : ∃ t, mg "MOST_NEEDS" = some (.int 3 t) := let ⟨_, c⟩ := T; He.int_ok c.1 c.2.1 (c.2.2.1.fact 38 (f := .int "MOST_NEEDS" 3) rfl)
theorem Tx.i_LAST_END (T : Tx w K mg) : ∃ t, mg "LAST_END" = some (.int 5 t) := let ⟨_, c⟩ := T; He.int_ok c.1 c.2.1 (c.2.2.1.fact 39 (f := .int "LAST_END" 5) rfl)
theorem Tx.s_LETTERS (T : Tx w K mg) : ∃ t, mg "LETTERS" = some (.str "abcdefghijklmnopqrstuvwxyz" t) := let ⟨_, c⟩ := T; He.str_ok c.1 c.2.1 (c.2.2.1.fact 40 (f := .str "LETTERS" "abcdefghijklmnopqrstuvwxyz") rfl)
theorem Tx.s_SIGNS (T : Tx w K mg) : ∃ t, mg "SIGNS" = some (.str "abcdefghijklmnopqrstuvwxyz0123456789" t) := let ⟨_, c⟩ := T; He.str_ok c.1 c.2.1 (c.2.2.1.fact 41 (f := .str "SIGNS" "abcdefghijklmnopqrstuvwxyz0123456789") rfl)
theorem Tx.c_Event (T : Tx w K mg) : Cls K (He.ga K "Event") := let ⟨_, c⟩ := T; He.cls_ok (c.2.2.1.fact 42 (f := .cls "Event") rfl)
theorem Tx.c_Order (T : Tx w K mg) : Cls K (He.ga K "Order") := let ⟨_, c⟩ := T; He.cls_ok (c.2.2.1.fact 43 (f := .cls "Order") rfl)
theorem Tx.k_Event (T : Tx w K mg) : Mk K (He.ga K "Event") (He.ma K (He.ga K "Event") "__init__") := let ⟨_, c⟩ := T; He.mkr_ok (c.2.2.1.fact 44 (f := .mkr "Event") rfl)
theorem Tx.k_Order (T : Tx w K mg) : Mk K (He.ga K "Order") (He.ma K (He.ga K "Order") "__init__") := let ⟨_, c⟩ := T; He.mkr_ok (c.2.2.1.fact 45 (f := .mkr "Order") rfl)
theorem Tx.m_Event_eq (T : Tx w K mg) : Meth K (He.ga K "Event") "__eq__" (He.ma K (He.ga K "Event") "__eq__") := let ⟨_, c⟩ := T; He.meth_ok (c.2.2.1.fact 46 (f := .meth "Event" "__eq__") rfl)
theorem Tx.m_Order_eq (T : Tx w K mg) : Meth K (He.ga K "Order") "__eq__" (He.ma K (He.ga K "Order") "__eq__") := let ⟨_, c⟩ := T; He.meth_ok (c.2.2.1.fact 47 (f := .meth "Order" "__eq__") rfl)
theorem Tx.m_Order_iter (T : Tx w K mg) : Meth K (He.ga K "Order") "__iter__" (He.ma K (He.ga K "Order") "__iter__") := let ⟨_, c⟩ := T; He.meth_ok (c.2.2.1.fact 48 (f := .meth "Order" "__iter__") rfl)
theorem Tx.m_Order_len (T : Tx w K mg) : Meth K (He.ga K "Order") "__len__" (He.ma K (He.ga K "Order") "__len__") := let ⟨_, c⟩ := T; He.meth_ok (c.2.2.1.fact 49 (f := .meth "Order" "__len__") rfl)
theorem Tx.m_Order_place (T : Tx w K mg) : Meth K (He.ga K "Order") "place" (He.ma K (He.ga K "Order") "place") := let ⟨_, c⟩ := T; He.meth_ok (c.2.2.1.fact 50 (f := .meth "Order" "place") rfl)
theorem Tx.m_Order_event (T : Tx w K mg) : Meth K (He.ga K "Order") "event" (He.ma K (He.ga K "Order") "event") := let ⟨_, c⟩ := T; He.meth_ok (c.2.2.1.fact 51 (f := .meth "Order" "event") rfl)
theorem Tx.m_Order_of_end (T : Tx w K mg) : Meth K (He.ga K "Order") "of_end" (He.ma K (He.ga K "Order") "of_end") := let ⟨_, c⟩ := T; He.meth_ok (c.2.2.1.fact 52 (f := .meth "Order" "of_end") rfl)
theorem Tx.m_Order_foreign (T : Tx w K mg) : Meth K (He.ga K "Order") "foreign" (He.ma K (He.ga K "Order") "foreign") := let ⟨_, c⟩ := T; He.meth_ok (c.2.2.1.fact 53 (f := .meth "Order" "foreign") rfl)
theorem Tx.m_Order_behind (T : Tx w K mg) : Meth K (He.ga K "Order") "behind" (He.ma K (He.ga K "Order") "behind") := let ⟨_, c⟩ := T; He.meth_ok (c.2.2.1.fact 54 (f := .meth "Order" "behind") rfl)
theorem Tx.m_Order_loose (T : Tx w K mg) : Meth K (He.ga K "Order") "loose" (He.ma K (He.ga K "Order") "loose") := let ⟨_, c⟩ := T; He.meth_ok (c.2.2.1.fact 55 (f := .meth "Order" "loose") rfl)
theorem Tx.m_Order_sources (T : Tx w K mg) : Meth K (He.ga K "Order") "sources" (He.ma K (He.ga K "Order") "sources") := let ⟨_, c⟩ := T; He.meth_ok (c.2.2.1.fact 56 (f := .meth "Order" "sources") rfl)
theorem Tx.m_Order_as_kind (T : Tx w K mg) : Meth K (He.ga K "Order") "as_kind" (He.ma K (He.ga K "Order") "as_kind") := let ⟨_, c⟩ := T; He.meth_ok (c.2.2.1.fact 57 (f := .meth "Order" "as_kind") rfl)
theorem Tx.m_Order_key_of (T : Tx w K mg) : Meth K (He.ga K "Order") "key_of" (He.ma K (He.ga K "Order") "key_of") := let ⟨_, c⟩ := T; He.meth_ok (c.2.2.1.fact 58 (f := .meth "Order" "key_of") rfl)
theorem Tx.m_Order_in_order (T : Tx w K mg) : Meth K (He.ga K "Order") "_in_order" (He.ma K (He.ga K "Order") "_in_order") := let ⟨_, c⟩ := T; He.meth_ok (c.2.2.1.fact 59 (f := .meth "Order" "_in_order") rfl)
theorem Tx.n_Event_name (T : Tx w K mg) : NoAttr K (He.ga K "Event") "name" := let ⟨_, c⟩ := T; He.noat_ok (c.2.2.1.fact 60 (f := .noat "Event" "name") rfl)
theorem Tx.n_Event_end (T : Tx w K mg) : NoAttr K (He.ga K "Event") "end" := let ⟨_, c⟩ := T; He.noat_ok (c.2.2.1.fact 61 (f := .noat "Event" "end") rfl)
theorem Tx.n_Event_kind (T : Tx w K mg) : NoAttr K (He.ga K "Event") "kind" := let ⟨_, c⟩ := T; He.noat_ok (c.2.2.1.fact 62 (f := .noat "Event" "kind") rfl)
theorem Tx.n_Event_needs (T : Tx w K mg) : NoAttr K (He.ga K "Event") "needs" := let ⟨_, c⟩ := T; He.noat_ok (c.2.2.1.fact 63 (f := .noat "Event" "needs") rfl)
theorem Tx.n_Order_events (T : Tx w K mg) : NoAttr K (He.ga K "Order") "events" := let ⟨_, c⟩ := T; He.noat_ok (c.2.2.1.fact 64 (f := .noat "Order" "events") rfl)
theorem Tx.n_Order__names (T : Tx w K mg) : NoAttr K (He.ga K "Order") "_names" := let ⟨_, c⟩ := T; He.noat_ok (c.2.2.1.fact 65 (f := .noat "Order" "_names") rfl)
theorem Tx.n_BadOrder_what (T : Tx w K mg) : NoAttr K (He.ga K "BadOrder") "what" := let ⟨_, c⟩ := T; He.noat_ok (c.2.2.1.fact 66 (f := .noat "BadOrder" "what") rfl)
theorem Tx.n_BadOrder_name (T : Tx w K mg) : NoAttr K (He.ga K "BadOrder") "name" := let ⟨_, c⟩ := T; He.noat_ok (c.2.2.1.fact 67 (f := .noat "BadOrder" "name") rfl)
theorem Tx.n_BadOrder_told (T : Tx w K mg) : NoAttr K (He.ga K "BadOrder") "told" := let ⟨_, c⟩ := T; He.noat_ok (c.2.2.1.fact 68 (f := .noat "BadOrder" "told") rfl)
theorem Tx.x_BadOrder_BadOrder (T : Tx w K mg) : PySem.W.exmOne K (.ref (He.ga K "BadOrder")) (.ref (He.ga K "BadOrder")) = some true := let ⟨_, c⟩ := T; He.exm_ok (c.2.2.1.fact 69 (f := .exm "BadOrder" "BadOrder" true) rfl)
theorem Tx.ox_BadOrder (T : Tx w K mg) : OexC K (He.ga K "BadOrder") := let ⟨_, c⟩ := T; oexAll_ok (exA_ok c.2.2.2.1 0 (q := fun K => oexAll K (He.ga K "BadOrder")) rfl)
theorem Tx.xf_BadOrder (T : Tx w K mg) : XfC K (He.ga K "BadOrder") := let ⟨_, c⟩ := T; xfB_ok (exA_ok c.2.2.2.1 1 (q := fun K => xfB K (He.ga K "BadOrder")) rfl)
theorem Tx.fi_BadOrder (T : Tx w K mg) : PySem.W.findIn K (.ref (He.ga K "BadOrder")) "__init__" = some (some (.ref (He.ma K (He.ga K "BadOrder") "__init__"))) := let ⟨_, c⟩ := T; of_decide_eq_true (exA_ok c.2.2.2.1 2 (q := fun K => decide (PySem.W.findIn K (.ref (He.ga K "BadOrder")) "__init__" = some (some (.ref (He.ma K (He.ga K "BadOrder") "__init__"))))) rfl)
theorem Tx.ft_BadOrder (T : Tx w K mg) : PySem.W.typeIn K (.ref (He.ma K (He.ga K "BadOrder") "__init__")) = some (.type "function") := let ⟨_, c⟩ := T; of_decide_eq_true (exA_ok c.2.2.2.1 3 (q := fun K => decide (PySem.W.typeIn K (.ref (He.ma K (He.ga K "BadOrder") "__init__")) = some (.type "function"))) rfl)
theorem Tx.ne_Event (T : Tx w K mg) : eqcB K (He.ga K "Event") = true := let ⟨_, c⟩ := T; id (exA_ok c.2.2.2.1 4 (q := fun K => eqcB K (He.ga K "Event")) rfl)
theorem Tx.ne_Order (T : Tx w K mg) : eqcB K (He.ga K "Order") = true := let ⟨_, c⟩ := T; id (exA_ok c.2.2.2.1 5 (q := fun K => eqcB K (He.ga K "Order")) rfl)
theorem Tx.in_Event (T : Tx w K mg) : InsC K (He.ga K "Event") := let ⟨_, c⟩ := T; insB_ok (exA_ok c.2.2.2.1 6 (q := fun K => insB K (He.ga K "Event")) rfl)
theorem Tx.in_Order (T : Tx w K mg) : InsC K (He.ga K "Order") := let ⟨_, c⟩ := T; insB_ok (exA_ok c.2.2.2.1 7 (q := fun K => insB K (He.ga K "Order")) rfl)
theorem Tx.it_Order (T : Tx w K mg) : (decide (PySem.W.findIn K (.ref (He.ga K "Order")) "__iter__" = some (some (.ref (He.ma K (He.ga K "Order") "__iter__")))) && PySem.W.isFn K (.ref (He.ma K (He.ga K "Order") "__iter__"))) = true := let ⟨_, c⟩ := T; id (exA_ok c.2.2.2.1 8 (q := fun K => decide (PySem.W.findIn K (.ref (He.ga K "Order")) "__iter__" = some (some (.ref (He.ma K (He.ga K "Order") "__iter__")))) && PySem.W.isFn K (.ref (He.ma K (He.ga K "Order") "__iter__"))) rfl)
theorem Tx.cf_AskedError_init (T : Tx w K mg) : Ax.ClsFn K (He.ga K "AskedError") "__init__" (He.ma K (He.ga K "AskedError") "__init__") := let ⟨_, c⟩ := T; clsfnB_ok (exA_ok c.2.2.2.1 9 (q := fun K => clsfnB K (He.ga K "AskedError") "__init__") rfl)
theorem Tx.t_KINDS (T : Tx w K mg) : ∀ H : Hp, SqT K H (He.ga K "KINDS") [.str "query", .str "action"] := let ⟨_, c⟩ := T; He.tupB_ok (exA_ok c.2.2.2.1 10 (q := fun K => He.tupB K "KINDS" [.str "query", .str "action"]) rfl)
theorem Tx.f_AskedError_init (T : Tx w K mg) : ∃ fd, FunD K "__init__" "AskedError.__init__" (defArgs s_AskedError_init) (defBody s_AskedError_init) (defScope s_AskedError_init) (d_AskedError_init.dvs K) [] (He.fAd K d_AskedError_init.at_) fd := let ⟨_, c⟩ := T; c.2.2.1.def_ 0 (d := d_AskedError_init) rfl
theorem Tx.f_BadOrder_init (T : Tx w K mg) : ∃ fd, FunD K "__init__" "BadOrder.__init__" (defArgs s_BadOrder_init) (defBody s_BadOrder_init) (defScope s_BadOrder_init) (d_BadOrder_init.dvs K) [] (He.fAd K d_BadOrder_init.at_) fd := let ⟨_, c⟩ := T; c.2.2.1.def_ 1 (d := d_BadOrder_init) rfl
theorem Tx.f_is_whole (T : Tx w K mg) : ∃ fd, FunD K "is_whole" "is_whole" (defArgs s_is_whole) (defBody s_is_whole) (defScope s_is_whole) (d_is_whole.dvs K) [] (He.fAd K d_is_whole.at_) fd := let ⟨_, c⟩ := T; c.2.2.1.def_ 2 (d := d_is_whole) rfl
theorem Tx.f_is_between (T : Tx w K mg) : ∃ fd, FunD K "is_between" "is_between" (defArgs s_is_between) (defBody s_is_between) (defScope s_is_between) (d_is_between.dvs K) [] (He.fAd K d_is_between.at_) fd := let ⟨_, c⟩ := T; c.2.2.1.def_ 3 (d := d_is_between) rfl
theorem Tx.f_is_name (T : Tx w K mg) : ∃ fd, FunD K "is_name" "is_name" (defArgs s_is_name) (defBody s_is_name) (defScope s_is_name) (d_is_name.dvs K) [] (He.fAd K d_is_name.at_) fd := let ⟨_, c⟩ := T; c.2.2.1.def_ 4 (d := d_is_name) rfl
theorem Tx.f_Event_init (T : Tx w K mg) : ∃ fd, FunD K "__init__" "Event.__init__" (defArgs s_Event_init) (defBody s_Event_init) (defScope s_Event_init) (d_Event_init.dvs K) [] (He.fAd K d_Event_init.at_) fd := let ⟨_, c⟩ := T; c.2.2.1.def_ 5 (d := d_Event_init) rfl
theorem Tx.f_Event_eq (T : Tx w K mg) : ∃ fd, FunD K "__eq__" "Event.__eq__" (defArgs s_Event_eq) (defBody s_Event_eq) (defScope s_Event_eq) (d_Event_eq.dvs K) [] (He.fAd K d_Event_eq.at_) fd := let ⟨_, c⟩ := T; c.2.2.1.def_ 6 (d := d_Event_eq) rfl
theorem Tx.f_Order_init (T : Tx w K mg) : ∃ fd, FunD K "__init__" "Order.__init__" (defArgs s_Order_init) (defBody s_Order_init) (defScope s_Order_init) (d_Order_init.dvs K) [] (He.fAd K d_Order_init.at_) fd := let ⟨_, c⟩ := T; c.2.2.1.def_ 7 (d := d_Order_init) rfl
theorem Tx.f_Order_eq (T : Tx w K mg) : ∃ fd, FunD K "__eq__" "Order.__eq__" (defArgs s_Order_eq) (defBody s_Order_eq) (defScope s_Order_eq) (d_Order_eq.dvs K) [] (He.fAd K d_Order_eq.at_) fd := let ⟨_, c⟩ := T; c.2.2.1.def_ 8 (d := d_Order_eq) rfl
theorem Tx.f_Order_iter (T : Tx w K mg) : ∃ fd, FunD K "__iter__" "Order.__iter__" (defArgs s_Order_iter) (defBody s_Order_iter) (defScope s_Order_iter) (d_Order_iter.dvs K) [] (He.fAd K d_Order_iter.at_) fd := let ⟨_, c⟩ := T; c.2.2.1.def_ 9 (d := d_Order_iter) rfl
theorem Tx.f_Order_len (T : Tx w K mg) : ∃ fd, FunD K "__len__" "Order.__len__" (defArgs s_Order_len) (defBody s_Order_len) (defScope s_Order_len) (d_Order_len.dvs K) [] (He.fAd K d_Order_len.at_) fd := let ⟨_, c⟩ := T; c.2.2.1.def_ 10 (d := d_Order_len) rfl
theorem Tx.f_Order_place (T : Tx w K mg) : ∃ fd, FunD K "place" "Order.place" (defArgs s_Order_place) (defBody s_Order_place) (defScope s_Order_place) (d_Order_place.dvs K) [] (He.fAd K d_Order_place.at_) fd := let ⟨_, c⟩ := T; c.2.2.1.def_ 11 (d := d_Order_place) rfl
theorem Tx.f_Order_event (T : Tx w K mg) : ∃ fd, FunD K "event" "Order.event" (defArgs s_Order_event) (defBody s_Order_event) (defScope s_Order_event) (d_Order_event.dvs K) [] (He.fAd K d_Order_event.at_) fd := let ⟨_, c⟩ := T; c.2.2.1.def_ 12 (d := d_Order_event) rfl
theorem Tx.f_Order_of_end (T : Tx w K mg) : ∃ fd, FunD K "of_end" "Order.of_end" (defArgs s_Order_of_end) (defBody s_Order_of_end) (defScope s_Order_of_end) (d_Order_of_end.dvs K) [] (He.fAd K d_Order_of_end.at_) fd := let ⟨_, c⟩ := T; c.2.2.1.def_ 13 (d := d_Order_of_end) rfl
theorem Tx.f_Order_foreign (T : Tx w K mg) : ∃ fd, FunD K "foreign" "Order.foreign" (defArgs s_Order_foreign) (defBody s_Order_foreign) (defScope s_Order_foreign) (d_Order_foreign.dvs K) [] (He.fAd K d_Order_foreign.at_) fd := let ⟨_, c⟩ := T; c.2.2.1.def_ 14 (d := d_Order_foreign) rfl
theorem Tx.f_Order_behind (T : Tx w K mg) : ∃ fd, FunD K "behind" "Order.behind" (defArgs s_Order_behind) (defBody s_Order_behind) (defScope s_Order_behind) (d_Order_behind.dvs K) [] (He.fAd K d_Order_behind.at_) fd := let ⟨_, c⟩ := T; c.2.2.1.def_ 15 (d := d_Order_behind) rfl
theorem Tx.f_Order_loose (T : Tx w K mg) : ∃ fd, FunD K "loose" "Order.loose" (defArgs s_Order_loose) (defBody s_Order_loose) (defScope s_Order_loose) (d_Order_loose.dvs K) [] (He.fAd K d_Order_loose.at_) fd := let ⟨_, c⟩ := T; c.2.2.1.def_ 16 (d := d_Order_loose) rfl
theorem Tx.f_Order_sources (T : Tx w K mg) : ∃ fd, FunD K "sources" "Order.sources" (defArgs s_Order_sources) (defBody s_Order_sources) (defScope s_Order_sources) (d_Order_sources.dvs K) [] (He.fAd K d_Order_sources.at_) fd := let ⟨_, c⟩ := T; c.2.2.1.def_ 17 (d := d_Order_sources) rfl
theorem Tx.f_Order_as_kind (T : Tx w K mg) : ∃ fd, FunD K "as_kind" "Order.as_kind" (defArgs s_Order_as_kind) (defBody s_Order_as_kind) (defScope s_Order_as_kind) (d_Order_as_kind.dvs K) [] (He.fAd K d_Order_as_kind.at_) fd := let ⟨_, c⟩ := T; c.2.2.1.def_ 18 (d := d_Order_as_kind) rfl
theorem Tx.f_Order_key_of (T : Tx w K mg) : ∃ fd, FunD K "key_of" "Order.key_of" (defArgs s_Order_key_of) (defBody s_Order_key_of) (defScope s_Order_key_of) (d_Order_key_of.dvs K) [] (He.fAd K d_Order_key_of.at_) fd := let ⟨_, c⟩ := T; c.2.2.1.def_ 19 (d := d_Order_key_of) rfl
theorem Tx.f_Order_in_order (T : Tx w K mg) : ∃ fd, FunD K "_in_order" "Order._in_order" (defArgs s_Order_in_order) (defBody s_Order_in_order) (defScope s_Order_in_order) (d_Order_in_order.dvs K) [] (He.fAd K d_Order_in_order.at_) fd := let ⟨_, c⟩ := T; c.2.2.1.def_ 20 (d := d_Order_in_order) rfl
theorem Tx.f_event_fault (T : Tx w K mg) : ∃ fd, FunD K "event_fault" "event_fault" (defArgs s_event_fault) (defBody s_event_fault) (defScope s_event_fault) (d_event_fault.dvs K) [] (He.fAd K d_event_fault.at_) fd := let ⟨_, c⟩ := T; c.2.2.1.def_ 21 (d := d_event_fault) rfl
theorem Tx.f_are_needs (T : Tx w K mg) : ∃ fd, FunD K "are_needs" "are_needs" (defArgs s_are_needs) (defBody s_are_needs) (defScope s_are_needs) (d_are_needs.dvs K) [] (He.fAd K d_are_needs.at_) fd := let ⟨_, c⟩ := T; c.2.2.1.def_ 22 (d := d_are_needs) rfl
theorem Tx.f_law_bag (T : Tx w K mg) : ∃ fd, FunD K "_law_bag" "_law_bag" (defArgs s_law_bag) (defBody s_law_bag) (defScope s_law_bag) (d_law_bag.dvs K) [] (He.fAd K d_law_bag.at_) fd := let ⟨_, c⟩ := T; c.2.2.1.def_ 23 (d := d_law_bag) rfl
theorem Tx.f_law_draw (T : Tx w K mg) : ∃ fd, FunD K "_law_draw" "_law_draw" (defArgs s_law_draw) (defBody s_law_draw) (defScope s_law_draw) (d_law_draw.dvs K) [] (He.fAd K d_law_draw.at_) fd := let ⟨_, c⟩ := T; c.2.2.1.def_ 24 (d := d_law_draw) rfl
theorem Tx.f_law_drawn_events (T : Tx w K mg) : ∃ fd, FunD K "_law_drawn_events" "_law_drawn_events" (defArgs s_law_drawn_events) (defBody s_law_drawn_events) (defScope s_law_drawn_events) (d_law_drawn_events.dvs K) [] (He.fAd K d_law_drawn_events.at_) fd := let ⟨_, c⟩ := T; c.2.2.1.def_ 25 (d := d_law_drawn_events) rfl
theorem Tx.f_law_event (T : Tx w K mg) : ∃ fd, FunD K "_law_event" "_law_event" (defArgs s_law_event) (defBody s_law_event) (defScope s_law_event) (d_law_event.dvs K) [] (He.fAd K d_law_event.at_) fd := let ⟨_, c⟩ := T; c.2.2.1.def_ 26 (d := d_law_event) rfl
theorem Tx.f_law_sorted (T : Tx w K mg) : ∃ fd, FunD K "_law_sorted" "_law_sorted" (defArgs s_law_sorted) (defBody s_law_sorted) (defScope s_law_sorted) (d_law_sorted.dvs K) [] (He.fAd K d_law_sorted.at_) fd := let ⟨_, c⟩ := T; c.2.2.1.def_ 27 (d := d_law_sorted) rfl
theorem Tx.f_law_loose (T : Tx w K mg) : ∃ fd, FunD K "_law_loose" "_law_loose" (defArgs s_law_loose) (defBody s_law_loose) (defScope s_law_loose) (d_law_loose.dvs K) [] (He.fAd K d_law_loose.at_) fd := let ⟨_, c⟩ := T; c.2.2.1.def_ 28 (d := d_law_loose) rfl
theorem Tx.f_law_chained (T : Tx w K mg) : ∃ fd, FunD K "_law_chained" "_law_chained" (defArgs s_law_chained) (defBody s_law_chained) (defScope s_law_chained) (d_law_chained.dvs K) [] (He.fAd K d_law_chained.at_) fd := let ⟨_, c⟩ := T; c.2.2.1.def_ 29 (d := d_law_chained) rfl
theorem Tx.f_law_behind (T : Tx w K mg) : ∃ fd, FunD K "_law_behind" "_law_behind" (defArgs s_law_behind) (defBody s_law_behind) (defScope s_law_behind) (d_law_behind.dvs K) [] (He.fAd K d_law_behind.at_) fd := let ⟨_, c⟩ := T; c.2.2.1.def_ 30 (d := d_law_behind) rfl
theorem Tx.f_law_right (T : Tx w K mg) : ∃ fd, FunD K "_law_right" "_law_right" (defArgs s_law_right) (defBody s_law_right) (defScope s_law_right) (d_law_right.dvs K) [] (He.fAd K d_law_right.at_) fd := let ⟨_, c⟩ := T; c.2.2.1.def_ 31 (d := d_law_right) rfl
theorem Tx.f_law_keys_right (T : Tx w K mg) : ∃ fd, FunD K "_law_keys_right" "_law_keys_right" (defArgs s_law_keys_right) (defBody s_law_keys_right) (defScope s_law_keys_right) (d_law_keys_right.dvs K) [] (He.fAd K d_law_keys_right.at_) fd := let ⟨_, c⟩ := T; c.2.2.1.def_ 32 (d := d_law_keys_right) rfl
theorem Tx.f_law_unknown (T : Tx w K mg) : ∃ fd, FunD K "_law_unknown" "_law_unknown" (defArgs s_law_unknown) (defBody s_law_unknown) (defScope s_law_unknown) (d_law_unknown.dvs K) [] (He.fAd K d_law_unknown.at_) fd := let ⟨_, c⟩ := T; c.2.2.1.def_ 33 (d := d_law_unknown) rfl
theorem Tx.f_law (T : Tx w K mg) : ∃ fd, FunD K "law" "law" (defArgs s_law) (defBody s_law) (defScope s_law) (d_law.dvs K) [] (He.fAd K d_law.at_) fd := let ⟨_, c⟩ := T; c.2.2.1.def_ 34 (d := d_law) rfl
end
end K01
set_option maxHeartbeats 1000000
namespace K01
open PySem PySem.Spec PyProof.Rows L2 Ax
section
variable {P : Program} {w : World} {K : PySem.W.Frag} {mg : Str → Option Value} {base : Heap}
/-! ### is_whole, is_between -/
def spWhole : Sp := fun vs H Q _ => ∃ x, vs = [x] ∧ ((∃ i, x = .int i ∧ Q (.bl true) H) ∨ (x = .non ∧ Q (.bl false) H))
theorem ok_whole (T : Tx w K mg) : Dn P w K mg base CX0 1 "is_whole" ["thing"] spWhole := by
  obtain ⟨fd, F⟩ := T.f_is_whole
  refine ⟨_, fd, F.ok sc_is_whole (fun vs H Q E h => ?_) (fun cdv A outer s H vs Q E hr h => ⟨_, PSs.nox (pss_one (ps_ret
    (pe_and (pe_callB call_isi rfl T.b_isinstance (by decide +kernel) (pa_cons (pv 0) (pa_cons (pe_bltn (v := .ty "int") (by rfl) T.b_int (by decide +kernel) rfl) pa_nil)))
      (pe_one (pe_not (pe_callB call_isi rfl T.b_isinstance (by decide +kernel) (pa_cons (pv 0) (pa_cons (pe_bltn (v := .ty "bool") (by rfl) T.b_bool (by decide +kernel) rfl) pa_nil)))))))), ?_⟩), T.g_is_whole, F.kp, F.bindsN fun _ _ _ _ _ _ us hl => match us, hl with | [_], _ => rfl⟩
  · obtain ⟨x, rfl, _⟩ := h
    rfl
  · obtain ⟨x, rfl, ⟨i, rfl, h⟩ | ⟨rfl, h⟩⟩ := h
    · refine ⟨_, rfl, _, _, _, _, true, rfl, ClsV.ty "int", .base (.int i), kit_ty (by decide +kernel), true, rfl, ?_⟩
      refine ⟨_, rfl, _, _, _, _, false, rfl, ClsV.ty "bool", .base (.int i), kit_ty (by decide +kernel), false, rfl, ?_⟩
      exact h
    · refine ⟨_, rfl, _, _, _, _, false, rfl, ClsV.ty "int", .base .non, kit_ty (by decide +kernel), false, rfl, ?_⟩
      exact h
def spBetween : Sp := fun vs H Q _ => ∃ (x : V) (lo hi : Int), vs = [x, .int lo, .int hi] ∧ ((∃ i, x = .int i ∧ Q (.bl (decide (lo ≤ i ∧ i ≤ hi))) H) ∨ (x = .non ∧ Q (.bl false) H))
theorem ok_between (T : Tx w K mg) : Dn P w K mg base CX0 2 "is_between" ["thing", "least", "most"] spBetween := by
  obtain ⟨fd, F⟩ := T.f_is_between
  refine ⟨_, fd, F.ok sc_is_between (fun vs H Q E h => ?_) (fun cdv A outer s H vs Q E hr h => ⟨_, PSs.nox (pss_one (ps_ret
    (pe_and (pe_dn (ok_whole T) hr rfl pass0 (pa_cons (pv 0) pa_nil)) (pe_one (pe_chain op_le op_le (pv 1) (pv 0) (pv 2)))))), ?_⟩), T.g_is_between, F.kp, F.bindsN fun _ _ _ _ _ _ us hl => match us, hl with | [_, _, _], _ => rfl⟩
  · obtain ⟨x, lo, hi, rfl, _⟩ := h
    rfl
  · obtain ⟨x, lo, hi, rfl, ⟨i, rfl, h⟩ | ⟨rfl, h⟩⟩ := h
    · refine ⟨_, rfl, _, rfl, .inl ⟨i, rfl, true, rfl, ?_⟩⟩
      refine ⟨_, rfl, _, rfl, _, _, rfl, rfl, _, rfl, ?_⟩
      by_cases c : lo ≤ i
      · rw [if_pos (decide_eq_true c)]
        refine ⟨_, rfl, _, _, rfl, rfl, ?_⟩
        have e : decide (i ≤ hi) = decide (lo ≤ i ∧ i ≤ hi) := by simp [c]
        show Q (.bl (decide (i ≤ hi))) H
        rw [e]
        exact h
      · rw [if_neg (by rw [decide_eq_false c]; decide)]
        have e : false = decide (lo ≤ i ∧ i ≤ hi) := by simp [c]
        show Q (.bl false) H
        rw [e]
        exact h
    · exact ⟨_, rfl, _, rfl, .inr ⟨rfl, false, rfl, h⟩⟩
/-! ### is_name -/
def letL : List Nat := ("abcdefghijklmnopqrstuvwxyz" : Str).cps.toList
def sigL : List Nat := ("abcdefghijklmnopqrstuvwxyz0123456789" : Str).cps.toList
def isNm (x : Str) : Bool := decide (1 ≤ x.length ∧ x.length ≤ 8) && (x.cps.toList.take 1).all (fun c => decide (c ∈ letL)) && x.cps.toList.all (fun c => decide (c ∈ sigL))
def spName : Sp := fun vs H Q _ => ∃ x : Str, vs = [.str x] ∧ x.length ≤ sizeLine ∧ ∀ H', Ext H H' → Q (.bl (isNm x)) H'
theorem ok_name (T : Tx w K mg) : Dn P w K mg base CX0 1 "is_name" ["thing"] spName := by
  obtain ⟨fd, F⟩ := T.f_is_name
  obtain ⟨t1, e1⟩ := T.s_LETTERS
  obtain ⟨t2, e2⟩ := T.s_SIGNS
  obtain ⟨t3, e3⟩ := T.i_LONGEST_NAME
  refine ⟨_, fd, F.ok sc_is_name (fun vs H Q E h => ?_) (fun cdv A outer s H vs Q E hr h => ⟨_, PSs.nox (pss_cons
    (ps_if (PW.pt (pw_or (pt_not (pt_val (pe_callB call_isi rfl T.b_isinstance (by decide +kernel) (pa_cons (pv 0) (pa_cons (pe_bltn (v := .ty "str") (by rfl) T.b_str (by decide +kernel) rfl) pa_nil)))))
        (pw_or1 (pt_not (pt_chain op_le op_le pe_int (pe_callB call_len_str rfl T.b_len (by decide +kernel) (pa_cons (pv 0) pa_nil)) (pe_glob (v := .int 8) rfl e3 ⟨_, rfl⟩))))))
      (pss_one (ps_ret pe_bl)) pss_nil)
    (pss_one (ps_ret (pe_and (pe_cmpR op_in_sign (pe_item_str (pv 0) pe_int (fun _ _ => rfl)) (pe_glob (v := .str "abcdefghijklmnopqrstuvwxyz") rfl e1 ⟨_, rfl⟩) rfl)
      (pe_one (pe_callB (cr_all rfl) rfl T.b_all (by decide +kernel) (pa_cons
        (pe_lc (own := [("sign", 1)]) (g := gName 1) (tt := tYes) (by rfl) sc_is_name.nd (pi_str (pv 0)) (blkOk_by (own := [("sign", 1)]) (N := n_is_name) (sc := defScope s_is_name) (by decide +kernel)) (fun _ _ _ _ _ => pg_name (i := 1) sc_is_name.nd rfl (Or.inl rfl)) (fun _ _ _ _ _ => pts_nil)
          (fun _ _ _ _ _ => pe_cmpR op_in_sign (pv 1) (pe_glob (v := .str "abcdefghijklmnopqrstuvwxyz0123456789") rfl e2 ⟨_, rfl⟩) rfl)) pa_nil))))))), ?_⟩), T.g_is_name, F.kp, F.bindsN fun _ _ _ _ _ _ us hl => match us, hl with | [_], _ => rfl⟩
  · obtain ⟨x, rfl, _⟩ := h
    rfl
  · obtain ⟨x, rfl, hl, h⟩ := h
    refine ⟨_, rfl, _, _, _, _, true, rfl, ClsV.ty "str", .base (.str x), kit_ty (by decide +kernel), true, rfl, ?_⟩
    refine iteF ?_
    refine ⟨_, rfl, _, rfl, hl, _, _, rfl, rfl, _, rfl, ?_⟩
    by_cases c1 : (1 : Int) ≤ (x.length : Int)
    · rw [if_pos (decide_eq_true c1)]
      refine ⟨_, _, rfl, rfl, _, rfl, ?_⟩
      by_cases c2 : (x.length : Int) ≤ 8
      · rw [decide_eq_true c2]
        refine iteF ?_
        have hlen : 0 < x.cps.size := by
          have : x.cps.size = x.length := rfl
          omega
        obtain ⟨c, hc⟩ : ∃ c, x.cps[0]? = some c := ⟨x.cps[0], by simp [hlen]⟩
        refine ⟨_, rfl, _, _, c, rfl, rfl, by decide, by decide, by omega, hc, _, _, rfl, rfl, _, rfl, ?_⟩
        have hcl : x.cps.toList[0]? = some c := by rw [Array.getElem?_toList]; exact hc
        have htk : x.cps.toList.take 1 = [c] := by
          cases q : x.cps.toList with
          | nil => rw [q] at hcl; cases hcl
          | cons d l =>
            rw [q] at hcl
            have e : d = c := Option.some.inj hcl
            rw [e]
            rfl
        have hnm : isNm x = (decide (c ∈ letL) && x.cps.toList.all (fun c => decide (c ∈ sigL))) := by
          unfold isNm
          rw [htk, decide_eq_true (⟨by omega, by omega⟩ : 1 ≤ x.length ∧ x.length ≤ 8)]
          simp
        by_cases c3 : c ∈ letL
        · rw [if_pos (show decide (c ∈ (Str.ofString "abcdefghijklmnopqrstuvwxyz").cps.toList) = true from decide_eq_true c3)]
          refine ⟨_, rfl, x, rfl, fun D hD => ?_⟩
          refine lc_acc walk_str hD (fun i acc B => B = H ∧ acc = (x.cps.toList.take i).map fun c => V.bl (decide (c ∈ sigL))) ⟨rfl, rfl⟩ (fun _ _ _ _ _ _ => trivial) ?_ ?_
          · rintro i y H1 H' acc hi hacc hl2 ⟨eB, ea⟩ ⟨eH, d, hd, ey⟩
            subst ey eH
            refine ⟨rfl, ?_⟩
            refine yes_go (iteT ?_)
            refine ⟨_, rfl, d, _, rfl, rfl, ?_⟩
            refine acc_add hacc hl2 (by have : x.cps.size = x.length := rfl; omega) ⟨eB, ?_⟩
            have hdl : x.cps.toList[i]? = some d := by rw [Array.getElem?_toList]; exact hd
            rw [ea, List.take_add_one, hdl, List.map_append]
            rfl
          · rintro H1 acc hacc hl2 ⟨eB, ea⟩
            have ea2 : acc = (x.cps.toList.map fun c => decide (c ∈ sigL)).map V.bl := by
              rw [ea, List.map_map, List.take_of_length_le (by simp)]
              rfl
            rw [ea2] at hacc
            refine ⟨D, _, rfl, SqL.of hacc, ?_⟩
            have e : (x.cps.toList.map fun c => decide (c ∈ sigL)).all id = isNm x := by
              rw [hnm, decide_eq_true c3, Bool.true_and, List.all_map]
              rfl
            rw [e]
            refine h _ ?_
            rw [← eB]
            exact ext_del
        · rw [if_neg (by rw [show decide (c ∈ (Str.ofString "abcdefghijklmnopqrstuvwxyz").cps.toList) = false from decide_eq_false c3]; decide)]
          have e : false = isNm x := by rw [hnm, decide_eq_false c3]; rfl
          show Q (.bl false) H
          rw [e]
          exact h H Ext.rfl'
      · rw [decide_eq_false c2]
        refine iteT ?_
        have e : false = isNm x := by unfold isNm; simp; omega
        show Q (.bl false) H
        rw [e]
        exact h H Ext.rfl'
    · rw [if_neg (by rw [decide_eq_false c1]; decide)]
      refine ⟨_, rfl, ?_⟩
      refine iteT ?_
      have e : false = isNm x := by unfold isNm; simp; omega
      show Q (.bl false) H
      rw [e]
      exact h H Ext.rfl'
end
end K01
set_option maxHeartbeats 1000000
namespace K01
open PySem PySem.Spec PyProof.Rows L2 Ax
structure Ev where
  name : Str
  fin : Int
  kind : Str
  needs : List Str
/-- all but a stays -/
def Off (a : Addr) (H H' : Hp) : Prop := ∀ b o, b ≠ a → H b = some o → H' b = some o
theorem Ext.off {H H' : Hp} {a : Addr} (e : Ext H H') : Off a H H' := fun b o _ h => e b o h
theorem Off.upd {H H' : Hp} {a : Addr} {o : HO} (e : Off a H H') : Off a H (upd H' a o) := fun b u hb h => by
  rw [upd_ne hb]
  exact e b u hb h
theorem Off.trans {H H1 H2 : Hp} {a : Addr} (e : Off a H H1) (e2 : Off a H1 H2) : Off a H H2 := fun b o hb h => e2 b o hb (e b o hb h)
theorem sqL_ne {K : PySem.W.Frag} {H H' : Hp} {x p : Addr} {ys : List V} {o : HO} (h : SqL K H p ys) (hx : H x = some o) (h1 : ∀ zs, o ≠ .lst zs) (h2 : ∀ q u, o ≠ .frz q u) (e : Off x H H') : SqL K H' p ys := by
  rcases h with (h | ⟨q, h⟩) | h
  · refine .inl (.inl (e p _ ?_ h))
    intro c
    rw [c, hx] at h
    exact h1 ys (Option.some.inj h)
  · refine .inl (.inr ⟨q, e p _ ?_ h⟩)
    intro c
    rw [c, hx] at h
    exact h2 _ _ (Option.some.inj h)
  · exact .inr h
theorem sqT_ne {K : PySem.W.Frag} {H H' : Hp} {x p : Addr} {ys : List V} {o : HO} (h : SqT K H p ys) (hx : H x = some o) (h1 : ∀ zs, o ≠ .tup zs) (h2 : ∀ q u, o ≠ .frz q u) (e : Off x H H') : SqT K H' p ys := by
  rcases h with (h | ⟨q, h⟩) | h
  · refine .inl (.inl (e p _ ?_ h))
    intro c
    rw [c, hx] at h
    exact h1 ys (Option.some.inj h)
  · refine .inl (.inr ⟨q, e p _ ?_ h⟩)
    intro c
    rw [c, hx] at h
    exact h2 _ _ (Option.some.inj h)
  · exact .inr h
/-- a tuple without a dict -/
def TupZ (H : Hp) (t : Addr) (xs : List V) : Prop := ∃ ob : Obj, H t = some (.frz ob (.tup xs)) ∧ ob.cls = .type "tuple" ∧ ob.dict = none ∧ ob.slots = #[]
theorem TupZ.sq {K : PySem.W.Frag} {H : Hp} {t : Addr} {xs : List V} (h : TupZ H t xs) : SqT K H t xs := let ⟨ob, h, _⟩ := h; .inl (.inr ⟨ob, h⟩)
theorem TupZ.ext {H H' : Hp} {t : Addr} {xs : List V} (h : TupZ H t xs) (x : Ext H H') : TupZ H' t xs := let ⟨ob, h, a, b⟩ := h; ⟨ob, x _ _ h, a, b⟩
theorem TupZ.ne {H H' : Hp} {t x : Addr} {xs : List V} {o : HO} (h : TupZ H t xs) (hx : H x = some o) (h2 : ∀ q u, o ≠ .frz q u) (e : Off x H H') : TupZ H' t xs := by
  obtain ⟨ob, h, a, b⟩ := h
  refine ⟨ob, e t _ ?_ h, a, b⟩
  intro c
  rw [c, hx] at h
  exact h2 _ _ (Option.some.inj h)
def EvAt (K : PySem.W.Frag) (H : Hp) (a : Addr) (e : Ev) : Prop := ∃ (dx t : Addr) (fs : List (Str × V)), H a = some (.ins (He.ga K "Event") dx fs) ∧ fs.lookup ("name" : Str) = some (.str e.name) ∧ fs.lookup ("end" : Str) = some (.int e.fin) ∧ fs.lookup ("kind" : Str) = some (.str e.kind) ∧
  fs.lookup ("needs" : Str) = some (.ref t) ∧ TupZ H t (e.needs.map V.str)
theorem EvAt.ext {K : PySem.W.Frag} {H H' : Hp} {a : Addr} {e : Ev} (h : EvAt K H a e) (x : Ext H H') : EvAt K H' a e := by
  obtain ⟨dx, t, fs, h1, h2, h3, h4, h5, h6⟩ := h
  exact ⟨dx, t, fs, x _ _ h1, h2, h3, h4, h5, h6.ext x⟩
theorem EvAt.ne {K : PySem.W.Frag} {H H' : Hp} {a x : Addr} {e : Ev} {ys : List V} (h : EvAt K H a e) (hx : H x = some (.lst ys)) (o : Off x H H') : EvAt K H' a e := by
  obtain ⟨dx, t, fs, h1, h2, h3, h4, h5, h6⟩ := h
  refine ⟨dx, t, fs, o _ _ ?_ h1, h2, h3, h4, h5, h6.ne hx (fun _ _ z => by cases z) o⟩
  intro c
  rw [c, hx] at h1
  cases Option.some.inj h1
theorem EvAt.del {K : PySem.W.Frag} {H : Hp} {a x : Addr} {e : Ev} {ys : List V} (h : EvAt K H a e) (hx : H x = some (.lst ys)) : EvAt K (del H x) a e := h.ne hx fun b o hb q => by rw [del_ne hb]; exact q
section
variable {P : Program} {w : World} {K : PySem.W.Frag} {mg : Str → Option Value} {base : Heap}
/-! ### Event -/
def spEvI (K : PySem.W.Frag) : Sp := fun vs H Q _ => ∃ (x dx p : Addr) (e : Ev), vs = [.ref x, .str e.name, .int e.fin, .str e.kind, .ref p] ∧ H x = some (.ins (He.ga K "Event") dx []) ∧ SqL K H p (e.needs.map V.str) ∧ ∀ H', Off x H H' → EvAt K H' x e → Q .non H'
theorem ok_EvI (T : Tx w K mg) : Dc P w K mg base CX0 1 "Event" ["self", "name", "end", "kind", "needs"] (spEvI K) := by
  obtain ⟨fd, F⟩ := T.f_Event_init
  obtain ⟨ds, hv, hb⟩ := F.binds1 5 1 (ps := ["self", "name", "end", "kind", "needs"]) (by intro z; cases z) (by rfl) (fun Ta kV doc pm an cdv ct us its h1 h2 => match us, its, h1, h2 with
    | [_, _, _, _, _], [_], _, _ => ⟨_, rfl, rfl⟩)
  have hds : ds = [] := by
    cases hv
    rfl
  subst hds
  refine ⟨_, fd, F.ok sc_Event_init (fun vs H Q E h => ?_) (fun cdv A outer s H vs Q E hr h => ⟨_, PSs.nox (pss_cons (ps_fld (pv 0) (pv 1) rfl) (pss_cons (ps_fld (pv 0) (pv 2) rfl) (pss_cons (ps_fld (pv 0) (pv 3) rfl) (pss_one
    (ps_fld (pv 0) (pe_callTy call_tupZ rfl T.b_tuple (by decide +kernel) (pa_cons (pv 4) pa_nil)) rfl))))), ?_⟩), T.g_Event, T.k_Event, hb⟩
  · obtain ⟨x, dx, p, e, rfl, _⟩ := h
    rfl
  · obtain ⟨x, dx, p, e, rfl, hx, hp, h⟩ := h
    refine ⟨_, rfl, _, rfl, x, _, dx, [], rfl, hx, T.c_Event, T.n_Event_name, by decide, ?_⟩
    refine ⟨_, rfl, _, rfl, x, _, dx, _, rfl, upd_same, T.c_Event, T.n_Event_end, Nat.le_of_ble_eq_true rfl, ?_⟩
    refine ⟨_, rfl, _, rfl, x, _, dx, _, rfl, upd_same, T.c_Event, T.n_Event_kind, Nat.le_of_ble_eq_true rfl, ?_⟩
    have o3 : Off x H (upd (upd (upd H x (.ins (He.ga K "Event") dx (putF "name" (.str e.name) []))) x (.ins (He.ga K "Event") dx (putF "end" (.int e.fin) (putF "name" (.str e.name) [])))) x (.ins (He.ga K "Event") dx (putF "kind" (.str e.kind) (putF "end" (.int e.fin) (putF "name" (.str e.name) []))))) :=
      ((Ext.off Ext.rfl').upd.upd).upd
    refine ⟨_, rfl, p, _, rfl, sqL_ne hp hx (fun _ z => by cases z) (fun _ _ z => by cases z) o3, fun l ob hl hob hod => ?_⟩
    have hxl : x ≠ l := ne_of_none upd_same hl
    refine ⟨_, rfl, x, _, dx, _, rfl, (upd_ne hxl).trans upd_same, T.c_Event, T.n_Event_needs, Nat.le_of_ble_eq_true rfl, ?_⟩
    refine h _ ?_ ?_
    · exact (o3.trans (Ext.off (Ext.upd hl))).upd
    · exact ⟨dx, l, _, upd_same, rfl, rfl, rfl, rfl, ob, (upd_ne hxl.symm).trans upd_same, hob, hod⟩
def REv (K : PySem.W.Frag) (a b : Addr) (H : Hp) : Prop := ∃ e, EvAt K H a e ∧ EvAt K H b e
theorem kit_own {K : PySem.W.Frag} {C : Addr} : PySem.W.kitOne K (.ref C) (.ref C) = some true := by
  unfold PySem.W.kitOne
  simp
theorem ok_EvEq (T : Tx w K mg) : ∃ fd, FnOk P w K mg base CX0 2 (He.ma K (He.ga K "Event") "__eq__") fd ["self", "other"] (spEq (REv K)) ∧ Binds K fd ["self", "other"] [] := by
  obtain ⟨fd, F⟩ := T.f_Event_eq
  refine ⟨fd, F.ok sc_Event_eq (fun vs H Q E h => ?_) (fun cdv A outer s H vs Q E hr h => ⟨_, PSs.nox (pss_one (ps_ret
    (pe_and (pe_callB call_isi rfl T.b_isinstance (by decide +kernel) (pa_cons (pv 1) (pa_cons (pe_glob (v := .ref (He.ga K "Event")) rfl T.g_Event rfl) pa_nil)))
    (pe_and (pe_cmpR op_eq (pe_fld (pv 0) rfl) (pe_fld (pv 1) rfl) (nomark _)) (pe_and (pe_cmpR op_eq (pe_fld (pv 0) rfl) (pe_fld (pv 1) rfl) (nomark _)) (pe_and (pe_cmpR op_eq (pe_fld (pv 0) rfl) (pe_fld (pv 1) rfl) (nomark _))
    (pe_one (pe_cmpR (op_eqG (rcG_tup mon_flat eqG_flat) hr) (pe_fld (pv 0) rfl) (pe_fld (pv 1) rfl) (nomark _))))))))), ?_⟩), F.bindsN fun _ _ _ _ _ _ us hl => match us, hl with | [_, _], _ => rfl⟩
  · obtain ⟨a, b, rfl, _⟩ := h
    rfl
  · obtain ⟨a, b, rfl, ⟨e, ⟨dx, t, fs, h1, h2, h3, h4, h5, h6⟩, ⟨dy, u, gs, g1, g2, g3, g4, g5, g6⟩⟩, h⟩ := h
    refine ⟨_, rfl, _, _, _, _, true, rfl, ClsV.own _, .base (.ins g1 T.c_Event T.in_Event.ha T.in_Event.hn T.in_Event.htk T.in_Event.hm), kit_own, true, rfl, ?_⟩
    refine iteT ?_
    have f1 := T.c_Event
    refine ⟨_, rfl, a, _, dx, fs, _, rfl, h1, f1, T.n_Event_name, h2, _, rfl, b, _, dy, gs, _, rfl, g1, f1, T.n_Event_name, g2, rfl, _, rfl, ?_⟩
    rw [decide_eq_true rfl]
    refine iteT ?_
    refine ⟨_, rfl, a, _, dx, fs, _, rfl, h1, f1, T.n_Event_end, h3, _, rfl, b, _, dy, gs, _, rfl, g1, f1, T.n_Event_end, g3, rfl, _, rfl, ?_⟩
    rw [decide_eq_true rfl]
    refine iteT ?_
    refine ⟨_, rfl, a, _, dx, fs, _, rfl, h1, f1, T.n_Event_kind, h4, _, rfl, b, _, dy, gs, _, rfl, g1, f1, T.n_Event_kind, g4, rfl, _, rfl, ?_⟩
    rw [decide_eq_true rfl]
    refine iteT ?_
    refine ⟨_, rfl, a, _, dx, fs, _, rfl, h1, f1, T.n_Event_needs, h5, _, rfl, b, _, dy, gs, _, rfl, g1, f1, T.n_Event_needs, g5, ?_, ?_⟩
    · refine ⟨t, u, _, _, rfl, rfl, h6.sq, g6.sq, rfl, fun i x y hx hy => ?_⟩
      rw [hx] at hy
      cases Option.some.inj hy
      rw [List.getElem?_map] at hx
      cases q : e.needs[i]? with
      | none => rw [q] at hx; cases hx
      | some z =>
        rw [q] at hx
        cases Option.some.inj hx
        exact ⟨rfl, rfl, by simp [eqV]⟩
    · exact h
end
end K01
set_option maxHeartbeats 1000000
namespace K01
open PySem PySem.Spec PyProof.Rows L2 Ax
section
variable {P : Program} {w : World} {K : PySem.W.Frag} {mg : Str → Option Value} {base : Heap}
/-! ### the errors -/
/-- what stands where an error was made -/
def spErr (K : PySem.W.Frag) (C : Addr) (n : Nat) (fs : List V → Addr → List (Str × V)) : Sp := fun vs H Q _ => ∃ (a : Addr) (ws : List V), vs = .ref a :: ws ∧ ws.length = n ∧ H a = some (exo a C none) ∧
  ∀ (d t : Addr) H', H d = none → Off a H H' → H' a = some (exo a C (some d)) → H' d = some (exd d (fs ws t)) → H' t = some (.tup ws) → Q .non H'
def fsOrder (ws : List V) (t : Addr) : List (Str × V) := [("name", ws.getD 1 .non), ("what", ws.getD 0 .non), ("told", .ref t)]
theorem ok_BadOrder (T : Tx w K mg) : ∃ fd, FnOk P w K mg base CX0 2 (He.ma K (He.ga K "BadOrder") "__init__") fd ["self", "what", "name"] (spErr K (He.ga K "BadOrder") 2 fsOrder) ∧ Binds K fd ["self", "what", "name"] [] := by
  obtain ⟨fd, F⟩ := T.f_BadOrder_init
  refine ⟨fd, F.ok sc_BadOrder_init (fun vs H Q E h => ?_) (fun cdv A outer s H vs Q E hr h => ⟨_, PSs.nox (pss_cons
    (ps_ost (pv 0) (pe_tup (pa_cons (pv 1) (pa_cons (pv 2) pa_nil))))
    (pss_cons (ps_ost (pv 0) (pv 1)) (pss_one (ps_ost (pv 0) (pv 2))))), ?_⟩), F.bindsN fun _ _ _ _ _ _ us hl => match us, hl with | [_, _, _], _ => rfl⟩
  · obtain ⟨a, ws, rfl, hl, _⟩ := h
    simp [hl]
  · obtain ⟨a, ws, rfl, hl, ha, h⟩ := h
    match ws, hl with
    | [v, u], _ =>
      refine ⟨_, rfl, _, rfl, by show 2 ≤ sizeLine; decide, fun p hp => ?_⟩
      have hpa : a ≠ p := ne_of_none ha hp
      refine ⟨_, rfl, a, _, rfl, T.ox_BadOrder, T.n_BadOrder_told, .inl ⟨(upd_ne hpa).trans ha, fun d hd hda => ?_⟩⟩
      have hdp : d ≠ p := fun z => by rw [z, upd_same] at hd; cases hd
      have hd0 : H d = none := by rw [← hd, upd_ne hdp]
      refine ⟨_, rfl, _, rfl, a, _, rfl, T.ox_BadOrder, T.n_BadOrder_what, .inr ⟨d, _, upd_same, (upd_ne hda).trans upd_same, by show 1 ≤ 900; decide, ?_⟩⟩
      refine ⟨_, rfl, _, rfl, a, _, rfl, T.ox_BadOrder, T.n_BadOrder_name, .inr ⟨d, _, (upd_ne (Ne.symm hda)).trans upd_same, upd_same, by show 2 ≤ 900; decide, ?_⟩⟩
      refine h d p _ hd0 ?_ ?_ upd_same ?_
      · refine Off.trans (Ext.off (Ext.upd (o := .tup [v, u]) hp)) ?_
        intro b o hb ho
        have hbd : b ≠ d := fun z => by rw [z, hd] at ho; cases ho
        rw [upd_ne hbd, upd_ne hbd, upd_ne hb, upd_ne hbd]
        exact ho
      · exact (upd_ne (Ne.symm hda)).trans ((upd_ne (Ne.symm hda)).trans upd_same)
      · rw [upd_ne (Ne.symm hdp), upd_ne (Ne.symm hdp), upd_ne hpa.symm, upd_ne (Ne.symm hdp), upd_same]
end
end K01
set_option maxHeartbeats 1000000
namespace K01
open PySem PySem.Spec PyProof.Rows L2 Ax
theorem inV_strs (x : Str) (ys : List Str) : inV (.str x) (ys.map V.str) = decide (x ∈ ys) := by
  unfold inV
  rw [List.any_map, Bool.eq_iff_iff, List.any_eq_true, decide_eq_true_iff]
  constructor
  · rintro ⟨y, hy, h⟩
    have e : (y == x) = true := h
    rw [← beq_iff_eq.mp e]
    exact hy
  · intro h
    exact ⟨x, h, show (x == x) = true from beq_self_eq_true x⟩
theorem flat_strs (ys : List Str) : (ys.map V.str).all flatV = true := by
  rw [List.all_map, List.all_eq_true]
  intro x _
  rfl
def areN (ns el : List Str) : Bool := decide (ns.length ≤ 3) && ns.all (fun n => decide (n ∈ el) && decide (ns.count n = 1))
def evF (e : Ev) (el : List Str) : Option Str := if e.name ∈ el then some "twice" else if areN e.needs el = true then none else some "needs"
def ordF : List Str → List Ev → Option (Str × Str)
  | _, [] => none
  | el, e :: r => match evF e el with
    | some x => some (x, e.name)
    | none => ordF (el ++ [e.name]) r
structure Good (e : Ev) : Prop where
  nm : isNm e.name = true
  lo : 1 ≤ e.fin
  hi : e.fin ≤ 5
  kd : e.kind = "query" ∨ e.kind = "action"
theorem isNm_len {x : Str} (h : isNm x = true) : x.length ≤ 8 := by
  unfold isNm at h
  simp at h
  exact h.1.1.2
section
variable {P : Program} {w : World} {K : PySem.W.Frag} {mg : Str → Option Value} {base : Heap}
/-! ### are_needs, event_fault -/
def spNeeds (K : PySem.W.Frag) : Sp := fun vs H Q _ => ∃ (t l : Addr) (ns el : List Str), vs = [.ref t, .ref l] ∧ TupZ H t (ns.map V.str) ∧ SqL K H l (el.map V.str) ∧ ∀ H', Ext H H' → Q (.bl (areN ns el)) H'
theorem ok_needs (T : Tx w K mg) : Dn P w K mg base CX0 1 "are_needs" ["needs", "elder"] (spNeeds K) := by
  obtain ⟨fd, F⟩ := T.f_are_needs
  obtain ⟨t3, e3⟩ := T.i_MOST_NEEDS
  refine ⟨_, fd, F.ok sc_are_needs (fun vs H Q E h => ?_) (fun cdv A outer s H vs Q E hr h => ⟨_, PSs.nox (pss_cons
    (ps_if (pt_cmpR op_gt (pe_callB call_len_seq rfl T.b_len (by decide +kernel) (pa_cons (pv 0) pa_nil)) (pe_glob (v := .int 3) rfl e3 ⟨_, rfl⟩) (nomark _)) (pss_one (ps_ret pe_bl)) pss_nil)
    (pss_one (ps_ret (pe_callB (cr_all rfl) rfl T.b_all (by decide +kernel) (pa_cons
        (pe_lc (own := [("need", 2)]) (g := gName 2) (tt := tYes) (te := tAndV (tOp (rIn K false) (tVar 2) (tVar 1)) (tOp rEq (tTM (rCntS K) (tVar 0) (tCons (tVar 2) tNil)) (tC (.int 1)))) (by rfl) sc_are_needs.nd (pi_tup (pv 0)) (blkOk_by (own := [("need", 2)]) (N := n_are_needs) (sc := defScope s_are_needs) (by decide +kernel)) (fun _ _ _ _ _ => pg_name (i := 2) sc_are_needs.nd rfl (Or.inl rfl)) (fun _ _ _ _ _ => pts_nil)
          (fun _ _ _ _ _ => pe_and (pe_cmpR op_in_seq (pv 2) (pv 1) (by rfl)) (pe_one (pe_cmpR op_eq (pe_tm PySem.F.slot_tuple_count PySem.F.type_tuple_count (mt_tcountS hr.units) (pv 0) (pa_cons (pv 2) pa_nil)) pe_int (nomark _))))) pa_nil))))), ?_⟩), T.g_are_needs, F.kp, F.bindsN fun _ _ _ _ _ _ us hl => match us, hl with | [_, _], _ => rfl⟩
  · obtain ⟨t, l, ns, el, rfl, _⟩ := h
    rfl
  · obtain ⟨t, l, ns, el, rfl, ht, hl, h⟩ := h
    refine ⟨_, rfl, t, _, rfl, .inr ht.sq, _, _, rfl, rfl, _, rfl, ?_⟩
    rw [List.length_map]
    by_cases c : (3 : Int) < (ns.length : Int)
    · rw [decide_eq_true c]
      refine iteT ?_
      have e : false = areN ns el := by unfold areN; rw [decide_eq_false (by omega)]; rfl
      show Q (.bl false) H
      rw [e]
      exact h H Ext.rfl'
    · rw [decide_eq_false c]
      refine iteF ?_
      refine ⟨_, rfl, t, rfl, ⟨_, ht.sq⟩, fun D hD => ?_⟩
      refine lc_acc (walk_tup (K := K) (xs := ns.map V.str)) hD (fun i acc B => B = H ∧ acc = (ns.take i).map fun n => V.bl (decide (n ∈ el) && decide (ns.count n = 1))) ⟨rfl, rfl⟩ (fun i acc H1 hi _ r => ?_) ?_ ?_
      · exact ht.sq.ext (by rw [← r.1]; exact ext_del)
      · rintro i y H1 H' acc hi hacc hl2 ⟨eB, ea⟩ ⟨eH, hy⟩
        subst eH
        have x1 : Ext H H' := by rw [← eB]; exact ext_del
        rw [List.getElem?_map] at hy
        cases q : ns[i]? with
        | none => rw [q] at hy; cases hy
        | some n =>
          rw [q] at hy
          cases Option.some.inj hy
          refine ⟨rfl, ?_⟩
          refine yes_go (iteT ?_)
          have fin : ∃ acc', H' D = some (.lst acc') ∧ acc'.length < sizeLine ∧ Pacc (fun i acc B => B = H ∧ acc = (ns.take i).map fun n => V.bl (decide (n ∈ el) && decide (ns.count n = 1))) D (i + 1) (upd H' D (.lst (acc' ++ [V.bl (decide (n ∈ el) && decide (ns.count n = 1))]))) := by
            refine acc_add hacc hl2 (by rw [List.length_map] at hi; have : (4 : Nat) ≤ sizeLine := by decide
                                        omega) ⟨eB, ?_⟩
            rw [ea, List.take_add_one, q, List.map_append]
            rfl
          refine ⟨_, rfl, _, rfl, l, _, rfl, .inl (hl.ext x1), rfl, flat_strs el, _, rfl, ?_⟩
          show if inV (.str n) (el.map V.str) = true then _ else _
          rw [inV_strs]
          by_cases c1 : n ∈ el
          · rw [if_pos (decide_eq_true c1)]
            rw [decide_eq_true c1, Bool.true_and] at fin
            obtain ⟨ob, hob, hoc, hod⟩ := ht.ext x1
            refine ⟨_, rfl, ⟨t, ob, _, rfl, hob, hoc, hod.1⟩, _, rfl, t, ns, n, rfl, rfl, ht.sq.ext x1, rfl, ?_⟩
            have ed : decide (V.int ((ns.count n : Nat) : Int) = V.int 1) = decide (ns.count n = 1) := by
              rw [Bool.eq_iff_iff, decide_eq_true_iff, decide_eq_true_iff]
              constructor
              · intro z
                injection z with z
                omega
              · intro z
                rw [z]
                rfl
            rw [ed]
            exact fin
          · rw [if_neg (by rw [decide_eq_false c1]; decide)]
            rw [decide_eq_false c1, Bool.false_and] at fin
            exact fin
      · rintro H1 acc hacc hl2 ⟨eB, ea⟩
        have ea2 : acc = (ns.map fun n => (decide (n ∈ el) && decide (ns.count n = 1))).map V.bl := by
          rw [ea, List.map_map, List.take_of_length_le (by simp)]
          rfl
        rw [ea2] at hacc
        refine ⟨D, _, rfl, SqL.of hacc, ?_⟩
        have e : (ns.map fun n => (decide (n ∈ el) && decide (ns.count n = 1))).all id = areN ns el := by
          unfold areN
          rw [decide_eq_true (show ns.length ≤ 3 by omega), Bool.true_and, List.all_map]
          rfl
        rw [e]
        exact h _ (by rw [← eB]; exact ext_del)
end
end K01
set_option maxHeartbeats 1000000
namespace K01
open PySem PySem.Spec PyProof.Rows L2 Ax
def vOpt : Option Str → V
  | none => .non
  | some x => .str x
section
variable {P : Program} {w : World} {K : PySem.W.Frag} {mg : Str → Option Value} {base : Heap}
def spFault (K : PySem.W.Frag) : Sp := fun vs H Q _ => ∃ (a l : Addr) (e : Ev) (el : List Str), vs = [.ref a, .ref l] ∧ EvAt K H a e ∧ Good e ∧ SqL K H l (el.map V.str) ∧ ∀ H', Ext H H' → Q (vOpt (evF e el)) H'
theorem ok_fault (T : Tx w K mg) : Dn P w K mg base CX0 3 "event_fault" ["event", "elder"] (spFault K) := by
  obtain ⟨fd, F⟩ := T.f_event_fault
  obtain ⟨t3, e3⟩ := T.i_LAST_END
  refine ⟨_, fd, F.ok sc_event_fault (fun vs H Q E h => ?_) (fun cdv A outer s H vs Q E hr h => ⟨_, PSs.nox (pss_cons
    (ps_if (pt_not (pt_val (pe_dn ((ok_name T).mono (by decide)) hr rfl pass0 (pa_cons (pe_fld (pv 0) rfl) pa_nil)))) (pss_one (ps_ret pe_str)) pss_nil) (pss_cons
    (ps_if (pt_cmpR op_in_seq (pe_fld (pv 0) rfl) (pv 1) (by rfl)) (pss_one (ps_ret pe_str)) pss_nil) (pss_cons
    (ps_if (pt_not (pt_val (pe_dn ((ok_between T).mono (by decide)) hr rfl pass0 (pa_cons (pe_fld (pv 0) rfl) (pa_cons pe_int (pa_cons (pe_glob (v := .int 5) rfl e3 ⟨_, rfl⟩) pa_nil)))))) (pss_one (ps_ret pe_str)) pss_nil) (pss_cons
    (ps_if (pt_cmpR op_notIn_seq (pe_fld (pv 0) rfl) (pe_glob (v := .ref (He.ga K "KINDS")) rfl T.g_KINDS rfl) (by rfl)) (pss_one (ps_ret pe_str)) pss_nil) (pss_cons
    (ps_if (pt_not (pt_val (pe_dn ((ok_needs T).mono (by decide)) hr rfl pass0 (pa_cons (pe_fld (pv 0) rfl) (pa_cons (pv 1) pa_nil))))) (pss_one (ps_ret pe_str)) pss_nil)
    (pss_one (ps_ret pe_non))))))), ?_⟩), T.g_event_fault, F.kp, F.bindsN fun _ _ _ _ _ _ us hl => match us, hl with | [_, _], _ => rfl⟩
  · obtain ⟨a, l, e, el, rfl, _⟩ := h
    rfl
  · obtain ⟨a, l, e, el, rfl, ha, hg, hl, h⟩ := h
    obtain ⟨dx, t, fs, h1, h2, h3, h4, h5, h6⟩ := ha
    have f1 := T.c_Event
    refine ⟨_, rfl, a, _, dx, fs, _, rfl, h1, f1, T.n_Event_name, h2, e.name, rfl, ?_, fun H1 x1 => ?_⟩
    · have := isNm_len hg.nm
      have : 8 ≤ sizeLine := by decide
      omega
    rw [hg.nm]
    refine ⟨_, rfl, ?_⟩
    refine iteF ?_
    refine ⟨_, rfl, a, _, dx, fs, _, rfl, x1 _ _ h1, f1, T.n_Event_name, h2, _, rfl, l, _, rfl, .inl (hl.ext x1), rfl, flat_strs el, _, rfl, ?_⟩
    show if inV (.str e.name) (el.map V.str) = true then _ else _
    rw [inV_strs]
    by_cases c1 : e.name ∈ el
    · rw [decide_eq_true c1]
      refine iteT ?_
      have q : (some "twice" : Option Str) = evF e el := by unfold evF; rw [if_pos c1]
      show Q (vOpt (some "twice")) H1
      rw [q]
      exact h H1 x1
    rw [decide_eq_false c1]
    refine iteF ?_
    refine ⟨_, rfl, a, _, dx, fs, _, rfl, x1 _ _ h1, f1, T.n_Event_end, h3, _, _, _, rfl, .inl ⟨_, rfl, ?_⟩⟩
    rw [decide_eq_true ⟨hg.lo, hg.hi⟩]
    refine ⟨_, rfl, ?_⟩
    refine iteF ?_
    refine ⟨_, rfl, a, _, dx, fs, _, rfl, x1 _ _ h1, f1, T.n_Event_kind, h4, _, _, rfl, .inr (T.t_KINDS H1), rfl, rfl, _, rfl, ?_⟩
    have hk : inV (.str e.kind) ((["query", "action"] : List Str).map V.str) = true := by
      rw [inV_strs]
      rcases hg.kd with q | q <;> rw [q] <;> decide
    show if (!inV (.str e.kind) ((["query", "action"] : List Str).map V.str)) = true then _ else _
    rw [hk]
    refine iteF ?_
    refine ⟨_, rfl, a, _, dx, fs, _, rfl, x1 _ _ h1, f1, T.n_Event_needs, h5, _, rfl, t, l, e.needs, el, rfl, h6.ext x1, hl.ext x1, fun H2 x2 => ?_⟩
    refine ⟨_, rfl, ?_⟩
    cases c2 : areN e.needs el with
    | true =>
      refine iteF ?_
      have q : (none : Option Str) = evF e el := by unfold evF; rw [if_neg c1, if_pos c2]
      show Q (vOpt none) H2
      rw [q]
      exact h H2 (x1.trans x2)
    | false =>
      refine iteT ?_
      have q : (some "needs" : Option Str) = evF e el := by unfold evF; rw [if_neg c1, if_neg (by rw [c2]; decide)]
      show Q (vOpt (some "needs")) H2
      rw [q]
      exact h H2 (x1.trans x2)
end
end K01
set_option maxHeartbeats 1000000
namespace K01
open PySem PySem.Spec PyProof.Rows L2 Ax
def EvsAt (K : PySem.W.Frag) (H : Hp) (as : List Addr) (evs : List Ev) : Prop := as.length = evs.length ∧ ∀ (i : Nat) (a : Addr) (e : Ev), as[i]? = some a → evs[i]? = some e → EvAt K H a e
theorem EvsAt.ext {K : PySem.W.Frag} {H H' : Hp} {as : List Addr} {evs : List Ev} (h : EvsAt K H as evs) (x : Ext H H') : EvsAt K H' as evs := ⟨h.1, fun i a e h1 h2 => (h.2 i a e h1 h2).ext x⟩
theorem EvAt.off {K : PySem.W.Frag} {H H' : Hp} {a x : Addr} {e : Ev} {o : HO} (h : EvAt K H a e) (hx : H x = some o) (h1 : ∀ dx fs, o ≠ .ins (He.ga K "Event") dx fs) (h2 : ∀ q u, o ≠ .frz q u) (f : Off x H H') : EvAt K H' a e := by
  obtain ⟨dx, t, fs, g1, g2, g3, g4, g5, g6⟩ := h
  refine ⟨dx, t, fs, f _ _ ?_ g1, g2, g3, g4, g5, g6.ne hx h2 f⟩
  intro c
  rw [c, hx] at g1
  exact h1 _ _ (Option.some.inj g1)
theorem EvAt.off0 {K : PySem.W.Frag} {H H' : Hp} {a x : Addr} {e : Ev} (h : EvAt K H a e) (hx : H x = none) (f : Off x H H') : EvAt K H' a e := by
  obtain ⟨dx, t, fs, g1, g2, g3, g4, g5, ob, g6, g7⟩ := h
  refine ⟨dx, t, fs, f _ _ ?_ g1, g2, g3, g4, g5, ob, f _ _ ?_ g6, g7⟩
  · intro c
    rw [c, hx] at g1
    cases g1
  · intro c
    rw [c, hx] at g6
    cases g6
def OrdAt (K : PySem.W.Frag) (H : Hp) (a : Addr) (evs : List Ev) : Prop := ∃ (dx t : Addr) (as : List Addr) (fs : List (Str × V)), H a = some (.ins (He.ga K "Order") dx fs) ∧ fs.lookup ("events" : Str) = some (.ref t) ∧ SqT K H t (as.map V.ref) ∧ EvsAt K H as evs ∧ ∃ u, fs.lookup ("_names" : Str) = some (.ref u) ∧ SqT K H u ((evs.map Ev.name).map V.str) ∧ ∀ m : Str, m ≠ "events" → m ≠ "_names" → fs.lookup m = none
theorem OrdAt.ext {K : PySem.W.Frag} {H H' : Hp} {a : Addr} {evs : List Ev} (h : OrdAt K H a evs) (x : Ext H H') : OrdAt K H' a evs := by
  obtain ⟨dx, t, as, fs, h1, h2, h3, h4, u, h5, h6, h7⟩ := h
  exact ⟨dx, t, as, fs, x _ _ h1, h2, h3.ext x, h4.ext x, u, h5, h6.ext x, h7⟩
def ErrO (H : Hp) (d : Addr) (wh nm : Str) : Prop := ∃ t, H d = some (.xd (fsOrder [.str wh, .str nm] t))
theorem tup_or {K : PySem.W.Frag} {H : Hp} {p : Addr} {ys : List V} {Qc : VK} (hp : SqL K H p ys ∨ SqT K H p ys) (h : ∀ t H1, Ext H H1 → SqT K H1 t ys → Qc (.ref t) H1) :
    (SqL K H p ys ∧ ∀ l, H l = none → Qc (.ref l) (upd H l (.tup ys))) ∨ (SqT K H p ys ∧ Qc (.ref p) H) := by
  rcases hp with hp | hp
  · exact .inl ⟨hp, fun l hl => h l _ (Ext.upd hl) (SqT.of upd_same)⟩
  · exact .inr ⟨hp, h p H Ext.rfl' hp⟩
/-- tuple(xs): some tuple of the same -/
def rTupN (K : PySem.W.Frag) : List V → Hp → VK → Prop := fun xs H Q => ∃ p ys, xs = [.ref p] ∧ (SqL K H p ys ∨ SqT K H p ys) ∧ ∀ t H1, Ext H H1 → SqT K H1 t ys → Q (.ref t) H1
theorem call_tupN {X : Cx} : CallR X (.type "tuple") (rTupN X.K) := fun pins s σ H xs us Q I r ⟨p, ys, e, hp, h⟩ => call_tuple_of pins s σ H xs us Q I r ⟨p, ys, e, tup_or hp h⟩
section
variable {P : Program} {w : World} {K : PySem.W.Frag} {mg : Str → Option Value} {base : Heap}
def spOrdI (K : PySem.W.Frag) : Sp := fun vs H Q E => ∃ (x dx p : Addr) (as : List Addr) (evs : List Ev), vs = [.ref x, .ref p] ∧ H x = some (.ins (He.ga K "Order") dx []) ∧ (SqL K H p (as.map V.ref) ∨ SqT K H p (as.map V.ref)) ∧ EvsAt K H as evs ∧ (∀ e ∈ evs, Good e) ∧ evs.length ≤ 12 ∧
  (match ordF [] evs with
  | none => ∀ H', Off x H H' → OrdAt K H' x evs → Q .non H'
  | some (wh, nm) => ∀ (d : Addr) H', Off x H H' → ErrO H' d wh nm → E (.ref (He.ga K "BadOrder")) (some d) H')
theorem EvAt.offx {H H' : Hp} {a x C dx : Addr} {e : Ev} (h : EvAt K H a e) (hx : H x = some (.ins C dx [])) (f : Off x H H') : EvAt K H' a e := by
  obtain ⟨dy, t, fs, g1, g2, g3, g4, g5, g6⟩ := h
  refine ⟨dy, t, fs, f _ _ ?_ g1, g2, g3, g4, g5, g6.ne hx (fun _ _ z => by cases z) f⟩
  intro c
  rw [c, hx] at g1
  have e1 := Option.some.inj g1
  injection e1 with _ _ e2
  rw [← e2] at g2
  cases g2
theorem EvsAt.offx {H H' : Hp} {x C dx : Addr} {as : List Addr} {evs : List Ev} (h : EvsAt K H as evs) (hx : H x = some (.ins C dx [])) (f : Off x H H') : EvsAt K H' as evs := ⟨h.1, fun i a e h1 h2 => (h.2 i a e h1 h2).offx hx f⟩
theorem ext_of_off {H H' : Hp} {x : Addr} (hx : H x = none) (f : Off x H H') : Ext H H' := fun a o h => f a o (ne_of_none h hx) h
theorem iteFd {c : Prop} [Decidable c] {A B : Prop} (hc : ¬ c) (h : B) : if decide c = true then A else B := by
  rw [decide_eq_false hc]
  exact iteF h
theorem iteTd {c : Bool} {A B : Prop} (hc : c = true) (h : A) : if c = true then A else B := by
  rw [if_pos hc]
  exact h
theorem ordF_cons {el : List Str} {e : Ev} {r : List Ev} : ordF el (e :: r) = (match evF e el with | some x => some (x, e.name) | none => ordF (el ++ [e.name]) r) := rfl
theorem ok_OrdI (T : Tx w K mg) : Dc P w K mg base (CX P w) 4 "Order" ["self", "events"] (spOrdI K) := by
  obtain ⟨fd, F⟩ := T.f_Order_init
  obtain ⟨t3, e3⟩ := T.i_MOST_EVENTS
  obtain ⟨fdB, FB, bB⟩ := ok_BadOrder (P := P) (base := base) T
  refine ⟨_, fd, F.ok sc_Order_init (fun vs H Q E h => ?_) (fun cdv A outer s H vs Q E hr h => ⟨_, (pss_cons
    (ps_fld (pv 0) (pe_callTy call_tupN rfl T.b_tuple (by decide +kernel) (pa_cons (pv 1) pa_nil)) rfl) (pss_cons
    (ps_if (pt_cmpR op_gt (pe_callB call_len_seq rfl T.b_len (by decide +kernel) (pa_cons (pe_fld (pv 0) rfl) pa_nil)) (pe_glob (v := .int 12) rfl e3 ⟨_, rfl⟩) (nomark _)) pss_never pss_nil) (pss_cons
    (ps_set (i := 2) sc_Order_init.nd rfl (Or.inl rfl) (pe_lst pa_nil)) (pss_cons
    (ps_for (passes_of rfl) rfl (pi_tup (pe_fld (pv 0) rfl)) (pg_name (i := 3) sc_Order_init.nd rfl (Or.inl rfl)) (pss_cons
      (ps_set (i := 4) sc_Order_init.nd rfl (Or.inl rfl) (pe_dn (ok_fault T) hr rfl pass0 (pa_cons (pv 3) (pa_cons (pv 2) pa_nil)))) (pss_cons
      (ps_if (pt_cmpR op_notN (pv 4) pe_non (nomark _)) (pss_one (ps_raise rfl (takes_of rfl rfl rfl rfl) (pmk_oex T.ox_BadOrder T.fi_BadOrder T.ft_BadOrder (FB.mono (by decide)) hr bB .nil pass0 rfl T.g_BadOrder (pa_cons (pv 4) (pa_cons (pe_fld (pv 3) rfl) pa_nil))))) pss_nil)
      (pss_one (ps_expr (pe_bm PySem.F.plainAttrs_list PySem.F.slot_list_append PySem.F.type_list_append mt_append (pv 2) (pa_cons (pe_fld (pv 3) rfl) pa_nil))))))) 
    (pss_one (ps_fld (pv 0) (pe_callTy call_tupN rfl T.b_tuple (by decide +kernel) (pa_cons (pv 2) pa_nil)) rfl)))))), ?_⟩), T.g_Order, T.k_Order, F.bindsN fun _ _ _ _ _ _ us hl => match us, hl with | [_, _], _ => rfl⟩
  · obtain ⟨x, dx, p, as, evs, rfl, _⟩ := h
    rfl
  · obtain ⟨x, dx, p, as, evs, rfl, hx, hp, hev, hg, hlen, h⟩ := h
    have f1 := T.c_Order
    have f2 := T.n_Order_events
    refine ⟨_, rfl, p, _, rfl, hp, fun t H1 x1 ht => ?_⟩
    have hx1 := x1 _ _ hx
    refine ⟨_, rfl, x, _, dx, _, rfl, hx1, f1, f2, Nat.le_of_ble_eq_true rfl, ?_⟩
    have o2 : Off x H (upd H1 x (.ins (He.ga K "Order") dx (putF "events" (.ref t) []))) := (Ext.off x1).upd
    have o12 : Off x H1 (upd H1 x (.ins (He.ga K "Order") dx (putF "events" (.ref t) []))) := (Ext.off Ext.rfl').upd
    have ht2 := sqT_ne ht hx1 (fun _ z => by cases z) (fun _ _ z => by cases z) o12
    have hx2 : (upd H1 x (.ins (He.ga K "Order") dx (putF "events" (.ref t) []))) x = some (.ins (He.ga K "Order") dx (putF "events" (.ref t) [])) := upd_same
    have hev2 := hev.offx hx o2
    generalize (upd H1 x (.ins (He.ga K "Order") dx (putF "events" (.ref t) []))) = H2 at o2 ht2 hx2 hev2 ⊢
    refine ⟨_, rfl, x, _, dx, _, _, rfl, hx2, f1, f2, rfl, t, _, rfl, .inr ht2, _, _, rfl, rfl, _, rfl, ?_⟩
    rw [List.length_map, hev.1]
    refine iteFd (by omega) ?_
    refine ⟨by decide, fun D hD => ?_⟩
    have x3 : Ext H2 (upd H2 D (.lst [])) := Ext.upd hD
    refine ⟨_, rfl, x, _, dx, _, _, rfl, x3 _ _ hx2, f1, f2, rfl, t, rfl, ⟨_, ht2.ext x3⟩, ?_⟩
    refine for_tup (K := K) (xs := as.map V.ref) (fun i σ H' => ∃ s3 s4, σ = [some (.ref x), some (.ref p), some (.ref D), s3, s4] ∧ H' D = some (.lst (((evs.take i).map Ev.name).map V.str)) ∧ Ext H2 H' ∧ ordF ((evs.take i).map Ev.name) (evs.drop i) = ordF [] evs)
      ⟨none, none, rfl, upd_same, x3, rfl⟩ (fun i σ H' _ ⟨_, _, _, _, x4, _⟩ => ht2.ext x4) ?_ ?_
    · rintro i y σ H' hy ⟨s3, s4, rfl, hDl, x4, ho⟩
      rw [List.getElem?_map] at hy
      cases qa : as[i]? with
      | none => rw [qa] at hy; cases hy
      | some a =>
        rw [qa] at hy
        cases Option.some.inj hy
        have hi : i < evs.length := by rw [← hev.1]; exact (List.getElem?_eq_some_iff.mp qa).1
        have qe : evs[i]? = some evs[i] := List.getElem?_eq_getElem hi
        have hea : EvAt K H' a evs[i] := (hev2.2 i a _ qa qe).ext x4
        have hdr : evs.drop i = evs[i] :: evs.drop (i + 1) := List.drop_eq_getElem_cons hi
        have htk : evs.take (i + 1) = evs.take i ++ [evs[i]] := by rw [List.take_add_one, qe]; rfl
        generalize evs[i] = e at qe hea hdr htk
        have hge : Good e := hg e (List.mem_of_getElem? qe)
        rw [hdr, ordF_cons] at ho
        refine ⟨_, rfl, _, rfl, a, D, e, _, rfl, hea, hge, SqL.of hDl, fun H4 x5 => ?_⟩
        obtain ⟨dy, u, gs, g1, g2, g3, g4, g5, g6⟩ := hea.ext x5
        cases qf : evF e ((evs.take i).map Ev.name) with
        | none =>
          rw [qf] at ho
          refine ⟨_, rfl, rfl, _, rfl, ?_⟩
          refine iteF ?_
          refine ⟨_, rfl, .inl ⟨rfl, _, SqL.of (x5 _ _ hDl)⟩, _, rfl, a, _, dy, gs, _, rfl, g1, T.c_Event, T.n_Event_name, g2, D, _, _, rfl, rfl, x5 _ _ hDl, ?_, ?_⟩
          · simp only [List.length_map, List.length_take]
            have : 12 < sizeLine := by decide
            omega
          · refine ⟨_, _, rfl, ?_, ?_, ?_⟩
            · rw [htk, List.map_append, List.map_append]
              exact upd_same
            · exact ext_upd_of (x4.trans x5) hD
            · rw [htk, List.map_append]
              exact ho
        | some wd =>
          rw [qf] at ho
          refine ⟨_, rfl, rfl, _, rfl, ?_⟩
          refine iteTd (by rfl) ?_
          refine ⟨_, rfl, _, rfl, a, _, dy, gs, _, rfl, g1, T.c_Event, T.n_Event_name, g2, by show 2 ≤ 1000; decide, fun a1 ha1 => ?_⟩
          refine ⟨a1, [.str wd, .str e.name], rfl, rfl, upd_same, fun d tt H5 hd off h1' h2' h3' => ?_⟩
          have hd4 : H4 d = none := by
            by_cases c : d = a1
            · rw [c, upd_same] at hd
              cases hd
            · rw [upd_ne c] at hd
              exact hd
          have hda : d ≠ a1 := fun c => by rw [c, upd_same] at hd; cases hd
          refine ⟨rfl, d, _, h1', h2', hd4, ?_⟩
          rw [← ho] at h
          have x6 : Ext H2 (upd (del H5 a1) d (.xd (fsOrder [.str wd, .str e.name] tt))) := by
            intro b o hb
            have hb4 := x5 _ _ (x4 _ _ hb)
            have hba : b ≠ a1 := ne_of_none hb4 ha1
            have hbd : b ≠ d := ne_of_none hb4 hd4
            rw [upd_ne hbd, del_ne hba]
            refine off b o hba ?_
            rw [upd_ne hba]
            exact hb4
          exact h d _ (o2.trans (Ext.off x6)) ⟨tt, upd_same⟩
    · rintro σ H' ⟨s3, s4, rfl, hDl, x4, ho⟩
      refine ⟨_, rfl, D, _, rfl, .inl (SqL.of hDl), fun t6 H6 x6 ht6 => ?_⟩
      have hx6 := x6 _ _ (x4 _ _ hx2)
      refine ⟨_, rfl, x, _, dx, _, rfl, hx6, f1, T.n_Order__names, Nat.le_of_ble_eq_true rfl, ?_⟩
      have hor : ordF [] evs = none := by
        rw [← ho, List.length_map, hev.1, List.drop_length]
        rfl
      rw [hor] at h
      have o6 : Off x H6 (upd H6 x (.ins (He.ga K "Order") dx (putF "_names" (.ref t6) (putF "events" (.ref t) [])))) := (Ext.off Ext.rfl').upd
      have x26 : Ext H2 H6 := x4.trans x6
      have ht6' : SqT K H6 t6 ((evs.map Ev.name).map V.str) := by
        have e : evs.take (as.map V.ref).length = evs := List.take_of_length_le (by rw [List.length_map, hev.1]; exact Nat.le_refl _)
        rw [e] at ht6
        exact ht6
      refine h _ ((o2.trans (Ext.off x26)).trans o6) ⟨dx, t, as, _, upd_same, rfl, sqT_ne (ht2.ext x26) hx6 (fun _ z => by cases z) (fun _ _ z => by cases z) o6, hev.offx hx ((o2.trans (Ext.off x26)).trans o6), t6, rfl, sqT_ne ht6' hx6 (fun _ z => by cases z) (fun _ _ z => by cases z) o6, fun m m1 m2 => by rw [lookup_putF, if_neg m2, lookup_putF, if_neg m1]; rfl⟩
end
end K01
set_option maxHeartbeats 1000000
namespace K01
open PySem PySem.Spec PyProof.Rows L2 Ax
theorem iteFd' {c : Bool} {A B : Prop} (hc : c = false) (h : B) : if c = true then A else B := by
  rw [hc]
  exact iteF h
section
variable {P : Program} {w : World} {K : PySem.W.Frag} {mg : Str → Option Value} {base : Heap}
def ROrd (K : PySem.W.Frag) (a b : Addr) (H : Hp) : Prop := ∃ evs, OrdAt K H a evs ∧ OrdAt K H b evs
theorem REv.mono (a b : Addr) (H H' : Hp) (x : Ext H H') (h : REv K a b H) : REv K a b H' := let ⟨e, h1, h2⟩ := h; ⟨e, h1.ext x, h2.ext x⟩
theorem ok_OrdEq (T : Tx w K mg) : ∃ fd, FnOk P w K mg base CX0 4 (He.ma K (He.ga K "Order") "__eq__") fd ["self", "other"] (spEq (ROrd K)) ∧ Binds K fd ["self", "other"] [] := by
  obtain ⟨fd, F⟩ := T.f_Order_eq
  obtain ⟨fdE, FE, bE⟩ := ok_EvEq (P := P) (base := base) T
  refine ⟨fd, F.ok sc_Order_eq (fun vs H Q E h => ?_) (fun cdv A outer s H vs Q E hr h => ⟨_, PSs.nox (pss_one (ps_ret
    (pe_and (pe_callB call_isi rfl T.b_isinstance (by decide +kernel) (pa_cons (pv 1) (pa_cons (pe_glob (v := .ref (He.ga K "Order")) rfl T.g_Order rfl) pa_nil)))
    (pe_one (pe_cmpR (op_eqG (rcG_tup (mon_ins REv.mono) (eqG_ins FE T.m_Event_eq.at_ T.m_Event_eq.fn bE (E := E0) pass0)) hr) (pe_fld (pv 0) rfl) (pe_fld (pv 1) rfl) (nomark _)))))), ?_⟩), F.bindsN fun _ _ _ _ _ _ us hl => match us, hl with | [_, _], _ => rfl⟩
  · obtain ⟨a, b, rfl, _⟩ := h
    rfl
  · obtain ⟨a, b, rfl, ⟨evs, ⟨dx, t, as, fs, h1, h2, h3, h4, _⟩, ⟨dy, u, bs, gs, g1, g2, g3, g4, _⟩⟩, h⟩ := h
    refine ⟨_, rfl, _, _, _, _, true, rfl, ClsV.own _, .base (.ins g1 T.c_Order T.in_Order.ha T.in_Order.hn T.in_Order.htk T.in_Order.hm), kit_own, true, rfl, ?_⟩
    refine iteT ?_
    refine ⟨_, rfl, a, _, dx, fs, _, rfl, h1, T.c_Order, T.n_Order_events, h2, _, rfl, b, _, dy, gs, _, rfl, g1, T.c_Order, T.n_Order_events, g2, ?_, ?_⟩
    · refine ⟨t, u, _, _, rfl, rfl, h3, g3, by rw [List.length_map, List.length_map, h4.1, g4.1], fun i x y hx hy => ?_⟩
      rw [List.getElem?_map] at hx hy
      cases qa : as[i]? with
      | none => rw [qa] at hx; cases hx
      | some a1 =>
        cases qb : bs[i]? with
        | none => rw [qb] at hy; cases hy
        | some b1 =>
          rw [qa] at hx
          rw [qb] at hy
          cases Option.some.inj hx
          cases Option.some.inj hy
          have hi : i < evs.length := by rw [← h4.1]; exact (List.getElem?_eq_some_iff.mp qa).1
          have qe : evs[i]? = some evs[i] := List.getElem?_eq_getElem hi
          have e1 := h4.2 i a1 _ qa qe
          have e2 := g4.2 i b1 _ qb qe
          have e1' := e1
          have e2' := e2
          obtain ⟨d1, _, f1, k1, _⟩ := e1'
          obtain ⟨d2, _, f2, k2, _⟩ := e2'
          exact ⟨a1, b1, d1, d2, f1, f2, rfl, rfl, k1, k2, _, e1, e2⟩
    · exact h
theorem eqc_of {C f : Addr} (h : eqcB K C = true) (m : Meth K C "__eq__" f) : EqC K C f := by
  obtain ⟨h1, h2⟩ := Bool.and_eq_true_iff.mp h
  exact ⟨m.at_, m.fn, of_decide_eq_true h1, of_decide_eq_true h2⟩
theorem ok_iter (T : Tx w K mg) : IterC P w K mg base (He.ga K "Order") (He.ma K (He.ga K "Order") "__iter__") "events" := by
  obtain ⟨fd, F⟩ := T.f_Order_iter
  have b := FunD.bindsA (ps := ["self"]) F fun _ _ _ _ _ _ us hl => match us, hl with | [_], _ => rfl
  obtain ⟨oc, od, dV, kV, doc, pm, an, cdv, ct, osl, rfl, lk, hcd, hD, _⟩ := F.ex
  obtain ⟨i1, i2⟩ := Bool.and_eq_true_iff.mp T.it_Order
  refine ⟨T.c_Order, T.n_Order_events, of_decide_eq_true i1, i2, _, _, _, _, _, _, dV, kV, doc, pm, cdv, ct, oc, an, od, osl, rfl, lk, hcd, sc_Order_iter, fun s u => b s [u] rfl, fun A outer s H => ?_⟩
  exact PSs.nox (pss_one (ps_ret (pe_callB call_iterT rfl T.b_iter (by decide +kernel) (pa_cons (pe_fld (pv 0) rfl) pa_nil))))
end
end K01
set_option maxHeartbeats 1000000
namespace K01
open PySem PySem.Spec PyProof.Rows L2 Ax
theorem cut_from (xs : List V) (k : Nat) : cutV xs (some (k : Int)) none = xs.drop k := by
  unfold cutV
  rw [HT.sIx_nat, HT.sIx_none]
  by_cases h : k ≤ xs.length
  · rw [Nat.min_eq_left h, List.take_of_length_le (by rw [List.length_drop]; exact Nat.le_refl _)]
  · rw [Nat.min_eq_right (by omega), List.drop_length, List.take_nil, List.drop_eq_nil_of_le (by omega)]
theorem cut_to (xs : List V) (k : Nat) : cutV xs none (some (k : Int)) = xs.take k := by
  unfold cutV
  rw [HT.sIx_nat, HT.sIx_none, List.drop_zero, Nat.sub_zero]
  by_cases h : k ≤ xs.length
  · rw [Nat.min_eq_left h]
  · rw [Nat.min_eq_right (by omega), List.take_of_length_le (Nat.le_refl _), List.take_of_length_le (by omega)]
theorem EvsAt.ne {K : PySem.W.Frag} {H H' : Hp} {x : Addr} {as : List Addr} {evs : List Ev} {ys : List V} (h : EvsAt K H as evs) (hx : H x = some (.lst ys)) (o : Off x H H') : EvsAt K H' as evs := ⟨h.1, fun i a e h1 h2 => (h.2 i a e h1 h2).ne hx o⟩
theorem EvsAt.snoc {K : PySem.W.Frag} {H : Hp} {as : List Addr} {evs : List Ev} {a : Addr} {e : Ev} (h : EvsAt K H as evs) (g : EvAt K H a e) : EvsAt K H (as ++ [a]) (evs ++ [e]) := by
  refine ⟨by simp [h.1], fun i b f h1 h2 => ?_⟩
  by_cases c : i < as.length
  · rw [List.getElem?_append_left c] at h1
    rw [List.getElem?_append_left (by rw [← h.1]; exact c)] at h2
    exact h.2 i b f h1 h2
  · have c2 : i = as.length := by
      have := (List.getElem?_eq_some_iff.mp h1).1
      simp at this
      omega
    subst c2
    rw [List.getElem?_append_right (Nat.le_refl _), Nat.sub_self] at h1
    rw [h.1, List.getElem?_append_right (Nat.le_refl _), Nat.sub_self] at h2
    cases Option.some.inj h1
    cases Option.some.inj h2
    exact g
theorem off_upd {H : Hp} {a : Addr} {o : HO} : Off a H (upd H a o) := (Ext.off Ext.rfl').upd
theorem passF {X : Cx} : Passes (L2.CX X.prog X.w) X (fun _ _ _ => False) := fun _ _ _ _ _ _ _ h => by
  obtain ⟨a, B, H', cls, d, _, _, _, _, _, _, _, h⟩ := h
  exact h.elim
structure Nms (ns : List Str) : Prop where
  nd : ns.Nodup
  nm : ∀ x ∈ ns, isNm x = true
theorem Nms.perm {as bs : List Str} (h : Nms as) (p : bs.Perm as) : Nms bs := ⟨p.nodup_iff.mpr h.nd, fun x hx => h.nm x (p.mem_iff.mp hx)⟩
theorem erase_perm : ∀ (l : List Str) (i : Nat) (h : i < l.length), (l[i] :: l.eraseIdx i).Perm l
  | [], i, h => by cases h
  | x :: l, 0, _ => List.Perm.refl _
  | x :: l, i + 1, h => by
    have q := erase_perm l i (Nat.lt_of_succ_lt_succ h)
    exact (List.Perm.swap x _ _).trans (q.cons x)
theorem map_erase (f : Str → V) : ∀ (l : List Str) (i : Nat), (l.map f).eraseIdx i = (l.eraseIdx i).map f
  | [], _ => rfl
  | x :: l, 0 => rfl
  | x :: l, i + 1 => by
    show f x :: (l.map f).eraseIdx i = f x :: (l.eraseIdx i).map f
    rw [map_erase f l i]
theorem seq_nat {j n : Nat} (h : j < n) : seqIndex? (j : Int) n = some j := by
  unfold seqIndex?
  have h1 : ¬ ((j : Int) < 0) := by omega
  simp only [h1, if_false]
  rw [if_pos (by simp; omega)]
  simp
theorem take_out {fo pl : List Str} {d : Nat} (hd : d < pl.length) : (fo ++ [pl[d]] ++ pl.eraseIdx d).Perm (fo ++ pl) := by
  rw [List.append_assoc]
  exact (erase_perm pl d hd).append_left fo
def EvD (K : PySem.W.Frag) (H : Hp) (t : Addr) (e : Ev) : Prop := ∃ q, SqT K H t [.str e.name, .int e.fin, .str e.kind, .ref q] ∧ SqL K H q (e.needs.map V.str)
theorem EvD.ext {K : PySem.W.Frag} {H H' : Hp} {t : Addr} {e : Ev} (h : EvD K H t e) (x : Ext H H') : EvD K H' t e := let ⟨q, h1, h2⟩ := h; ⟨q, h1.ext x, h2.ext x⟩
def TsD (K : PySem.W.Frag) (H : Hp) (ts : List Addr) (evs : List Ev) : Prop := ts.length = evs.length ∧ ∀ (i : Nat) (t : Addr) (e : Ev), ts[i]? = some t → evs[i]? = some e → EvD K H t e
theorem TsD.ext {K : PySem.W.Frag} {H H' : Hp} {ts : List Addr} {evs : List Ev} (h : TsD K H ts evs) (x : Ext H H') : TsD K H' ts evs := ⟨h.1, fun i a e h1 h2 => (h.2 i a e h1 h2).ext x⟩
theorem TsD.nil {K : PySem.W.Frag} {H : Hp} : TsD K H [] [] := ⟨rfl, fun i t e h _ => by cases h⟩
theorem TsD.snoc {K : PySem.W.Frag} {H : Hp} {as : List Addr} {evs : List Ev} {a : Addr} {e : Ev} (h : TsD K H as evs) (g : EvD K H a e) : TsD K H (as ++ [a]) (evs ++ [e]) := by
  refine ⟨by simp [h.1], fun i b f h1 h2 => ?_⟩
  by_cases c : i < as.length
  · rw [List.getElem?_append_left c] at h1
    rw [List.getElem?_append_left (by rw [← h.1]; exact c)] at h2
    exact h.2 i b f h1 h2
  · have c2 : i = as.length := by
      have := (List.getElem?_eq_some_iff.mp h1).1
      simp at this
      omega
    subst c2
    rw [List.getElem?_append_right (Nat.le_refl _), Nat.sub_self] at h1
    rw [h.1, List.getElem?_append_right (Nat.le_refl _), Nat.sub_self] at h2
    cases Option.some.inj h1
    cases Option.some.inj h2
    exact g
theorem off_dd {H H' : Hp} {b D : Addr} (o : Off b H H') : Ext (del (del H b) D) (del (del H' b) D) := fun a u h => by
  by_cases c : a = D
  · rw [c, del_same] at h
    cases h
  · rw [del_ne c] at h ⊢
    by_cases c2 : a = b
    · rw [c2, del_same] at h
      cases h
    · rw [del_ne c2] at h ⊢
      exact o a u c2 h
theorem dd_upd {H : Hp} {b D : Addr} {o : HO} (h : D ≠ b) : del (del (upd H D o) b) D = del (del H b) D := funext fun a => by
  by_cases c : a = D
  · rw [c, del_same, del_same]
  · rw [del_ne c, del_ne c]
    by_cases c2 : a = b
    · rw [c2, del_same, del_same]
    · rw [del_ne c2, del_ne c2, upd_ne c]
theorem dd_at {H : Hp} {a b D : Addr} {o : HO} (h : H a = some o) (h1 : a ≠ b) (h2 : a ≠ D) : del (del H b) D a = some o := by
  rw [del_ne h2, del_ne h1]
  exact h
theorem small {n : Nat} (h : n < 100) : n < sizeLine := Nat.lt_trans h (by decide)
theorem ordF_snoc : ∀ (el : List Str) (evs : List Ev) (e : Ev), ordF el evs = none → ordF el (evs ++ [e]) = (match evF e (el ++ evs.map Ev.name) with | some x => some (x, e.name) | none => none)
  | el, [], e, _ => by
    show ordF el [e] = _
    rw [ordF_cons, List.map_nil, List.append_nil]
    cases evF e el <;> rfl
  | el, f :: evs, e, h => by
    rw [ordF_cons] at h
    show ordF el (f :: (evs ++ [e])) = _
    rw [ordF_cons]
    cases q : evF f el with
    | some x => rw [q] at h; cases h
    | none =>
      rw [q] at h
      dsimp only at h ⊢
      rw [ordF_snoc _ evs e h, List.map_cons, List.append_assoc]
      rfl
theorem areN_ok {ns el : List Str} (h1 : ns.length ≤ 3) (h2 : ns.Nodup) (h3 : ∀ x ∈ ns, x ∈ el) : areN ns el = true := by
  unfold areN
  rw [decide_eq_true h1, Bool.true_and, List.all_eq_true]
  intro x hx
  have c1 : ns.count x ≤ 1 := List.nodup_iff_count.mp h2 x
  have c2 : 0 < ns.count x := List.count_pos_iff.mpr hx
  rw [decide_eq_true (h3 x hx), decide_eq_true (by omega)]
  rfl
def BagAt (H : Hp) (b c : Addr) (ms : List Int) (n : Nat) : Prop := ∃ t r : Int, H b = some (.lst [.ref c, .int t, .int r]) ∧ H c = some (.lst (ms.map V.int)) ∧ b ≠ c ∧ 0 ≤ t ∧ t ≤ n ∧ 0 ≤ r ∧ ms ≠ [] ∧ ms.length ≤ 63 ∧ ∀ m ∈ ms, 0 ≤ m
theorem BagAt.ext {H H' : Hp} {b c : Addr} {ms : List Int} {n : Nat} (h : BagAt H b c ms n) (x : Ext H H') : BagAt H' b c ms n := by
  obtain ⟨t, r, h1, h2, h3⟩ := h
  exact ⟨t, r, x _ _ h1, x _ _ h2, h3⟩
theorem BagAt.mono {H : Hp} {b c : Addr} {ms : List Int} {n m : Nat} (h : BagAt H b c ms n) (x : n ≤ m) : BagAt H b c ms m := by
  obtain ⟨t, r, h1, h2, h3, h4, h5, h6⟩ := h
  exact ⟨t, r, h1, h2, h3, h4, by omega, h6⟩
theorem BagAt.ne {H H' : Hp} {b c x : Addr} {ms : List Int} {n : Nat} (h : BagAt H b c ms n) (hb : x ≠ b) (hc : x ≠ c) (o : Off x H H') : BagAt H' b c ms n := by
  obtain ⟨t, r, h1, h2, h3⟩ := h
  exact ⟨t, r, o _ _ (Ne.symm hb) h1, o _ _ (Ne.symm hc) h2, h3⟩
section
variable {P : Program} {w : World} {K : PySem.W.Frag} {mg : Str → Option Value} {base : Heap}
def spBag (K : PySem.W.Frag) : Sp := fun vs H Q _ => ∃ (a : Addr) (ns : List Int), vs = [.ref a] ∧ SqL K H a (ns.map V.int) ∧ ns.length ≤ 63 ∧ ∀ b c ms H', Ext H H' → H b = none → BagAt H' b c ms 0 → Q (.ref b) H'
theorem ok_bag (T : Tx w K mg) : Dn P w K mg base CX0 1 "_law_bag" ["script"] (spBag K) := by
  obtain ⟨fd, F⟩ := T.f_law_bag
  refine ⟨_, fd, F.ok sc_law_bag (fun vs H Q E h => ?_) (fun cdv A outer s H vs Q E hr h => ⟨_, PSs.nox (pss_cons
    (ps_setLc (i := 1) (own := [("cell", 2)]) (g := gName 2) (tt := tYes) (te := tCB (fun xs H Q => ∃ i, xs = [.int i] ∧ Q (.int (if i < 0 then -i else i)) H) (tCons (tVar 2) tNil)) (by rfl) sc_law_bag.nd rfl rfl (sw_true rfl rfl rfl (by decide +kernel)) (pi_list (pe_slice sl_list (pv 0) po_none (po_some pe_int)))
      (blkOk_by (own := [("cell", 2)]) (N := n_law_bag) (sc := defScope s_law_bag) (by decide +kernel)) (fun _ _ _ _ _ => pg_name (i := 2) sc_law_bag.nd rfl (Or.inl rfl)) (fun _ _ _ _ _ => pts_nil)
      (fun _ _ _ _ _ => pe_callB call_abs rfl T.b_abs (by decide +kernel) (pa_cons (pv 2) pa_nil))) (pss_cons
    (ps_if (pt_cmpR op_eq (pe_callB call_len_seq rfl T.b_len (by decide +kernel) (pa_cons (pv 1) pa_nil)) pe_int (nomark _)) (pss_one (ps_set (i := 1) sc_law_bag.nd rfl (Or.inl rfl) (pe_lst (pa_cons pe_int pa_nil)))) pss_nil)
    (pss_one (ps_ret (pe_lst (pa_cons (pv 1) (pa_cons pe_int (pa_cons pe_int pa_nil)))))))), ?_⟩), T.g_law_bag, F.kp, F.bindsN fun _ _ _ _ _ _ us hl => match us, hl with | [_], _ => rfl⟩
  · obtain ⟨a, ns, rfl, _⟩ := h
    rfl
  · obtain ⟨a, ns, rfl, ha, hl, h⟩ := h
    have hcut : cutV (ns.map V.int) none (some 63) = ns.map V.int := by
      have e := cut_to (ns.map V.int) 63
      rw [List.take_of_length_le (by rw [List.length_map]; exact hl)] at e
      exact e
    refine ⟨_, rfl, _, rfl, a, _, rfl, ha, fun p hp => ?_⟩
    have x1 : Ext H (upd H p (.lst (cutV (ns.map V.int) none (some 63)))) := Ext.upd hp
    have hp1 : (upd H p (.lst (cutV (ns.map V.int) none (some 63)))) p = some (.lst (ns.map V.int)) := by rw [upd_same, hcut]
    generalize (upd H p (.lst (cutV (ns.map V.int) none (some 63)))) = H1 at x1 hp1 ⊢
    refine ⟨p, rfl, ⟨_, SqL.of hp1⟩, fun D hD => ?_⟩
    refine lc_acc (walk_list (K := K) (xs := ns.map V.int)) hD (fun i acc B => Ext H1 B ∧ acc = (ns.take i).map fun m => V.int (if m < 0 then -m else m)) ⟨Ext.rfl', rfl⟩ (fun i acc H4 _ _ q => SqL.of (ext_del _ _ (q.1 _ _ hp1))) ?_ ?_
    · rintro i y H4 H' acc hi hacc hl2 ⟨xB, ea⟩ ⟨eH, hy⟩
      subst eH
      rw [List.getElem?_map] at hy
      rw [List.length_map] at hi
      cases qz : ns[i]? with
      | none => rw [qz] at hy; cases hy
      | some z =>
        rw [qz] at hy
        cases Option.some.inj hy
        refine ⟨rfl, ?_⟩
        refine yes_go (iteT ?_)
        refine ⟨_, rfl, z, rfl, ?_⟩
        refine acc_add hacc hl2 (by have : 63 < sizeLine := by decide
                                    omega) ⟨xB, ?_⟩
        rw [ea, List.take_add_one, qz, List.map_append]
        rfl
    · rintro H4 acc hacc hl2 ⟨xB, ea⟩
      have ea2 : acc = (ns.map fun m => if m < 0 then -m else m).map V.int := by
        rw [ea, List.map_map, List.length_map, List.take_of_length_le (Nat.le_refl _)]
        rfl
      rw [ea2] at hacc
      have x4 : Ext H H4 := x1.trans fun b o hb => ext_del _ _ (xB b o hb)
      have hD0 : H D = none := by
        cases q : H D with
        | none => rfl
        | some o => rw [x1 _ _ q] at hD; cases hD
      have fin : ∀ (c : Addr) (ms : List Int) (H5 : Hp), Ext H H5 → H5 c = some (.lst (ms.map V.int)) → ms ≠ [] → ms.length ≤ 63 → (∀ m ∈ ms, 0 ≤ m) → ∀ b, H5 b = none → Q (.ref b) (upd H5 b (.lst [.ref c, .int 0, .int 0])) := by
        intro c ms H5 x5 hc hne hln hpos b hb
        have hcb : c ≠ b := ne_of_none hc hb
        have hb0 : H b = none := by
          cases q : H b with
          | none => rfl
          | some o => rw [x5 _ _ q] at hb; cases hb
        exact h b c ms _ (ext_upd_of x5 hb0) hb0 ⟨0, 0, upd_same, (upd_ne hcb).trans hc, Ne.symm hcb, by decide, by decide, by decide, hne, hln, hpos⟩
      refine ⟨_, rfl, D, _, rfl, .inl (SqL.of hacc), rfl, _, rfl, ?_⟩
      by_cases c : ns = []
      · subst c
        refine iteTd (by rfl) ?_
        refine ⟨by decide, fun l hl3 => ?_⟩
        refine ⟨_, rfl, ?_, fun b hb => ?_⟩
        · show 3 ≤ sizeLine
          decide
        · exact fin l [5] _ (x4.trans (Ext.upd hl3)) upd_same (by decide) (by decide) (by decide) b hb
      · refine iteFd' ?_ ?_
        · have : ns.length ≠ 0 := fun z => c (List.length_eq_zero_iff.mp z)
          simp only [List.length_map, decide_eq_false_iff_not]
          intro z
          injection z with z
          omega
        · refine ⟨_, rfl, ?_, fun b hb => ?_⟩
          · show 3 ≤ sizeLine
            decide
          · refine fin D _ H4 x4 hacc ?_ ?_ ?_ b hb
            · intro z
              exact c (List.map_eq_nil_iff.mp z)
            · rw [List.length_map]
              exact hl
            · intro m hm
              obtain ⟨z, _, rfl⟩ := List.mem_map.mp hm
              split <;> omega
/-! ### draw -/
def spDraw : Sp := fun vs H Q _ => ∃ (b c : Addr) (ms : List Int) (n : Nat) (lim : Int), vs = [.ref b, .int lim] ∧ BagAt H b c ms n ∧ n < 1000000 ∧ 1 ≤ lim ∧ lim < 1000000 ∧ ∀ d H', 0 ≤ d → d < lim → Off b H H' → BagAt H' b c ms (n + 1) → Q (.int d) H'
theorem mod_lt {a l : Int} (h : 1 ≤ l) : 0 ≤ a % l ∧ a % l < l := ⟨Int.emod_nonneg _ (by omega), Int.emod_lt_of_pos _ (by omega)⟩
theorem ok_draw (T : Tx w K mg) : Dn P w K mg base CX0 1 "_law_draw" ["bag", "limit"] spDraw := by
  obtain ⟨fd, F⟩ := T.f_law_draw
  refine ⟨_, fd, F.ok sc_law_draw (fun vs H Q E h => ?_) (fun cdv A outer s H vs Q E hr h => ⟨_, PSs.nox (pss_cons
    (ps_if (pt_cmpR op_gt (pe_ix ix_list (pv 0) pe_int (fun _ _ => rfl)) pe_int (nomark _)) (pss_cons
      (ps_set (i := 2) sc_law_draw.nd rfl (Or.inl rfl) (pe_op op_mod (pe_callTy call_int1 rfl T.b_int (by decide +kernel) (pa_cons (pe_ix ix_list (pv 0) pe_int (fun _ _ => rfl)) pa_nil)) (pv 1))) (pss_cons
      (ps_asg (pe_op op_fdiv (pe_ix ix_list (pv 0) pe_int (fun _ _ => rfl)) (pv 1)) (pg_sub (pv 0) pe_int set_list))
      (pss_one (ps_ret (pv 2))))) pss_nil) (pss_cons
    (ps_set (i := 3) sc_law_draw.nd rfl (Or.inl rfl) (pe_ix ix_list (pv 0) pe_int (fun _ _ => rfl))) (pss_cons
    (ps_asg (pe_op op_add (pv 3) pe_int) (pg_sub (pv 0) pe_int set_list)) (pss_cons
    (ps_set (i := 4) sc_law_draw.nd rfl (Or.inl rfl) (pe_ix ix_list (pv 0) pe_int (fun _ _ => rfl))) (pss_cons
    (ps_set (i := 5) sc_law_draw.nd rfl (Or.inl rfl) (pe_ix ix_list (pv 4) (pe_op op_mod (pe_callTy call_int1 rfl T.b_int (by decide +kernel) (pa_cons (pv 3) pa_nil)) (pe_callB call_len_seq rfl T.b_len (by decide +kernel) (pa_cons (pv 4) pa_nil))) (fun _ _ => rfl))) (pss_cons
    (ps_if (PW.pt (pw_and (pt_cmpR op_lt (pv 3) (pe_callB call_len_seq rfl T.b_len (by decide +kernel) (pa_cons (pv 4) pa_nil)) (nomark _)) (pw_and1 (pt_cmpR op_ge (pv 5) (pe_op op_pow pe_int pe_int) (nomark _))))) (pss_cons
      (ps_asg (pe_op op_fdiv (pv 5) (pv 1)) (pg_sub (pv 0) pe_int set_list))
      (pss_one (ps_ret (pe_op op_mod (pe_callTy call_int1 rfl T.b_int (by decide +kernel) (pa_cons (pv 5) pa_nil)) (pv 1))))) pss_nil) (pss_cons
    (ps_set (i := 6) sc_law_draw.nd rfl (Or.inl rfl) (pe_op op_mod (pe_callTy call_int1 rfl T.b_int (by decide +kernel) (pa_cons
      (pe_op op_add (pe_op op_add (pe_op op_mul (pe_op op_add (pv 5) pe_int) pe_int) (pe_op op_mul (pe_op op_mul (pv 3) (pv 3)) pe_int)) (pe_op op_mul (pv 3) pe_int)) pa_nil)) pe_int)) (pss_cons
    (ps_set (i := 6) sc_law_draw.nd rfl (Or.inl rfl) (pe_op op_mod (pe_callTy call_int1 rfl T.b_int (by decide +kernel) (pa_cons
      (pe_op op_add (pe_op op_mul (pv 6) pe_int) (pe_op op_mul (pe_op op_add (pv 3) pe_int) pe_int)) pa_nil)) pe_int))
    (pss_one (ps_ret (pe_op op_mod (pe_callTy call_int1 rfl T.b_int (by decide +kernel) (pa_cons (pe_op op_fdiv (pv 6) pe_int) pa_nil)) (pv 1)))))))))))), ?_⟩), T.g_law_draw, F.kp, F.bindsN fun _ _ _ _ _ _ us hl => match us, hl with | [_, _], _ => rfl⟩
  · obtain ⟨b, c, ms, n, lim, rfl, _⟩ := h
    rfl
  · obtain ⟨b, c, ms, n, lim, rfl, ⟨t, r, hb, hc, hbc, ht0, htn, hr0, hne, hln, hpos⟩, hn, hl1, hl2, h⟩ := h
    refine ⟨_, rfl, b, _, _, _, rfl, rfl, SqL.of hb, atI_nat (j := 2) rfl, _, _, rfl, rfl, _, rfl, ?_⟩
    by_cases c0 : 0 < r
    · refine iteTd (decide_eq_true c0) ?_
      refine ⟨_, rfl, b, _, _, _, rfl, rfl, SqL.of hb, atI_nat (j := 2) rfl, .inl ⟨r, rfl, ?_⟩⟩
      refine ⟨_, rfl, _, _, rfl, rfl, by omega, ?_⟩
      refine ⟨_, rfl, b, _, _, _, rfl, rfl, SqL.of hb, atI_nat (j := 2) rfl, _, rfl, _, _, rfl, rfl, ⟨by omega, by omega⟩, ?_⟩
      refine ⟨_, rfl, b, _, _, 2, rfl, rfl, hb, rfl, ?_⟩
      refine ⟨_, rfl, ?_⟩
      refine h _ _ (mod_lt hl1).1 (mod_lt hl1).2 off_upd ⟨t, r / lim, upd_same, (upd_ne hbc.symm).trans hc, hbc, ht0, by omega, Int.ediv_nonneg hr0 (by omega), hne, hln, hpos⟩
    refine iteFd c0 ?_
    refine ⟨_, rfl, b, _, _, _, rfl, rfl, SqL.of hb, atI_nat (j := 1) rfl, ?_⟩
    refine ⟨_, rfl, _, _, rfl, rfl, _, rfl, b, _, _, 1, rfl, rfl, hb, rfl, ?_⟩
    have hb2 : (upd H b (.lst ([V.ref c, V.int t, V.int r].set 1 (V.int (t + 1))))) b = some (.lst [.ref c, .int (t + 1), .int r]) := upd_same
    have hc2 : (upd H b (.lst ([V.ref c, V.int t, V.int r].set 1 (V.int (t + 1))))) c = some (.lst (ms.map V.int)) := (upd_ne hbc.symm).trans hc
    have o2 : Off b H (upd H b (.lst ([V.ref c, V.int t, V.int r].set 1 (V.int (t + 1))))) := off_upd
    generalize (upd H b (.lst ([V.ref c, V.int t, V.int r].set 1 (V.int (t + 1))))) = H2 at hb2 hc2 o2 ⊢
    refine ⟨_, rfl, b, _, _, _, rfl, rfl, SqL.of hb2, atI_nat (j := 0) rfl, ?_⟩
    have hml : 0 < ms.length := by
      cases ms with
      | nil => exact absurd rfl hne
      | cons m r => exact Nat.zero_lt_succ _
    obtain ⟨j, hj⟩ : ∃ j : Nat, t % (ms.length : Int) = (j : Int) := ⟨(t % (ms.length : Int)).toNat, by
      have := Int.emod_nonneg t (show (ms.length : Int) ≠ 0 by omega)
      omega⟩
    have hjl : j < ms.length := by
      have := Int.emod_lt_of_pos t (show 0 < (ms.length : Int) by omega)
      omega
    have qm : ms[j]? = some ms[j] := List.getElem?_eq_getElem hjl
    have hm0 : 0 ≤ ms[j] := hpos _ (List.getElem_mem hjl)
    generalize ms[j] = m at qm hm0
    have hat : atI (ms.map V.int) (t % (ms.length : Int)) = some (.int m) := by
      rw [hj]
      exact atI_nat (by rw [List.getElem?_map, qm]; rfl)
    refine ⟨_, rfl, _, rfl, .inl ⟨t, rfl, ?_⟩⟩
    refine ⟨_, rfl, c, _, rfl, .inl (SqL.of hc2), ?_⟩
    refine ⟨_, _, rfl, rfl, by rw [List.length_map]; omega, ?_⟩
    refine ⟨c, _, _, _, rfl, rfl, SqL.of hc2, by rw [List.length_map]; exact hat, ?_⟩
    refine ⟨_, rfl, _, rfl, c, _, rfl, .inl (SqL.of hc2), _, _, rfl, rfl, _, rfl, ?_⟩
    by_cases c1 : t < ((ms.map V.int).length : Int)
    · refine iteTd (decide_eq_true c1) ?_
      refine ⟨_, rfl, _, _, rfl, rfl, ⟨by decide, by decide, by decide⟩, _, _, rfl, rfl, _, rfl, ?_⟩
      by_cases c2 : (10 : Int) ^ (18 : Int).toNat ≤ m
      · rw [decide_eq_true c2]
        refine iteT ?_
        refine ⟨_, rfl, _, rfl, _, _, rfl, rfl, ⟨by omega, by omega⟩, _, rfl, b, _, _, 2, rfl, rfl, hb2, rfl, ?_⟩
        refine ⟨_, rfl, .inl ⟨_, rfl, _, rfl, _, _, rfl, rfl, by omega, ?_⟩⟩
        refine h _ _ (mod_lt hl1).1 (mod_lt hl1).2 (o2.trans off_upd) ⟨t + 1, m / lim, upd_same, (upd_ne hbc.symm).trans hc2, hbc, by omega, by omega, Int.ediv_nonneg hm0 (by omega), hne, hln, hpos⟩
      · rw [decide_eq_false c2]
        refine iteF ?_
        refine ⟨_, rfl, _, _, rfl, rfl, _, _, rfl, rfl, .inr ⟨by decide, by decide⟩, _, rfl, _, rfl, _, _, rfl, rfl, .inl ⟨by omega, by omega⟩, _, _, rfl, rfl, .inr ⟨by decide, by decide⟩, _, _, rfl, rfl, _, rfl, _, _, rfl, rfl, .inr ⟨by decide, by decide⟩, _, _, rfl, rfl, .inl ⟨_, rfl, _, _, rfl, rfl, by show (0 : Int) < _; decide, ?_⟩⟩
        refine ⟨_, rfl, _, _, rfl, rfl, .inr ⟨by decide, by decide⟩, _, rfl, _, _, rfl, rfl, _, _, rfl, rfl, .inr ⟨by decide, by decide⟩, _, _, rfl, rfl, .inl ⟨_, rfl, _, _, rfl, rfl, by show (0 : Int) < _; decide, ?_⟩⟩
        refine ⟨_, rfl, _, _, rfl, rfl, ⟨by decide, by decide⟩, .inl ⟨_, rfl, _, rfl, _, _, rfl, rfl, by omega, ?_⟩⟩
        refine h _ _ (mod_lt hl1).1 (mod_lt hl1).2 o2 ⟨t + 1, r, hb2, hc2, hbc, by omega, by omega, hr0, hne, hln, hpos⟩
    · refine iteFd c1 ?_
      refine iteF ?_
      refine ⟨_, rfl, _, _, rfl, rfl, _, _, rfl, rfl, .inr ⟨by decide, by decide⟩, _, rfl, _, rfl, _, _, rfl, rfl, .inl ⟨by omega, by omega⟩, _, _, rfl, rfl, .inr ⟨by decide, by decide⟩, _, _, rfl, rfl, _, rfl, _, _, rfl, rfl, .inr ⟨by decide, by decide⟩, _, _, rfl, rfl, .inl ⟨_, rfl, _, _, rfl, rfl, by show (0 : Int) < _; decide, ?_⟩⟩
      refine ⟨_, rfl, _, _, rfl, rfl, .inr ⟨by decide, by decide⟩, _, rfl, _, _, rfl, rfl, _, _, rfl, rfl, .inr ⟨by decide, by decide⟩, _, _, rfl, rfl, .inl ⟨_, rfl, _, _, rfl, rfl, by show (0 : Int) < _; decide, ?_⟩⟩
      refine ⟨_, rfl, _, _, rfl, rfl, ⟨by decide, by decide⟩, .inl ⟨_, rfl, _, rfl, _, _, rfl, rfl, by omega, ?_⟩⟩
      refine h _ _ (mod_lt hl1).1 (mod_lt hl1).2 o2 ⟨t + 1, r, hb2, hc2, hbc, by omega, by omega, hr0, hne, hln, hpos⟩
end
end K01
set_option maxHeartbeats 1000000
namespace K01
open PySem PySem.Spec PyProof.Rows L2 Ax
/-- a method of the class C -/
def Dm (P : Program) (w : World) (K : PySem.W.Frag) (mg : Str → Option Value) (base : Heap) (CX : CXT) (k : Nat) (C : Addr) (m : Str) (ps : List Str) (sp : Sp) : Prop :=
  ∃ (f : Addr) (fd : FuncData), FnOk P w K mg base CX k f fd ps sp ∧ Meth K C m f ∧ Binds K fd ps []
theorem Dm.mono {P : Program} {w : World} {K : PySem.W.Frag} {mg : Str → Option Value} {base : Heap} {CX : CXT} {j k : Nat} {C : Addr} {m : Str} {ps : List Str} {sp : Sp} (D : Dm P w K mg base CX j C m ps sp) (h : j ≤ k) : Dm P w K mg base CX k C m ps sp :=
  let ⟨f, fd, F, a, b⟩ := D; ⟨f, fd, F.mono h, a, b⟩
theorem pe_dm {X : Cx} {CX : CXT} {k : Nat} {C : Addr} {m : Str} {ps : List Str} {sp : Sp} {E : XK} {o e : Expr} {es : List Expr} {ta : TE} {t : TA} {pos apos : Pos} {pl : Sem Bool} (D : Dm X.prog X.w X.K X.mg X.base CX k C m ps sp) (he : PE X o ta) (c : Cls X.K C) (hr : Room k X.A) (hx : Passes CX X E) (ha : PA X (e :: es) t)
    (hst : starEach (e :: es) X.env = (false, eval e X.env) :: starEach es X.env := by rfl) (hpl : (backTo pos (starEach es X.env)).any (·.1) = false := by rfl)
    (ht : eval (.Call (.Attribute o m apos) (e :: es) [] pos) X.env = (do
      let ov ← eval o X.env
      standAt apos.atName
      let (f, first) ← holding [ov] (getMethod ov m pl)
      callWith pos f first (backTo pos (starEach (e :: es) X.env)) (backToKw pos (keywordEach [] X.env))) := by rfl) :
    PE X (.Call (.Attribute o m apos) (e :: es) [] pos) (tMeth C m sp [] E ta t) := by
  obtain ⟨f, fd, F, hm, hb⟩ := D
  exact pe_meth he c hm F hr hb .nil hx ha hst hpl ht
/-- raise BadOrder(word, n) -/
theorem out_order {K : PySem.W.Frag} {C : Addr} {H : Hp} {wd nm : Str} {E : XK} (h : ∀ (d : Addr) H', Ext H H' → ErrO H' d wd nm → E (.ref C) (some d) H') : ([V.str wd, V.str nm] : List V).length ≤ 1000 ∧ ∀ a, H a = none → spErr K C 2 fsOrder (.ref a :: ([V.str wd, V.str nm] ++ [])) (upd H a (exo a C none))
    (fun v H2 => v = .non ∧ ∃ (d : Addr) (fs : List (Str × V)), H2 a = some (exo a C (some d)) ∧ H2 d = some (exd d fs) ∧ H d = none ∧ E (.ref C) (some d) (upd (del H2 a) d (.xd fs))) (fun _ _ _ => False) := by
  refine ⟨by show 2 ≤ 1000; decide, fun a1 ha1 => ?_⟩
  refine ⟨a1, [.str wd, .str nm], rfl, rfl, upd_same, fun d tt H5 hd off h1' h2' h3' => ?_⟩
  have hda : d ≠ a1 := fun c => by rw [c, upd_same] at hd; cases hd
  have hd4 : H d = none := by
    rw [upd_ne hda] at hd
    exact hd
  refine ⟨rfl, d, _, h1', h2', hd4, h d _ ?_ ⟨tt, upd_same⟩⟩
  intro b o hb
  rw [upd_ne (ne_of_none hb hd4), del_ne (ne_of_none hb ha1)]
  refine off b o (ne_of_none hb ha1) ?_
  rw [upd_ne (ne_of_none hb ha1)]
  exact hb
def plc (evs : List Ev) (n : Str) : Option Nat := evs.findIdx? fun e => e.name == n
theorem plc_none {evs : List Ev} {n : Str} (h : ∀ e ∈ evs, e.name ≠ n) : plc evs n = none := List.findIdx?_eq_none_iff.mpr fun e he => by simpa using h e he
theorem plc_some {evs : List Ev} {n : Str} {i : Nat} {e : Ev} (h : evs[i]? = some e) (hn : e.name = n) (hb : ∀ f ∈ evs.take i, f.name ≠ n) : plc evs n = some i := by
  obtain ⟨hi, he⟩ := List.getElem?_eq_some_iff.mp h
  refine List.findIdx?_eq_some_iff_getElem.mpr ⟨hi, by rw [he]; simpa using hn, fun j hj => ?_⟩
  have := hb evs[j] (List.mem_take_iff_getElem.mpr ⟨j, by omega, rfl⟩)
  simpa using this
section
variable {P : Program} {w : World} {K : PySem.W.Frag} {mg : Str → Option Value} {base : Heap}
def spPlace (K : PySem.W.Frag) : Sp := fun vs H Q E => ∃ (a : Addr) (n : Str) (evs : List Ev), vs = [.ref a, .str n] ∧ OrdAt K H a evs ∧ (match plc evs n with
  | some i => ∀ H', Ext H H' → Q (.int (i : Nat)) H'
  | none => ∀ (d : Addr) H', Ext H H' → ErrO H' d "unknown" n → E (.ref (He.ga K "BadOrder")) (some d) H')
theorem ok_place (T : Tx w K mg) : Dm P w K mg base (CX P w) 4 (He.ga K "Order") "place" ["self", "name"] (spPlace K) := by
  obtain ⟨fd, F⟩ := T.f_Order_place
  obtain ⟨fdB, FB, bB⟩ := ok_BadOrder (P := P) (base := base) T
  have nd := sc_Order_place.nd
  refine ⟨_, fd, F.ok sc_Order_place (fun vs H Q E h => ?_) (fun cdv A outer s H vs Q E hr h => ⟨_, (pss_cons
    (ps_for (passes_of rfl) rfl (pi_enumT (by rfl) T.b_enumerate (pa_cons (pe_fld (pv 0) rfl) pa_nil)) (pg_tup (by rfl) (pgs_cons (pg_name (i := 2) nd rfl (Or.inl rfl)) (pgs_cons (pg_name (i := 3) nd rfl (Or.inl rfl)) pgs_nil))) (pss_one
      (ps_if (pt_cmpR op_eq (pe_fld (pv 3) rfl) (pv 1) (nomark _)) (pss_one (ps_ret (pv 2))) pss_nil)))
    (pss_one (ps_raise rfl (takes_of rfl rfl rfl rfl) (pmk_oex T.ox_BadOrder T.fi_BadOrder T.ft_BadOrder (FB.mono (by decide)) hr bB .nil pass0 rfl T.g_BadOrder (pa_cons pe_str (pa_cons (pv 1) pa_nil)))))), ?_⟩), T.m_Order_place, F.bindsN fun _ _ _ _ _ _ us hl => match us, hl with | [_, _], _ => rfl⟩
  · obtain ⟨a, n, evs, rfl, _⟩ := h
    rfl
  · obtain ⟨a, n, evs, rfl, ⟨dx, t, as, fs, h1, h2, h3, h4, _⟩, h⟩ := h
    refine ⟨_, rfl, a, _, dx, fs, _, rfl, h1, T.c_Order, T.n_Order_events, h2, t, _, rfl, h3, ?_⟩
    refine for_it (walk_enumT (K := K) (xs := as.map V.ref)) (fun i σ H' => ∃ (s2 s3 : Option V), σ = [some (.ref a), some (.str n), s2, s3] ∧ Ext H H' ∧ ∀ f ∈ evs.take i, f.name ≠ n)
      ⟨none, none, rfl, Ext.rfl', fun f hf => by simp at hf⟩ (fun i σ H' _ ⟨_, _, _, x1, _⟩ => h3.ext x1) ?_ ?_
    · rintro i y σ H' H'' hi ⟨s2, s3, rfl, x1, hb⟩ ⟨TT, u, v, rfl, hTT, rfl, eu, ev⟩
      cases Option.some.inj eu
      have ev : (as.map V.ref)[i]? = some v := ev
      rw [List.getElem?_map] at ev
      cases qa : as[i]? with
      | none => rw [qa] at ev; cases ev
      | some ai =>
        rw [qa] at ev
        cases Option.some.inj ev
        have hi2 : i < evs.length := by rw [← h4.1]; exact (List.getElem?_eq_some_iff.mp qa).1
        have qe : evs[i]? = some evs[i] := List.getElem?_eq_getElem hi2
        have htk : evs.take (i + 1) = evs.take i ++ [evs[i]] := by rw [List.take_add_one, qe]; rfl
        generalize evs[i] = e at qe htk
        have x2 := x1.trans (Ext.upd (o := .tup [.int (i : Nat), .ref ai]) hTT)
        obtain ⟨dy, tn, gs, p1, p2, p3, p4, p5, p6⟩ := (h4.2 i ai e qa qe).ext x2
        refine ⟨TT, _, rfl, SqT.of upd_same, rfl, _, _, rfl, _, _, rfl, rfl, ?_⟩
        refine ⟨_, rfl, ai, _, dy, gs, _, rfl, p1, T.c_Event, T.n_Event_name, p2, _, rfl, rfl, _, rfl, ?_⟩
        by_cases c : e.name = n
        · refine iteTd (decide_eq_true (by rw [c])) ?_
          rw [plc_some qe c hb] at h
          exact ⟨_, rfl, h _ x2⟩
        · refine iteFd (fun z => c (V.str.inj z)) ?_
          refine ⟨_, _, rfl, x2, fun f hf => ?_⟩
          rw [htk] at hf
          rcases List.mem_append.mp hf with hf | hf
          · exact hb f hf
          · rw [List.mem_singleton.mp hf]
            exact c
    · rintro σ H' ⟨s2, s3, rfl, x1, hb⟩
      rw [List.length_map, h4.1, List.take_of_length_le (Nat.le_refl _)] at hb
      rw [plc_none hb] at h
      refine ⟨_, rfl, ?_⟩
      exact out_order fun d H2 x2 he => h d H2 (x1.trans x2) he
end
end K01
set_option maxHeartbeats 1000000
namespace K01
open PySem PySem.Spec PyProof.Rows L2 Ax
section
variable {P : Program} {w : World} {K : PySem.W.Frag} {mg : Str → Option Value} {base : Heap}
def Unk (K : PySem.W.Frag) (H : Hp) (n : Str) (E : XK) : Prop := ∀ (d : Addr) H', Ext H H' → ErrO H' d "unknown" n → E (.ref (He.ga K "BadOrder")) (some d) H'
def spEvent (K : PySem.W.Frag) : Sp := fun vs H Q E => ∃ (a : Addr) (n : Str) (evs : List Ev), vs = [.ref a, .str n] ∧ OrdAt K H a evs ∧ (match plc evs n with
  | some i => ∀ x e H', Ext H H' → evs[i]? = some e → EvAt K H' x e → Q (.ref x) H'
  | none => Unk K H n E)
theorem plc_get {evs : List Ev} {n : Str} {i : Nat} (h : plc evs n = some i) : ∃ e, evs[i]? = some e ∧ e.name = n := by
  obtain ⟨hi, he, _⟩ := List.findIdx?_eq_some_iff_getElem.mp h
  exact ⟨evs[i], List.getElem?_eq_getElem hi, by simpa using he⟩
theorem ok_event (T : Tx w K mg) : Dm P w K mg base (CX P w) 5 (He.ga K "Order") "event" ["self", "name"] (spEvent K) := by
  obtain ⟨fd, F⟩ := T.f_Order_event
  refine ⟨_, fd, F.ok sc_Order_event (fun vs H Q E h => ?_) (fun cdv A outer s H vs Q E hr h => ⟨_, (pss_one (ps_ret (pe_ix ix_tup (pe_fld (pv 0) rfl)
    (pe_dm (E := E) (ok_place T) (pv 0) T.c_Order hr (passes_call (takes_of rfl rfl rfl rfl) (fun _ _ _ _ h => h)) (pa_cons (pv 1) pa_nil)) (fun _ _ => rfl)))), ?_⟩), T.m_Order_event, F.bindsN fun _ _ _ _ _ _ us hl => match us, hl with | [_, _], _ => rfl⟩
  · obtain ⟨a, n, evs, rfl, _⟩ := h
    rfl
  · obtain ⟨a, n, evs, rfl, ho, h⟩ := h
    obtain ⟨dx, t, as, fs, h1, h2, h3, h4, nu, nh, nq, hno⟩ := id ho
    refine ⟨_, rfl, a, _, dx, fs, _, rfl, h1, T.c_Order, T.n_Order_events, h2, _, rfl, a, dx, fs, rfl, h1, ?_, _, rfl, a, n, evs, rfl, ho, ?_⟩
    · exact hno _ (by decide) (by decide)
    · cases q : plc evs n with
      | none =>
        rw [q] at h
        exact h
      | some i =>
        rw [q] at h
        obtain ⟨e, qe, _⟩ := plc_get q
        intro H1 x1
        have hi : i < as.length := by rw [h4.1]; exact (List.getElem?_eq_some_iff.mp qe).1
        have qa : as[i]? = some as[i] := List.getElem?_eq_getElem hi
        refine ⟨t, _, _, _, rfl, rfl, h3.ext x1, atI_nat (by rw [List.getElem?_map, qa]; rfl), h _ e H1 x1 qe ((h4.2 i _ e qa qe).ext x1)⟩
/-! ### _in_order, of_end, len -/
def inOrd (evs : List Ev) (ns : List Str) : List Str := (evs.map Ev.name).filter fun x => decide (x ∈ ns)
def spInOrd (K : PySem.W.Frag) : Sp := fun vs H Q _ => ∃ (a p : Addr) (evs : List Ev) (ns : List Str), vs = [.ref a, .ref p] ∧ OrdAt K H a evs ∧ evs.length ≤ 12 ∧ (SqL K H p (ns.map V.str) ∨ SqT K H p (ns.map V.str)) ∧ ∀ t H', Ext H H' → SqT K H' t ((inOrd evs ns).map V.str) → Q (.ref t) H'
theorem ok_inord (T : Tx w K mg) : Dm P w K mg base CX0 1 (He.ga K "Order") "_in_order" ["self", "names"] (spInOrd K) := by
  obtain ⟨fd, F⟩ := T.f_Order_in_order
  have nd := sc_Order_in_order.nd
  refine ⟨_, fd, F.ok sc_Order_in_order (fun vs H Q E h => ?_) (fun cdv A outer s H vs Q E hr h => ⟨_, PSs.nox (pss_one (ps_ret (pe_callTy call_tupN rfl T.b_tuple (by decide +kernel) (pa_cons
    (pe_lc (own := [("name", 2)]) (g := gName 2) (tt := tTest (tOp (rIn K false) (tVar 2) (tVar 1))) (te := tVar 2) (by rfl) nd (pi_tup (pe_fld (pv 0) rfl)) (blkOk_by (own := [("name", 2)]) (N := n_Order_in_order) (sc := defScope s_Order_in_order) (by decide +kernel)) (fun _ _ _ _ _ => pg_name (i := 2) nd rfl (Or.inl rfl))
      (fun _ _ _ _ _ => pts_one (pt_cmpR op_in_seq (pv 2) (pv 1) (by rfl))) (fun _ _ _ _ _ => pv 2)) pa_nil)))), ?_⟩), T.m_Order_in_order, F.bindsN fun _ _ _ _ _ _ us hl => match us, hl with | [_, _], _ => rfl⟩
  · obtain ⟨a, p, evs, ns, rfl, _⟩ := h
    rfl
  · obtain ⟨a, p, evs, ns, rfl, ho, hn, hp, h⟩ := h
    obtain ⟨dx, t, as, fs, h1, h2, h3, h4, nu, nh, nq, hno⟩ := id ho
    refine ⟨_, rfl, a, _, dx, fs, _, rfl, h1, T.c_Order, T.n_Order__names, nh, nu, rfl, ⟨_, nq⟩, fun D hD => ?_⟩
    refine lc_acc (walk_tup (K := K) (xs := (evs.map Ev.name).map V.str)) hD (fun i acc B => Ext H B ∧ acc = ((((evs.map Ev.name).take i)).filter fun x => decide (x ∈ ns)).map V.str) ⟨Ext.rfl', rfl⟩ (fun i acc H4 _ _ q => nq.ext fun b o hb => ext_del _ _ (q.1 b o hb)) ?_ ?_
    · rintro i y H4 H' acc hi hacc hl2 ⟨xB, ea⟩ ⟨eH, hy⟩
      subst eH
      rw [List.length_map, List.length_map] at hi
      rw [List.getElem?_map] at hy
      cases qn : (evs.map Ev.name)[i]? with
      | none => rw [qn] at hy; cases hy
      | some x =>
        rw [qn] at hy
        cases Option.some.inj hy
        have x4 : Ext H H' := fun b o hb => ext_del _ _ (xB b o hb)
        have ef : ∀ b, decide (x ∈ ns) = b → (((evs.map Ev.name).take (i + 1)).filter fun x => decide (x ∈ ns)) = (((evs.map Ev.name).take i).filter fun x => decide (x ∈ ns)) ++ (if b = true then [x] else []) := by
          intro b hb
          rw [List.take_add_one, qn, List.filter_append]
          congr 1
          show List.filter _ [x] = _
          rw [List.filter_cons, hb]
          cases b <;> rfl
        refine ⟨rfl, ?_⟩
        refine ⟨_, rfl, _, rfl, p, _, rfl, hp.elim (fun q => .inl (q.ext x4)) (fun q => .inr (q.ext x4)), rfl, flat_strs ns, _, rfl, ?_⟩
        show if inV (.str x) (ns.map V.str) = true then _ else _
        rw [inV_strs]
        by_cases c : x ∈ ns
        · refine iteTd (decide_eq_true c) ?_
          refine ⟨_, rfl, ?_⟩
          refine acc_add hacc hl2 (small (by omega)) ⟨xB, ?_⟩
          rw [ea, ef true (decide_eq_true c), List.map_append]
          rfl
        · refine iteFd c ?_
          refine acc_skip hacc hl2 ⟨xB, ?_⟩
          rw [ea, ef false (decide_eq_false c)]
          simp
    · rintro H4 acc hacc hl2 ⟨xB, ea⟩
      rw [List.length_map, List.take_of_length_le (Nat.le_refl _)] at ea
      rw [ea] at hacc
      exact ⟨D, _, rfl, .inl (SqL.of hacc), fun t2 H5 x5 ht => h t2 H5 (Ext.trans (fun b o hb => ext_del _ _ (xB b o hb)) x5) ht⟩
end
end K01
set_option maxHeartbeats 1000000
namespace K01
open PySem PySem.Spec PyProof.Rows L2 Ax
section
variable {P : Program} {w : World} {K : PySem.W.Frag} {mg : Str → Option Value} {base : Heap}
def spOfEnd (K : PySem.W.Frag) : Sp := fun vs H Q _ => ∃ (a : Addr) (n : Int) (evs : List Ev), vs = [.ref a, .int n] ∧ OrdAt K H a evs ∧ evs.length ≤ 12 ∧ ∀ t H', Ext H H' → SqT K H' t (((evs.filter fun e => decide (e.fin = n)).map Ev.name).map V.str) → Q (.ref t) H'
theorem ok_ofend (T : Tx w K mg) : Dm P w K mg base CX0 1 (He.ga K "Order") "of_end" ["self", "end"] (spOfEnd K) := by
  obtain ⟨fd, F⟩ := T.f_Order_of_end
  have nd := sc_Order_of_end.nd
  refine ⟨_, fd, F.ok sc_Order_of_end (fun vs H Q E h => ?_) (fun cdv A outer s H vs Q E hr h => ⟨_, PSs.nox (pss_one (ps_ret (pe_callTy call_tupN rfl T.b_tuple (by decide +kernel) (pa_cons
    (pe_lc (own := [("event", 2)]) (g := gName 2) (tt := tTest (tOp rEq (tFld K (tVar 2) "end") (tVar 1))) (te := tFld K (tVar 2) "name") (by rfl) nd (pi_tup (pe_fld (pv 0) rfl)) (blkOk_by (own := [("event", 2)]) (N := n_Order_of_end) (sc := defScope s_Order_of_end) (by decide +kernel)) (fun _ _ _ _ _ => pg_name (i := 2) nd rfl (Or.inl rfl))
      (fun _ _ _ _ _ => pts_one (pt_cmpR op_eq (pe_fld (pv 2) rfl) (pv 1) (nomark _))) (fun _ _ _ _ _ => pe_fld (pv 2) rfl)) pa_nil)))), ?_⟩), T.m_Order_of_end, F.bindsN fun _ _ _ _ _ _ us hl => match us, hl with | [_, _], _ => rfl⟩
  · obtain ⟨a, n, evs, rfl, _⟩ := h
    rfl
  · obtain ⟨a, n, evs, rfl, ho, hn, h⟩ := h
    obtain ⟨dx, t, as, fs, h1, h2, h3, h4, nu, nh, nq, hno⟩ := id ho
    refine ⟨_, rfl, a, _, dx, fs, _, rfl, h1, T.c_Order, T.n_Order_events, h2, t, rfl, ⟨_, h3⟩, fun D hD => ?_⟩
    refine lc_acc (walk_tup (K := K) (xs := as.map V.ref)) hD (fun i acc B => Ext H B ∧ acc = (((evs.take i).filter fun e => decide (e.fin = n)).map Ev.name).map V.str) ⟨Ext.rfl', rfl⟩ (fun i acc H4 _ _ q => h3.ext fun b o hb => ext_del _ _ (q.1 b o hb)) ?_ ?_
    · rintro i y H4 H' acc hi hacc hl2 ⟨xB, ea⟩ ⟨eH, hy⟩
      subst eH
      rw [List.length_map] at hi
      rw [List.getElem?_map] at hy
      cases qa : as[i]? with
      | none => rw [qa] at hy; cases hy
      | some ai =>
        rw [qa] at hy
        cases Option.some.inj hy
        have hi2 : i < evs.length := by rw [← h4.1]; exact hi
        have qe : evs[i]? = some evs[i] := List.getElem?_eq_getElem hi2
        generalize evs[i] = e at qe
        have x4 : Ext H H' := fun b o hb => ext_del _ _ (xB b o hb)
        obtain ⟨dy, tn, gs, p1, p2, p3, p4, p5, p6⟩ := (h4.2 i ai e qa qe).ext x4
        have ef : ∀ b, decide (e.fin = n) = b → ((evs.take (i + 1)).filter fun e => decide (e.fin = n)) = ((evs.take i).filter fun e => decide (e.fin = n)) ++ (if b = true then [e] else []) := by
          intro b hb
          rw [List.take_add_one, qe, List.filter_append]
          congr 1
          show List.filter _ [e] = _
          rw [List.filter_cons, hb]
          cases b <;> rfl
        refine ⟨rfl, ?_⟩
        refine ⟨_, rfl, ai, _, dy, gs, _, rfl, p1, T.c_Event, T.n_Event_end, p3, _, rfl, rfl, _, rfl, ?_⟩
        by_cases c : e.fin = n
        · refine iteTd (decide_eq_true (by rw [c])) ?_
          refine ⟨_, rfl, ai, _, dy, gs, _, rfl, p1, T.c_Event, T.n_Event_name, p2, ?_⟩
          refine acc_add hacc hl2 (small (by omega)) ⟨xB, ?_⟩
          rw [ea, ef true (decide_eq_true c), List.map_append, List.map_append]
          rfl
        · refine iteFd (fun z => c (V.int.inj z)) ?_
          refine acc_skip hacc hl2 ⟨xB, ?_⟩
          rw [ea, ef false (decide_eq_false c)]
          simp
    · rintro H4 acc hacc hl2 ⟨xB, ea⟩
      rw [List.length_map, h4.1, List.take_of_length_le (Nat.le_refl _)] at ea
      rw [ea] at hacc
      exact ⟨D, _, rfl, .inl (SqL.of hacc), fun t2 H5 x5 ht => h t2 H5 (Ext.trans (fun b o hb => ext_del _ _ (xB b o hb)) x5) ht⟩
/-! ### foreign -/
/-- all needs are events of the order -/
def Closed (evs : List Ev) : Prop := ∀ e ∈ evs, ∀ n ∈ e.needs, ∃ i f, plc evs n = some i ∧ evs[i]? = some f
def finOf (evs : List Ev) (n : Str) : Int := match plc evs n with
  | some i => (match evs[i]? with
    | some f => f.fin
    | none => 0)
  | none => 0
theorem finOf_eq {evs : List Ev} {n : Str} {i : Nat} {f : Ev} (h : plc evs n = some i) (q : evs[i]? = some f) : finOf evs n = f.fin := by
  unfold finOf
  rw [h]
  dsimp only
  rw [q]
def forN (evs : List Ev) (e : Ev) : List Str := e.needs.filter fun n => !decide (finOf evs n = e.fin)
def spForeign (K : PySem.W.Frag) : Sp := fun vs H Q E => ∃ (a : Addr) (n : Str) (evs : List Ev), vs = [.ref a, .str n] ∧ OrdAt K H a evs ∧ Closed evs ∧ (∀ e ∈ evs, e.needs.length ≤ 3) ∧ (match plc evs n with
  | some i => ∀ t e H', Ext H H' → evs[i]? = some e → SqT K H' t ((forN evs e).map V.str) → Q (.ref t) H'
  | none => Unk K H n E)
theorem ok_foreign (T : Tx w K mg) : Dm P w K mg base (CX P w) 6 (He.ga K "Order") "foreign" ["self", "name"] (spForeign K) := by
  obtain ⟨fd, F⟩ := T.f_Order_foreign
  have nd := sc_Order_foreign.nd
  refine ⟨_, fd, F.ok sc_Order_foreign (fun vs H Q E h => ?_) (fun cdv A outer s H vs Q E hr h => ⟨_, (pss_cons
    (ps_set (i := 2) nd rfl (Or.inr rfl) (pe_dm (E := E) (ok_event T) (pv 0) T.c_Order hr (passes_call (takes_of rfl rfl rfl rfl) (fun _ _ _ _ h => h)) (pa_cons (pv 1) pa_nil)))
    (pss_one (ps_ret (pe_callTy call_tupN rfl T.b_tuple (by decide +kernel) (pa_cons
      (pe_lc (own := [("need", 3)]) (g := gName 3) (tt := tTest (tOp rNe (tFld K (tMeth (He.ga K "Order") "event" (spEvent K) [] (fun _ _ _ => False) (tVar 0) (tCons (tVar 3) tNil)) "end") (tFld K (tVar 2) "end"))) (te := tVar 3) (by rfl) nd (pi_tup (pe_fld (pv 2) rfl)) (blkOk_by (own := [("need", 3)]) (N := n_Order_foreign) (sc := defScope s_Order_foreign) (by decide +kernel)) (fun _ _ _ _ _ => pg_name (i := 3) nd rfl (Or.inl rfl))
        (fun _ _ _ _ _ => pts_one (pt_cmpR op_ne (pe_fld (pe_dm (E := fun _ _ _ => False) (ok_event T) (pv 0) T.c_Order hr passF (pa_cons (pv 3) pa_nil)) rfl) (pe_fld (pv 2) rfl) (nomark _))) (fun _ _ _ _ _ => pv 3)) pa_nil))))), ?_⟩), T.m_Order_foreign, F.bindsN fun _ _ _ _ _ _ us hl => match us, hl with | [_, _], _ => rfl⟩
  · obtain ⟨a, n, evs, rfl, _⟩ := h
    rfl
  · obtain ⟨a, n, evs, rfl, ho, hcl, hn3, h⟩ := h
    obtain ⟨dx, t, as, fs, h1, h2, h3, h4, nu, nh, nq, hno⟩ := id ho
    refine ⟨_, rfl, a, dx, fs, rfl, h1, hno _ (by decide) (by decide), _, rfl, a, n, evs, rfl, ho, ?_⟩
    cases q : plc evs n with
    | none =>
      rw [q] at h
      exact h
    | some i =>
      rw [q] at h
      intro x e H1 x1 qe he
      have hem : e ∈ evs := List.mem_of_getElem? qe
      obtain ⟨dy, tn, gs, p1, p2, p3, p4, p5, p6⟩ := id he
      refine ⟨_, rfl, x, _, dy, gs, _, rfl, p1, T.c_Event, T.n_Event_needs, p5, tn, rfl, ⟨_, p6.sq⟩, fun D hD => ?_⟩
      refine lc_acc (walk_tup (K := K) (xs := e.needs.map V.str)) hD (fun j acc B => Ext H1 B ∧ acc = ((e.needs.take j).filter fun n => !decide (finOf evs n = e.fin)).map V.str) ⟨Ext.rfl', rfl⟩ (fun j acc H4 _ _ q => p6.sq.ext fun b o hb => ext_del _ _ (q.1 b o hb)) ?_ ?_
      · rintro j y H4 H' acc hj hacc hl2 ⟨xB, ea⟩ ⟨eH, hy⟩
        subst eH
        rw [List.length_map] at hj
        rw [List.getElem?_map] at hy
        cases qn : e.needs[j]? with
        | none => rw [qn] at hy; cases hy
        | some nd1 =>
          rw [qn] at hy
          cases Option.some.inj hy
          have x4 : Ext H1 H' := fun b o hb => ext_del _ _ (xB b o hb)
          have x04 := x1.trans x4
          obtain ⟨i2, f, g1, g2⟩ := hcl e hem nd1 (List.mem_of_getElem? qn)
          refine ⟨rfl, ?_⟩
          refine ⟨_, rfl, a, dx, fs, rfl, x04 _ _ h1, hno _ (by decide) (by decide), _, rfl, a, nd1, evs, rfl, ho.ext x04, ?_⟩
          rw [g1]
          intro z f2 H5 x5 qf hz
          rw [g2] at qf
          cases Option.some.inj qf
          obtain ⟨d5, t5, fs5, r1, r2, r3, _⟩ := hz
          have hacc5 := x5 _ _ hacc
          have ef : ∀ b, (!decide (finOf evs nd1 = e.fin)) = b → ((e.needs.take (j + 1)).filter fun n => !decide (finOf evs n = e.fin)) = ((e.needs.take j).filter fun n => !decide (finOf evs n = e.fin)) ++ (if b = true then [nd1] else []) := by
            intro b hb
            rw [List.take_add_one, qn, List.filter_append]
            congr 1
            show List.filter _ [nd1] = _
            rw [List.filter_cons, hb]
            cases b <;> rfl
          have hn3' := hn3 e hem
          refine ⟨z, _, d5, fs5, _, rfl, r1, T.c_Event, T.n_Event_end, r3, _, rfl, x, _, dy, gs, _, rfl, x5 _ _ (x4 _ _ p1), T.c_Event, T.n_Event_end, p3, rfl, _, rfl, ?_⟩
          rw [finOf_eq g1 g2] at ef
          by_cases c : f.fin = e.fin
          · refine iteFd' (by rw [decide_eq_true (by rw [c])]; rfl) ?_
            refine acc_skip hacc5 hl2 ⟨fun b o hb => ext_delD x5 _ _ (xB b o hb), ?_⟩
            rw [ea, ef false (by rw [decide_eq_true c]; rfl)]
            simp
          · refine iteTd (by rw [decide_eq_false (fun z => c (V.int.inj z))]; rfl) ?_
            refine ⟨_, rfl, ?_⟩
            refine acc_add hacc5 hl2 (small (by omega)) ⟨fun b o hb => ext_delD x5 _ _ (xB b o hb), ?_⟩
            rw [ea, ef true (by rw [decide_eq_false c]; rfl), List.map_append]
            rfl
      · rintro H4 acc hacc hl2 ⟨xB, ea⟩
        rw [List.length_map, List.take_of_length_le (Nat.le_refl _)] at ea
        rw [ea] at hacc
        exact ⟨D, _, rfl, .inl (SqL.of hacc), fun t2 H5 x5 ht => h t2 e H5 (x1.trans (Ext.trans (fun b o hb => ext_del _ _ (xB b o hb)) x5)) qe ht⟩
end
end K01
set_option maxHeartbeats 1000000
namespace K01
open PySem PySem.Spec PyProof.Rows L2 Ax
section
variable {P : Program} {w : World} {K : PySem.W.Frag} {mg : Str → Option Value} {base : Heap}
/-! ### behind -/
def behS (e : Ev) (acc : List Str) : List Str := if (e.needs.map fun n => decide (n ∈ acc)).any id = true then acc ++ [e.name] else acc
def behF : List Ev → List Str → List Str
  | [], acc => acc
  | e :: es, acc => behF es (behS e acc)
theorem behS_len (e : Ev) (acc : List Str) : (behS e acc).length ≤ acc.length + 1 := by
  unfold behS
  split
  · simp
  · omega
def spBehind (K : PySem.W.Frag) : Sp := fun vs H Q E => ∃ (a : Addr) (n : Str) (evs : List Ev), vs = [.ref a, .str n] ∧ OrdAt K H a evs ∧ evs.length ≤ 12 ∧ (∀ e ∈ evs, e.needs.length ≤ 3) ∧ (match plc evs n with
  | some _ => ∀ t H', Ext H H' → SqT K H' t (((behF evs [n]).drop 1).map V.str) → Q (.ref t) H'
  | none => Unk K H n E)
theorem ok_behind (T : Tx w K mg) : Dm P w K mg base (CX P w) 6 (He.ga K "Order") "behind" ["self", "name"] (spBehind K) := by
  obtain ⟨fd, F⟩ := T.f_Order_behind
  have nd := sc_Order_behind.nd
  refine ⟨_, fd, F.ok sc_Order_behind (fun vs H Q E h => ?_) (fun cdv A outer s H vs Q E hr h => ⟨_, (pss_cons
    (ps_set (i := 2) nd rfl (Or.inr rfl) (pe_lst (pa_cons (pe_fld (pe_dm (E := E) (ok_event T) (pv 0) T.c_Order hr (passes_call (takes_of rfl rfl rfl rfl) (fun _ _ _ _ h => h)) (pa_cons (pv 1) pa_nil)) rfl) pa_nil))) (pss_cons
    (ps_for (passes_of rfl) rfl (pi_tup (pe_fld (pv 0) rfl)) (pg_name (i := 3) nd rfl (Or.inl rfl)) (pss_one
      (ps_if (pt_val (pe_callB (cr_any rfl) rfl T.b_any (by decide +kernel) (pa_cons
        (pe_lc (own := [("need", 4)]) (g := gName 4) (tt := tYes) (te := tOp (rIn K false) (tVar 4) (tVar 2)) (by rfl) nd (pi_tup (pe_fld (pv 3) rfl)) (blkOk_by (own := [("need", 4)]) (N := n_Order_behind) (sc := defScope s_Order_behind) (by decide +kernel)) (fun _ _ _ _ _ => pg_name (i := 4) nd rfl (Or.inl rfl))
          (fun _ _ _ _ _ => pts_nil) (fun _ _ _ _ _ => pe_cmpR op_in_seq (pv 4) (pv 2) (by rfl))) pa_nil)))
        (pss_one (ps_expr (pe_bm PySem.F.plainAttrs_list PySem.F.slot_list_append PySem.F.type_list_append mt_append (pv 2) (pa_cons (pe_fld (pv 3) rfl) pa_nil)))) pss_nil)))
    (pss_one (ps_ret (pe_callTy call_tupN rfl T.b_tuple (by decide +kernel) (pa_cons (pe_slice sl_list (pv 2) (po_some pe_int) po_none) pa_nil)))))), ?_⟩), T.m_Order_behind, F.bindsN fun _ _ _ _ _ _ us hl => match us, hl with | [_, _], _ => rfl⟩
  · obtain ⟨a, n, evs, rfl, _⟩ := h
    rfl
  · obtain ⟨a, n, evs, rfl, ho, hn, hn3, h⟩ := h
    obtain ⟨dx, t, as, fs, h1, h2, h3, h4, nu, nh, nq, hno⟩ := id ho
    refine ⟨_, rfl, a, dx, fs, rfl, h1, hno _ (by decide) (by decide), _, rfl, a, n, evs, rfl, ho, ?_⟩
    cases q : plc evs n with
    | none =>
      rw [q] at h
      exact h
    | some i =>
      rw [q] at h
      obtain ⟨e0, q0, e0n⟩ := plc_get q
      intro x e H1 x1 qe he
      rw [q0] at qe
      cases Option.some.inj qe
      obtain ⟨dy, tn, gs, p1, p2, p3, p4, p5, p6⟩ := id he
      refine ⟨x, _, dy, gs, _, rfl, p1, T.c_Event, T.n_Event_name, p2, ?_⟩
      rw [e0n]
      refine ⟨by show 1 ≤ sizeLine; decide, fun D hD => ?_⟩
      have xD : Ext H1 (upd H1 D (.lst [.str n])) := Ext.upd hD
      refine ⟨_, rfl, a, _, dx, fs, _, rfl, (x1.trans xD) _ _ h1, T.c_Order, T.n_Order_events, h2, t, rfl, ⟨_, h3.ext (x1.trans xD)⟩, ?_⟩
      refine for_tup (K := K) (xs := as.map V.ref) (fun i σ H' => ∃ (s3 : Option V) (fo : List Str), σ = [some (.ref a), some (.str n), some (.ref D), s3, none] ∧ H' D = some (.lst (fo.map V.str)) ∧ Ext H1 H' ∧ fo.length ≤ i + 1 ∧ behF (evs.drop i) fo = behF evs [n])
        ⟨none, [n], rfl, upd_same, xD, Nat.le_refl _, rfl⟩ (fun i σ H' _ ⟨_, _, _, _, x4, _⟩ => h3.ext (x1.trans x4)) ?_ ?_
      · rintro i y σ H' hy ⟨s3, fo, rfl, hDl, x4, hfl, hb⟩
        rw [List.getElem?_map] at hy
        cases qa : as[i]? with
        | none => rw [qa] at hy; cases hy
        | some ai =>
          rw [qa] at hy
          cases Option.some.inj hy
          have hi : i < evs.length := by rw [← h4.1]; exact (List.getElem?_eq_some_iff.mp qa).1
          have qe : evs[i]? = some evs[i] := List.getElem?_eq_getElem hi
          have hea : EvAt K H' ai evs[i] := (h4.2 i ai _ qa qe).ext (x1.trans x4)
          have hdr : evs.drop i = evs[i] :: evs.drop (i + 1) := List.drop_eq_getElem_cons hi
          generalize evs[i] = e at qe hea hdr
          have hn3' := hn3 e (List.mem_of_getElem? qe)
          rw [hdr] at hb
          obtain ⟨dz, u, gz, g1, g2, g3, g4, g5, g6⟩ := id hea
          refine ⟨_, rfl, ai, _, dz, gz, _, rfl, g1, T.c_Event, T.n_Event_needs, g5, u, rfl, ⟨_, g6.sq⟩, fun L hL => ?_⟩
          refine lc_acc (walk_tup (K := K) (xs := e.needs.map V.str)) hL (fun j acc B => Ext H' B ∧ acc = ((e.needs.take j).map fun m => decide (m ∈ fo)).map V.bl) ⟨Ext.rfl', rfl⟩ (fun j acc H5 _ _ q => g6.sq.ext fun b o hb => ext_del _ _ (q.1 b o hb)) ?_ ?_
          · rintro j y H5 H6 acc hj hacc hl2 ⟨xB, ea⟩ ⟨eH, hy⟩
            subst eH
            rw [List.length_map] at hj
            rw [List.getElem?_map] at hy
            cases qn : e.needs[j]? with
            | none => rw [qn] at hy; cases hy
            | some m =>
              rw [qn] at hy
              cases Option.some.inj hy
              have x6 : Ext H' H6 := fun b o hb => ext_del _ _ (xB b o hb)
              refine ⟨rfl, ?_⟩
              refine yes_go (iteT ?_)
              refine ⟨_, rfl, _, rfl, D, _, rfl, .inl (SqL.of (x6 _ _ hDl)), rfl, flat_strs fo, ?_⟩
              show ∃ acc, _
              rw [inV_strs]
              refine acc_add hacc hl2 (small (by omega)) ⟨xB, ?_⟩
              rw [ea, List.take_add_one, qn, List.map_append, List.map_append]
              rfl
          · rintro H5 acc hacc hl2 ⟨xB, ea⟩
            rw [List.length_map, List.take_of_length_le (Nat.le_refl _)] at ea
            rw [ea] at hacc
            have x5 : Ext H' H5 := fun b o hb => ext_del _ _ (xB b o hb)
            refine ⟨L, _, rfl, SqL.of hacc, ?_⟩
            obtain ⟨dz5, u5, gz5, r1, r2, r3, r4, r5, r6⟩ := hea.ext x5
            refine ⟨_, rfl, ?_⟩
            have hst : behF (e :: evs.drop (i + 1)) fo = behF (evs.drop (i + 1)) (behS e fo) := rfl
            rw [hst] at hb
            by_cases c : (e.needs.map fun m => decide (m ∈ fo)).any id = true
            · have hS : behS e fo = fo ++ [e.name] := if_pos c
              rw [hS] at hb
              refine iteTd c ?_
              refine ⟨_, rfl, .inl ⟨rfl, _, SqL.of (x5 _ _ hDl)⟩, _, rfl, ai, _, dz5, gz5, _, rfl, r1, T.c_Event, T.n_Event_name, r2, D, _, _, rfl, rfl, x5 _ _ hDl, ?_, ?_⟩
              · rw [List.length_map]
                have : 20 < sizeLine := by decide
                omega
              · refine ⟨_, fo ++ [e.name], rfl, ?_, ?_, ?_, hb⟩
                · rw [List.map_append]
                  exact upd_same
                · intro b o hbo
                  rw [upd_ne (ne_of_none hbo hD)]
                  exact x5 _ _ (x4 _ _ hbo)
                · rw [List.length_append]
                  exact Nat.succ_le_succ hfl
            · have hS : behS e fo = fo := if_neg c
              rw [hS] at hb
              refine iteFd' (eq_false_of_ne_true c) ?_
              exact ⟨_, fo, rfl, x5 _ _ hDl, x4.trans x5, by omega, hb⟩
      · rintro σ H' ⟨s3, fo, rfl, hDl, x4, hfl, hb⟩
        rw [List.length_map, h4.1, List.drop_of_length_le (Nat.le_refl _)] at hb
        have hb : fo = behF evs [n] := hb
        refine ⟨_, rfl, _, rfl, D, _, rfl, SqL.of hDl, fun p hp => ?_⟩
        refine ⟨p, _, rfl, .inl (SqL.of upd_same), fun t2 H5 x5 ht => h t2 H5 (x1.trans (x4.trans ((Ext.upd hp).trans x5))) ?_⟩
        have hcut : cutV (fo.map V.str) (some 1) none = (fo.drop 1).map V.str := by
          have e1 : cutV (fo.map V.str) (some 1) none = (fo.map V.str).drop 1 := cut_from _ 1
          rw [e1, List.map_drop]
        rw [hcut, hb] at ht
        exact ht
end
end K01
set_option maxHeartbeats 1000000
namespace K01
open PySem PySem.Spec PyProof.Rows L2 Ax
theorem walk_revT {K : PySem.W.Frag} {a : Addr} {xs : List V} : Walk (RT.ItvT K a xs.length) xs.length (fun H => SqT K H a xs) (fun i H x H' => H' = H ∧ xs[xs.length - 1 - i]? = some x) :=
  ⟨fun i _ hi q => ⟨hi, xs, xs[xs.length - 1 - i]'(by omega), q, List.getElem?_eq_getElem _⟩, fun _ _ => Nat.le_refl _, fun _ _ _ _ _ q y => ⟨y.1, y.2 xs q⟩⟩
section
variable {P : Program} {w : World} {K : PySem.W.Frag} {mg : Str → Option Value} {base : Heap}
/-! ### loose -/
def loS (e : Ev) (acc : List Str) : List Str := if e.kind = "query" ∧ e.name ∈ acc then acc ++ e.needs else acc
def loF : List Ev → List Str → List Str
  | [], acc => acc
  | e :: es, acc => loF es (loS e acc)
def spLoose (K : PySem.W.Frag) : Sp := fun vs H Q E => ∃ (a : Addr) (n : Str) (evs : List Ev), vs = [.ref a, .str n] ∧ OrdAt K H a evs ∧ evs.length ≤ 12 ∧ (∀ e ∈ evs, e.needs.length ≤ 3) ∧ (match plc evs n with
  | some i => ∀ e t H', evs[i]? = some e → Ext H H' → SqT K H' t ((inOrd evs (loF evs.reverse e.needs)).map V.str) → Q (.ref t) H'
  | none => Unk K H n E)
theorem ok_loose (T : Tx w K mg) : Dm P w K mg base (CX P w) 6 (He.ga K "Order") "loose" ["self", "name"] (spLoose K) := by
  obtain ⟨fd, F⟩ := T.f_Order_loose
  have nd := sc_Order_loose.nd
  refine ⟨_, fd, F.ok sc_Order_loose (fun vs H Q E h => ?_) (fun cdv A outer s H vs Q E hr h => ⟨_, (pss_cons
    (ps_set (i := 2) nd rfl (Or.inl rfl) (pe_callTy call_list_of rfl T.b_list (by decide +kernel) (pa_cons (pe_fld (pe_dm (E := E) (ok_event T) (pv 0) T.c_Order hr (passes_call (takes_of rfl rfl rfl rfl) (fun _ _ _ _ h => h)) (pa_cons (pv 1) pa_nil)) rfl) pa_nil))) (pss_cons
    (ps_for (passes_of rfl) rfl (RT.pi_revA (by rfl) T.b_reversed (pe_fld (pv 0) rfl)) (pg_name (i := 3) nd rfl (Or.inl rfl)) (pss_one
      (ps_if (PW.pt (pw_and (pt_cmpR op_eq (pe_fld (pv 3) rfl) pe_str (nomark _)) (pw_and1 (pt_cmpR op_in_seq (pe_fld (pv 3) rfl) (pv 2) (by rfl)))))
        (pss_one (ps_expr (pe_bm PySem.F.plainAttrs_list PySem.F.slot_list_extend PySem.F.type_list_extend mt_extendT (pv 2) (pa_cons (pe_fld (pv 3) rfl) pa_nil)))) pss_nil)))
    (pss_one (ps_ret (pe_dm (E := fun _ _ _ => False) ((ok_inord T).mono (by decide)) (pv 0) T.c_Order hr pass0 (pa_cons (pv 2) pa_nil)))))), ?_⟩), T.m_Order_loose, F.bindsN fun _ _ _ _ _ _ us hl => match us, hl with | [_, _], _ => rfl⟩
  · obtain ⟨a, n, evs, rfl, _⟩ := h
    rfl
  · obtain ⟨a, n, evs, rfl, ho, hn, hn3, h⟩ := h
    obtain ⟨dx, t, as, fs, h1, h2, h3, h4, nu, nh, nq, hno⟩ := id ho
    refine ⟨_, rfl, a, dx, fs, rfl, h1, hno _ (by decide) (by decide), _, rfl, a, n, evs, rfl, ho, ?_⟩
    cases q : plc evs n with
    | none =>
      rw [q] at h
      exact h
    | some i =>
      rw [q] at h
      obtain ⟨e0, q0, e0n⟩ := plc_get q
      intro x e H1 x1 qe he
      rw [q0] at qe
      cases Option.some.inj qe
      obtain ⟨dy, tn, gs, p1, p2, p3, p4, p5, p6⟩ := id he
      have hm0 : e0 ∈ evs := List.mem_of_getElem? q0
      have hl0 := hn3 e0 hm0
      refine ⟨x, _, dy, gs, _, rfl, p1, T.c_Event, T.n_Event_needs, p5, tn, _, rfl, .inr p6.sq, fun D hD => ?_⟩
      have xD : Ext H1 (upd H1 D (.lst (e0.needs.map V.str))) := Ext.upd hD
      have hal : (as.map V.ref).length = evs.length := by rw [List.length_map, h4.1]
      refine ⟨_, rfl, a, _, dx, fs, _, rfl, (x1.trans xD) _ _ h1, T.c_Order, T.n_Order_events, h2, t, _, rfl, .inr ⟨h3.ext (x1.trans xD), ?_⟩⟩
      refine for_it (walk_revT (K := K) (xs := as.map V.ref)) (fun i σ H' => ∃ (s3 : Option V) (fo : List Str), σ = [some (.ref a), some (.str n), some (.ref D), s3] ∧ H' D = some (.lst (fo.map V.str)) ∧ Ext H1 H' ∧ fo.length ≤ 3 + 3 * i ∧ loF (evs.reverse.drop i) fo = loF evs.reverse e0.needs)
        ⟨none, e0.needs, rfl, upd_same, xD, hl0, rfl⟩ (fun i σ H' _ ⟨_, _, _, _, x4, _⟩ => h3.ext (x1.trans x4)) ?_ ?_
      · rintro i y σ H' H'' hi ⟨s3, fo, rfl, hDl, x4, hfl, hb⟩ ⟨eH, hy⟩
        subst eH
        rw [hal] at hi hy
        rw [List.getElem?_map] at hy
        cases qa : as[evs.length - 1 - i]? with
        | none => rw [qa] at hy; cases hy
        | some ai =>
          rw [qa] at hy
          cases Option.some.inj hy
          have qe : evs[evs.length - 1 - i]? = some (evs[evs.length - 1 - i]'(by omega)) := List.getElem?_eq_getElem _
          have hrl : i < evs.reverse.length := by rw [List.length_reverse]; exact hi
          have hdr : evs.reverse.drop i = (evs[evs.length - 1 - i]'(by omega)) :: evs.reverse.drop (i + 1) := by
            rw [List.drop_eq_getElem_cons hrl, List.getElem_reverse]
          have hea : EvAt K H'' ai (evs[evs.length - 1 - i]'(by omega)) := (h4.2 _ ai _ qa qe).ext (x1.trans x4)
          generalize (evs[evs.length - 1 - i]'(by omega)) = e at qe hea hdr
          have hn3' := hn3 e (List.mem_of_getElem? qe)
          rw [hdr] at hb
          have hb : loF (evs.reverse.drop (i + 1)) (loS e fo) = loF evs.reverse e0.needs := hb
          obtain ⟨dz, u, gz, g1, g2, g3, g4, g5, ob, g6, g7⟩ := id hea
          refine ⟨_, rfl, ai, _, dz, gz, _, rfl, g1, T.c_Event, T.n_Event_kind, g4, rfl, _, rfl, ?_⟩
          by_cases c1 : e.kind = "query"
          · refine iteTd (decide_eq_true (by rw [c1])) ?_
            refine ⟨_, rfl, ai, _, dz, gz, _, rfl, g1, T.c_Event, T.n_Event_name, g2, _, rfl, D, _, rfl, .inl (SqL.of hDl), rfl, flat_strs fo, _, rfl, ?_⟩
            show if inV (.str e.name) (fo.map V.str) = true then _ else _
            rw [inV_strs]
            by_cases c2 : e.name ∈ fo
            · have hS : loS e fo = fo ++ e.needs := if_pos ⟨c1, c2⟩
              rw [hS] at hb
              refine iteTd (decide_eq_true c2) ?_
              refine ⟨_, rfl, .inl ⟨rfl, _, SqL.of hDl⟩, _, rfl, ai, _, dz, gz, _, rfl, g1, T.c_Event, T.n_Event_needs, g5, D, u, _, _, ob, rfl, rfl, hDl, g6, g7.1, g7.2, ?_, ?_⟩
              · rw [List.length_map, List.length_map]
                have : 60 < sizeLine := by decide
                omega
              · refine ⟨_, fo ++ e.needs, rfl, ?_, ?_, ?_, hb⟩
                · rw [List.map_append]
                  exact upd_same
                · intro b o hbo
                  rw [upd_ne (ne_of_none hbo hD)]
                  exact x4 _ _ hbo
                · rw [List.length_append]
                  omega
            · have hS : loS e fo = fo := if_neg fun z => c2 z.2
              rw [hS] at hb
              refine iteFd c2 ?_
              exact ⟨_, fo, rfl, hDl, x4, by omega, hb⟩
          · have hS : loS e fo = fo := if_neg fun z => c1 z.1
            rw [hS] at hb
            refine iteFd (fun z => c1 (V.str.inj z)) ?_
            refine iteF ?_
            exact ⟨_, fo, rfl, hDl, x4, by omega, hb⟩
      · rintro σ H' ⟨s3, fo, rfl, hDl, x4, hfl, hb⟩
        rw [hal, List.drop_of_length_le (by rw [List.length_reverse]; exact Nat.le_refl _)] at hb
        have hb : fo = loF evs.reverse e0.needs := hb
        obtain ho5 := ho.ext (x1.trans x4)
        refine ⟨_, rfl, a, dx, fs, rfl, (x1.trans x4) _ _ h1, hno _ (by decide) (by decide), _, rfl, a, D, evs, fo, rfl, ho5, hn, .inl (SqL.of hDl), fun t2 H5 x5 ht => ?_⟩
        rw [hb] at ht
        exact h e0 t2 H5 q0 (x1.trans (x4.trans x5)) ht
end
end K01
set_option maxHeartbeats 1000000
namespace K01
open PySem PySem.Spec PyProof.Rows L2 Ax
section
variable {P : Program} {w : World} {K : PySem.W.Frag} {mg : Str → Option Value} {base : Heap}
/-! ### sources -/
def srcOf (evs : List Ev) (e : Ev) : List Str := if e.kind = "query" then inOrd evs e.needs else inOrd evs (loF evs.reverse e.needs)
def spSources (K : PySem.W.Frag) : Sp := fun vs H Q E => ∃ (a : Addr) (n : Str) (evs : List Ev), vs = [.ref a, .str n] ∧ OrdAt K H a evs ∧ evs.length ≤ 12 ∧ (∀ e ∈ evs, e.needs.length ≤ 3) ∧ (match plc evs n with
  | some i => ∀ e t H', evs[i]? = some e → Ext H H' → SqT K H' t ((srcOf evs e).map V.str) → Q (.ref t) H'
  | none => Unk K H n E)
theorem ok_sources (T : Tx w K mg) : Dm P w K mg base (CX P w) 7 (He.ga K "Order") "sources" ["self", "name"] (spSources K) := by
  obtain ⟨fd, F⟩ := T.f_Order_sources
  have nd := sc_Order_sources.nd
  refine ⟨_, fd, F.ok sc_Order_sources (fun vs H Q E h => ?_) (fun cdv A outer s H vs Q E hr h => ⟨_, (pss_cons
    (ps_set (i := 2) nd rfl (Or.inl rfl) (pe_dm (E := E) ((ok_event T).mono (by decide)) (pv 0) T.c_Order hr (passes_call (takes_of rfl rfl rfl rfl) (fun _ _ _ _ h => h)) (pa_cons (pv 1) pa_nil))) (pss_cons
    (ps_if (pt_cmpR op_eq (pe_fld (pv 2) rfl) pe_str (nomark _))
      (pss_one (ps_ret (pe_dm (E := fun _ _ _ => False) ((ok_inord T).mono (by decide)) (pv 0) T.c_Order hr pass0 (pa_cons (pe_fld (pv 2) rfl) pa_nil)))) pss_nil)
    (pss_one (ps_ret (pe_dm (E := E) (ok_loose T) (pv 0) T.c_Order hr (passes_call (takes_of rfl rfl rfl rfl) (fun _ _ _ _ h => h)) (pa_cons (pv 1) pa_nil)))))), ?_⟩), T.m_Order_sources, F.bindsN fun _ _ _ _ _ _ us hl => match us, hl with | [_, _], _ => rfl⟩
  · obtain ⟨a, n, evs, rfl, _⟩ := h
    rfl
  · obtain ⟨a, n, evs, rfl, ho, hn, hn3, h⟩ := h
    obtain ⟨dx, t, as, fs, h1, h2, h3, h4, nu, nh, nq, hno⟩ := id ho
    refine ⟨_, rfl, a, dx, fs, rfl, h1, hno _ (by decide) (by decide), _, rfl, a, n, evs, rfl, ho, ?_⟩
    cases q : plc evs n with
    | none =>
      rw [q] at h
      exact h
    | some i =>
      rw [q] at h
      obtain ⟨e0, q0, e0n⟩ := plc_get q
      intro x e H1 x1 qe he
      rw [q0] at qe
      cases Option.some.inj qe
      obtain ⟨dy, tn, gs, p1, p2, p3, p4, p5, p6⟩ := id he
      refine ⟨_, rfl, x, _, dy, gs, _, rfl, p1, T.c_Event, T.n_Event_kind, p4, rfl, _, rfl, ?_⟩
      have ho1 := ho.ext x1
      by_cases c1 : e0.kind = "query"
      · refine iteTd (decide_eq_true (by rw [c1])) ?_
        refine ⟨_, rfl, a, dx, fs, rfl, x1 _ _ h1, hno _ (by decide) (by decide), _, rfl, x, _, dy, gs, _, rfl, p1, T.c_Event, T.n_Event_needs, p5, a, tn, evs, e0.needs, rfl, ho1, hn, .inr p6.sq, fun t2 H5 x5 ht => ?_⟩
        refine h e0 t2 H5 q0 (x1.trans x5) ?_
        unfold srcOf
        rw [if_pos c1]
        exact ht
      · refine iteFd (fun z => c1 (V.str.inj z)) ?_
        refine ⟨_, rfl, a, dx, fs, rfl, x1 _ _ h1, hno _ (by decide) (by decide), _, rfl, a, n, evs, rfl, ho1, hn, hn3, ?_⟩
        rw [q]
        intro e t2 H5 q2 x5 ht
        rw [q0] at q2
        cases Option.some.inj q2
        refine h e0 t2 H5 q0 (x1.trans x5) ?_
        unfold srcOf
        rw [if_neg c1]
        exact ht
end
end K01
set_option maxHeartbeats 1000000
namespace K01
open PySem PySem.Spec PyProof.Rows L2 Ax
def rTupE (K : PySem.W.Frag) : List V → Hp → VK → Prop := fun xs H Q => ∃ p ys, xs = [.ref p] ∧ ((SqL K H p ys ∧ ∀ (l : Addr) (ob : Obj), H l = none → ob.cls = .type "tuple" → (ob.dict = none ∧ ob.slots = #[]) → Q (.ref l) (upd H l (.frz ob (.tup ys)))) ∨ (SqT K H p ys ∧ Q (.ref p) H))
theorem call_tupE {X : Cx} : CallR X (.type "tuple") (rTupE X.K) := by
  intro pins s σ H xs us Q I r h
  obtain ⟨p, ys, rfl, h⟩ := h
  rcases h with ⟨hq, q⟩ | ⟨hq, q⟩
  · exact call_tupZ pins s σ H _ us Q I r ⟨p, ys, rfl, hq, q⟩
  · exact call_tuple_of pins s σ H _ us Q I r ⟨p, ys, rfl, .inr ⟨hq, q⟩⟩
theorem rCatA_of {K : PySem.W.Frag} {a b : Addr} {xs ys : List V} {H : Hp} {Q : VK} (ha : SqT K H a xs) (hb : SqT K H b ys) (hl : xs.length + ys.length ≤ sizeLine) (h : ∀ p H', Ext H H' → SqT K H' p (xs ++ ys) → Q (.ref p) H') : rCatA K (.ref a) (.ref b) H Q := by
  refine ⟨a, b, xs, ys, rfl, rfl, ha, hb, hl, fun e => ?_, fun _ e => ?_, fun _ _ p hp => ?_⟩
  · rw [e] at h
    exact h b H Ext.rfl' hb
  · rw [e, List.append_nil] at h
    exact h a H Ext.rfl' ha
  · exact h p _ (Ext.upd hp) (SqT.of upd_same)
theorem rSlA_of {K : PySem.W.Frag} {a : Addr} {xs : List V} {lo hi : Option Int} {H : Hp} {Q : VK} (ha : SqT K H a xs) (h : ∀ p H', Ext H H' → SqT K H' p (cutV xs lo hi) → Q (.ref p) H') : rSlA K (.ref a) lo hi H Q := by
  refine ⟨a, xs, rfl, ha, fun e => ?_, fun _ p hp => h p _ (Ext.upd hp) (SqT.of upd_same)⟩
  have e1 : cutV xs lo hi = xs := by
    unfold cutV
    rw [e.1, e.2]
    simp
  rw [e1] at h
  exact h a H Ext.rfl' ha
theorem no_part {σ : L2.St} {H : Hp} {Q : Option Int → Hp → Prop} (h : Q none H) : tNoPart σ H Q := h
theorem cut_take (xs : List V) (k : Nat) (h : k ≤ xs.length) : cutV xs none (some (k : Int)) = xs.take k := by
  unfold cutV
  rw [HT.sIx_nat, HT.sIx_none, Nat.min_eq_left h]
  simp
section
variable {P : Program} {w : World} {K : PySem.W.Frag} {mg : Str → Option Value} {base : Heap}
/-! ### Event of a list or of such a tuple -/
def spEvJ (K : PySem.W.Frag) : Sp := fun vs H Q _ => ∃ (x dx p : Addr) (e : Ev), vs = [.ref x, .str e.name, .int e.fin, .str e.kind, .ref p] ∧ H x = some (.ins (He.ga K "Event") dx []) ∧ (SqL K H p (e.needs.map V.str) ∨ TupZ H p (e.needs.map V.str)) ∧ ∀ H', Off x H H' → EvAt K H' x e → Q .non H'
theorem ok_EvJ (T : Tx w K mg) : Dc P w K mg base CX0 1 "Event" ["self", "name", "end", "kind", "needs"] (spEvJ K) := by
  obtain ⟨fd, F⟩ := T.f_Event_init
  obtain ⟨ds, hv, hb⟩ := F.binds1 5 1 (ps := ["self", "name", "end", "kind", "needs"]) (by intro z; cases z) (by rfl) (fun Ta kV doc pm an cdv ct us its h1 h2 => match us, its, h1, h2 with
    | [_, _, _, _, _], [_], _, _ => ⟨_, rfl, rfl⟩)
  have hds : ds = [] := by
    cases hv
    rfl
  subst hds
  refine ⟨_, fd, F.ok sc_Event_init (fun vs H Q E h => ?_) (fun cdv A outer s H vs Q E hr h => ⟨_, PSs.nox (pss_cons (ps_fld (pv 0) (pv 1) rfl) (pss_cons (ps_fld (pv 0) (pv 2) rfl) (pss_cons (ps_fld (pv 0) (pv 3) rfl) (pss_one
    (ps_fld (pv 0) (pe_callTy call_tupE rfl T.b_tuple (by decide +kernel) (pa_cons (pv 4) pa_nil)) rfl))))), ?_⟩), T.g_Event, T.k_Event, hb⟩
  · obtain ⟨x, dx, p, e, rfl, _⟩ := h
    rfl
  · obtain ⟨x, dx, p, e, rfl, hx, hp, h⟩ := h
    refine ⟨_, rfl, _, rfl, x, _, dx, [], rfl, hx, T.c_Event, T.n_Event_name, by decide, ?_⟩
    refine ⟨_, rfl, _, rfl, x, _, dx, _, rfl, upd_same, T.c_Event, T.n_Event_end, Nat.le_of_ble_eq_true rfl, ?_⟩
    refine ⟨_, rfl, _, rfl, x, _, dx, _, rfl, upd_same, T.c_Event, T.n_Event_kind, Nat.le_of_ble_eq_true rfl, ?_⟩
    have o3 : Off x H (upd (upd (upd H x (.ins (He.ga K "Event") dx (putF "name" (.str e.name) []))) x (.ins (He.ga K "Event") dx (putF "end" (.int e.fin) (putF "name" (.str e.name) [])))) x (.ins (He.ga K "Event") dx (putF "kind" (.str e.kind) (putF "end" (.int e.fin) (putF "name" (.str e.name) []))))) :=
      ((Ext.off Ext.rfl').upd.upd).upd
    refine ⟨_, rfl, p, e.needs.map V.str, rfl, ?_⟩
    rcases hp with hp | hp
    · refine .inl ⟨sqL_ne hp hx (fun _ z => by cases z) (fun _ _ z => by cases z) o3, fun l ob hl hob hod => ?_⟩
      have hxl : x ≠ l := ne_of_none upd_same hl
      refine ⟨_, rfl, x, _, dx, _, rfl, (upd_ne hxl).trans upd_same, T.c_Event, T.n_Event_needs, Nat.le_of_ble_eq_true rfl, ?_⟩
      refine h _ ?_ ?_
      · exact (o3.trans (Ext.off (Ext.upd hl))).upd
      · exact ⟨dx, l, _, upd_same, rfl, rfl, rfl, rfl, ob, (upd_ne hxl.symm).trans upd_same, hob, hod⟩
    · have hp3 := hp.ne hx (fun _ _ z => by cases z) o3
      refine .inr ⟨hp3.sq, ?_⟩
      refine ⟨_, rfl, x, _, dx, _, rfl, upd_same, T.c_Event, T.n_Event_needs, Nat.le_of_ble_eq_true rfl, ?_⟩
      refine h _ o3.upd ?_
      exact ⟨dx, p, _, upd_same, rfl, rfl, rfl, rfl, hp3.ne upd_same (fun _ _ z => by cases z) ((Ext.off Ext.rfl').upd)⟩
/-! ### as_kind -/
def kd1 (n k : Str) (e : Ev) : Ev := if e.name = n then { e with kind := k } else e
def kinded (evs : List Ev) (n k : Str) : List Ev := evs.map (kd1 n k)
theorem kd1_name (n k : Str) (e : Ev) : (kd1 n k e).name = e.name := by unfold kd1; split <;> rfl
theorem kd1_needs (n k : Str) (e : Ev) : (kd1 n k e).needs = e.needs := by unfold kd1; split <;> rfl
theorem kd1_fin (n k : Str) (e : Ev) : (kd1 n k e).fin = e.fin := by unfold kd1; split <;> rfl
theorem ordF_kinded (n k : Str) : ∀ (evs : List Ev) (el : List Str), ordF el (kinded evs n k) = ordF el evs
  | [], _ => rfl
  | e :: r, el => by
    show ordF el (kd1 n k e :: kinded r n k) = _
    rw [ordF_cons, ordF_cons]
    have e1 : evF (kd1 n k e) el = evF e el := by
      unfold evF
      rw [kd1_name, kd1_needs]
    rw [e1, kd1_name, ordF_kinded n k r]
theorem ordF_new : ∀ (evs : List Ev) (el : List Str), ordF el evs = none → (evs.map Ev.name).Nodup ∧ ∀ e ∈ evs, e.name ∉ el
  | [], _, _ => ⟨List.nodup_nil, fun _ z => nomatch z⟩
  | e :: r, el, h => by
    rw [ordF_cons] at h
    cases q : evF e el with
    | some x =>
      rw [q] at h
      cases h
    | none =>
      rw [q] at h
      obtain ⟨i1, i2⟩ := ordF_new r _ h
      have hne : e.name ∉ el := fun c => by
        unfold evF at q
        rw [if_pos c] at q
        cases q
      refine ⟨List.nodup_cons.mpr ⟨fun c => ?_, i1⟩, fun f hf => ?_⟩
      · obtain ⟨f, hf, e1⟩ := List.mem_map.mp c
        exact i2 f hf (by rw [e1]; simp)
      · rcases List.mem_cons.mp hf with z | z
        · rw [z]
          exact hne
        · exact fun c => i2 f z (List.mem_append_left _ c)
theorem kd1_good {n k : Str} {e : Ev} (h : Good e) (hk : k = "query" ∨ k = "action") : Good (kd1 n k e) := by
  unfold kd1
  split
  · exact ⟨h.nm, h.lo, h.hi, hk⟩
  · exact h
theorem evsAt_kinded {K : PySem.W.Frag} {H : Hp} {as : List Addr} {evs : List Ev} {i : Nat} {x : Addr} {n k : Str} {e0 : Ev} (h : EvsAt K H as evs) (q0 : evs[i]? = some e0) (hn : e0.name = n) (nd : (evs.map Ev.name).Nodup)
    (hx : EvAt K H x ⟨e0.name, e0.fin, k, e0.needs⟩) : EvsAt K H (as.take i ++ [x] ++ as.drop (i + 1)) (kinded evs n k) := by
  have hi : i < evs.length := (List.getElem?_eq_some_iff.mp q0).1
  have hia : i < as.length := by rw [h.1]; exact hi
  have e1 : as.take i ++ [x] ++ as.drop (i + 1) = as.set i x := by
    rw [List.set_eq_take_append_cons_drop, if_pos hia, List.append_assoc]
    rfl
  rw [e1]
  refine ⟨by unfold kinded; rw [List.length_set, List.length_map]; exact h.1, fun j a e ha he => ?_⟩
  unfold kinded at he
  rw [List.getElem?_map] at he
  cases qj : evs[j]? with
  | none => rw [qj] at he; cases he
  | some f =>
    rw [qj] at he
    have he := Option.some.inj he
    rw [List.getElem?_set] at ha
    by_cases c : i = j
    · rw [if_pos c, if_pos hia] at ha
      rw [← Option.some.inj ha, ← he]
      rw [← c, q0] at qj
      rw [← Option.some.inj qj]
      unfold kd1
      rw [if_pos hn]
      exact hx
    · rw [if_neg c] at ha
      have hf : f.name ≠ n := fun z => c ((List.getElem?_inj (l := evs.map Ev.name) (by rw [List.length_map]; exact hi) nd).mp (by rw [List.getElem?_map, List.getElem?_map, q0, qj]; show some e0.name = some f.name; rw [hn, z]))
      rw [← he]
      unfold kd1
      rw [if_neg hf]
      exact h.2 j a f ha qj
def spKind (K : PySem.W.Frag) : Sp := fun vs H Q E => ∃ (a : Addr) (n k : Str) (evs : List Ev), vs = [.ref a, .str n, .str k] ∧ OrdAt K H a evs ∧ evs.length ≤ 12 ∧ (∀ e ∈ evs, Good e) ∧ ordF [] evs = none ∧ (match plc evs n with
  | some _ => if k = "query" ∨ k = "action" then ∀ b H', Ext H H' → OrdAt K H' b (kinded evs n k) → Q (.ref b) H'
    else ∀ (d : Addr) H', Ext H H' → ErrO H' d "kind" n → E (.ref (He.ga K "BadOrder")) (some d) H'
  | none => Unk K H n E)
theorem ok_kind (T : Tx w K mg) : Dm P w K mg base (CX P w) 6 (He.ga K "Order") "as_kind" ["self", "name", "kind"] (spKind K) := by
  obtain ⟨fd, F⟩ := T.f_Order_as_kind
  obtain ⟨fdB, FB, bB⟩ := ok_BadOrder (P := P) (base := base) T
  have nd := sc_Order_as_kind.nd
  refine ⟨_, fd, F.ok sc_Order_as_kind (fun vs H Q E h => ?_) (fun cdv A outer s H vs Q E hr h => ⟨_, (pss_cons
    (ps_set (i := 3) nd rfl (Or.inl rfl) (pe_dm (E := E) ((ok_place T).mono (by decide)) (pv 0) T.c_Order hr (passes_call (takes_of rfl rfl rfl rfl) (fun _ _ _ _ h => h)) (pa_cons (pv 1) pa_nil))) (pss_cons
    (ps_if (pt_cmpR op_notIn_seq (pv 2) (pe_glob (v := .ref (He.ga K "KINDS")) rfl T.g_KINDS rfl) (by rfl)) (pss_one (ps_raise rfl (takes_of rfl rfl rfl rfl) (pmk_oex T.ox_BadOrder T.fi_BadOrder T.ft_BadOrder (FB.mono (by decide)) hr bB .nil pass0 rfl T.g_BadOrder (pa_cons pe_str (pa_cons (pv 1) pa_nil))))) pss_nil) (pss_cons
    (ps_set (i := 4) nd rfl (Or.inl rfl) (pe_ix ix_tup (pe_fld (pv 0) rfl) (pv 3) (fun _ _ => rfl))) (pss_cons
    (ps_set (i := 5) nd rfl (Or.inl rfl) (pe_dc ((ok_EvJ T).mono (by decide : 1 ≤ 4)) hr rfl pass0 (pa_cons (pe_fld (pv 4) rfl) (pa_cons (pe_fld (pv 4) rfl) (pa_cons (pv 2) (pa_cons (pe_fld (pv 4) rfl) pa_nil))))))
    (pss_one (ps_ret (pe_dc (E := E) (ok_OrdI T) hr rfl (passes_call (takes_of rfl rfl rfl rfl) (fun _ _ _ _ h => h)) (pa_cons
      (pe_op op_catA (pe_op op_catA (pe_slice sl_tupA (pe_fld (pv 0) rfl) po_none (po_some (pv 3))) (pe_tup (pa_cons (pv 5) pa_nil))) (pe_slice sl_tupA (pe_fld (pv 0) rfl) (po_some (pe_op op_add (pv 3) pe_int)) po_none)) pa_nil)))))))), ?_⟩), T.m_Order_as_kind, F.bindsN fun _ _ _ _ _ _ us hl => match us, hl with | [_, _, _], _ => rfl⟩
  · obtain ⟨a, n, k, evs, rfl, _⟩ := h
    rfl
  · obtain ⟨a, n, k, evs, rfl, ho, hn, hg, hor, h⟩ := h
    obtain ⟨dx, t, as, fs, h1, h2, h3, h4, nu, nh, nq, hno⟩ := id ho
    refine ⟨_, rfl, a, dx, fs, rfl, h1, hno _ (by decide) (by decide), _, rfl, a, n, evs, rfl, ho, ?_⟩
    cases q : plc evs n with
    | none =>
      rw [q] at h
      exact h
    | some i =>
      rw [q] at h
      obtain ⟨e0, q0, e0n⟩ := plc_get q
      intro H1 x1
      have hk : inV (.str k) ((["query", "action"] : List Str).map V.str) = decide (k = "query" ∨ k = "action") := by
        rw [inV_strs]
        simp
      refine ⟨_, rfl, _, _, rfl, .inr (T.t_KINDS H1), rfl, rfl, _, rfl, ?_⟩
      show if (!inV (.str k) ((["query", "action"] : List Str).map V.str)) = true then _ else _
      rw [hk]
      dsimp only at h
      by_cases c1 : k = "query" ∨ k = "action"
      · have h := (if_pos c1).mp h
        rw [decide_eq_true c1]
        refine iteF ?_
        have hi : i < evs.length := (List.getElem?_eq_some_iff.mp q0).1
        have hia : i < as.length := by rw [h4.1]; exact hi
        have qa : as[i]? = some as[i] := List.getElem?_eq_getElem hia
        generalize as[i] = ai at qa
        obtain ⟨dy, tn, gs, p1, p2, p3, p4, p5, p6⟩ := (h4.2 i ai e0 qa q0).ext x1
        refine ⟨_, rfl, a, _, dx, fs, _, rfl, x1 _ _ h1, T.c_Order, T.n_Order_events, h2, _, rfl, t, _, _, _, rfl, rfl, h3.ext x1, atI_nat (by rw [List.getElem?_map, qa]; rfl), ?_⟩
        refine ⟨_, rfl, ai, _, dy, gs, _, rfl, p1, T.c_Event, T.n_Event_name, p2, _, rfl, ai, _, dy, gs, _, rfl, p1, T.c_Event, T.n_Event_end, p3, _, rfl, _, rfl, ai, _, dy, gs, _, rfl, p1, T.c_Event, T.n_Event_needs, p5, fun x dz hx hdz hne => ?_⟩
        have x2 : Ext H1 (upd (upd H1 dz (.own x)) x (.ins (He.ga K "Event") dz [])) := fun b o hb => by
          rw [upd_ne (ne_of_none hb hx), upd_ne (ne_of_none hb hdz)]
          exact hb
        refine ⟨x, dz, tn, ⟨e0.name, e0.fin, k, e0.needs⟩, rfl, upd_same, .inr (p6.ext x2), fun H2 o2 hev => ⟨rfl, ?_⟩⟩
        have x3 : Ext H1 H2 := fun b o hb => o2 b o (ne_of_none hb hx) (x2 b o hb)
        have x03 := x1.trans x3
        refine ⟨_, rfl, a, _, dx, fs, _, rfl, x03 _ _ h1, T.c_Order, T.n_Order_events, h2, _, rfl, _, rfl, ?_⟩
        have hsz : 40 < sizeLine := by decide
        refine rSlA_of (h3.ext x03) fun pA H3 x4 hA => ?_
        rw [cut_to] at hA
        refine ⟨_, rfl, by show 1 ≤ sizeLine; decide, fun pB hB => ?_⟩
        have x5 : Ext H3 (upd H3 pB (.tup [.ref x])) := Ext.upd hB
        refine rCatA_of (hA.ext x5) (SqT.of upd_same) (by rw [List.length_take, List.length_map, h4.1]; show min i evs.length + 1 ≤ sizeLine; omega) fun pC H4 x6 hC => ?_
        have x24 : Ext H2 H4 := x4.trans (x5.trans x6)
        refine ⟨_, rfl, a, _, dx, fs, _, rfl, (x03.trans x24) _ _ h1, T.c_Order, T.n_Order_events, h2, _, rfl, _, _, rfl, rfl, _, rfl, ?_⟩
        refine no_part ?_
        refine rSlA_of (h3.ext (x03.trans x24)) fun pD H5 x7 hD => ?_
        have e5 : cutV (as.map V.ref) (some ((i : Int) + 1)) none = (as.map V.ref).drop (i + 1) := cut_from _ (i + 1)
        rw [e5] at hD
        refine rCatA_of (hC.ext x7) hD (by
          simp only [List.length_append, List.length_take, List.length_map, List.length_drop, h4.1, List.length_cons, List.length_nil]
          omega) fun pE H6 x8 hE => ?_
        have eM : (as.map V.ref).take i ++ [V.ref x] ++ (as.map V.ref).drop (i + 1) = (as.take i ++ [x] ++ as.drop (i + 1)).map V.ref := by
          simp only [List.map_append, List.map_take, List.map_drop, List.map_cons, List.map_nil]
        rw [eM] at hE
        have x26 : Ext H2 H6 := x24.trans (x7.trans x8)
        refine fun y dw hy hdw hne2 => ?_
        have x9 : Ext H6 (upd (upd H6 dw (.own y)) y (.ins (He.ga K "Order") dw [])) := fun b o hb => by
          rw [upd_ne (ne_of_none hb hy), upd_ne (ne_of_none hb hdw)]
          exact hb
        refine ⟨y, dw, pE, as.take i ++ [x] ++ as.drop (i + 1), kinded evs n k, rfl, upd_same, .inr (hE.ext x9), ?_, fun e he => ?_, by unfold kinded; rw [List.length_map]; exact hn, ?_⟩
        · exact evsAt_kinded (h4.ext (x03.trans (x26.trans x9))) q0 e0n (ordF_new evs [] hor).1 (hev.ext (x26.trans x9))
        · obtain ⟨f, hf, ef⟩ := List.mem_map.mp he
          rw [← ef]
          exact kd1_good (hg f hf) c1
        · rw [ordF_kinded, hor]
          refine fun H7 o7 ho7 => ⟨rfl, ?_⟩
          refine h y H7 ?_ ho7
          exact x03.trans (x26.trans fun b o hb => o7 b o (ne_of_none hb hy) (x9 b o hb))
      · rw [if_neg c1] at h
        rw [decide_eq_false c1]
        refine iteTd (by rfl) ?_
        refine ⟨_, rfl, ?_⟩
        exact out_order fun d H2 x2 he => h d H2 (x1.trans x2) he
end
end K01
set_option maxHeartbeats 1000000
namespace K01
open PySem PySem.Spec PyProof.Rows L2 Ax
section
variable {P : Program} {w : World} {K : PySem.W.Frag} {mg : Str → Option Value} {base : Heap}
/-! ### key_of -/
def hasAll (kvs : List (Key × V)) (ns : List Str) : Bool := (ns.map fun m => (valV kvs (Sum.inr m : Key)).isSome).all id
def keyL (kvs : List (Key × V)) (ns : List Str) : List V := ns.map fun m => (valV kvs (Sum.inr m : Key)).getD .non
def spKeyOf (K : PySem.W.Frag) : Sp := fun vs H Q E => ∃ (a d : Addr) (n : Str) (evs : List Ev) (kvs : List (Key × V)), vs = [.ref a, .str n, .ref d] ∧ OrdAt K H a evs ∧ (∀ e ∈ evs, e.needs.length ≤ 3) ∧ H d = some (.dK kvs) ∧ (match plc evs n with
  | some i => ∀ e H', evs[i]? = some e → Ext H H' → (hasAll kvs e.needs = false → Q .non H') ∧ (hasAll kvs e.needs = true → ∀ t, SqT K H' t (keyL kvs e.needs) → Q (.ref t) H')
  | none => Unk K H n E)
theorem ok_keyOf (T : Tx w K mg) : Dm P w K mg base (CX P w) 6 (He.ga K "Order") "key_of" ["self", "name", "values"] (spKeyOf K) := by
  obtain ⟨fd, F⟩ := T.f_Order_key_of
  have nd := sc_Order_key_of.nd
  refine ⟨_, fd, F.ok sc_Order_key_of (fun vs H Q E h => ?_) (fun cdv A outer s H vs Q E hr h => ⟨_, (pss_cons
    (ps_set (i := 3) nd rfl (Or.inl rfl) (pe_fld (pe_dm (E := E) (ok_event T) (pv 0) T.c_Order hr (passes_call (takes_of rfl rfl rfl rfl) (fun _ _ _ _ h => h)) (pa_cons (pv 1) pa_nil)) rfl)) (pss_cons
    (ps_if (pt_not (pt_val (pe_callB (cr_all rfl) rfl T.b_all (by decide +kernel) (pa_cons
        (pe_lc (own := [("need", 4)]) (g := gName 4) (tt := tYes) (te := tDIn (tVar 4) (tVar 2)) (by rfl) nd (pi_tup (pv 3)) (blkOk_by (own := [("need", 4)]) (N := n_Order_key_of) (sc := defScope s_Order_key_of) (by decide +kernel)) (fun _ _ _ _ _ => pg_name (i := 4) nd rfl (Or.inl rfl))
          (fun _ _ _ _ _ => pts_nil) (fun _ _ _ _ _ => pe_cmp (pc_din (hu_of hr) (pv 4) (pv 2)) (by rfl))) pa_nil)))) (pss_one (ps_ret pe_non)) pss_nil)
    (pss_one (ps_ret (pe_callTy call_tupN rfl T.b_tuple (by decide +kernel) (pa_cons
        (pe_lc (own := [("need", 4)]) (g := gName 4) (tt := tYes) (te := tDGet (tVar 2) (tVar 4)) (by rfl) nd (pi_tup (pv 3)) (blkOk_by (own := [("need", 4)]) (N := n_Order_key_of) (sc := defScope s_Order_key_of) (by decide +kernel)) (fun _ _ _ _ _ => pg_name (i := 4) nd rfl (Or.inl rfl))
          (fun _ _ _ _ _ => pts_nil) (fun _ _ _ _ _ => pe_dget (hu_of hr) (pv 2) (pv 4) (fun _ _ => rfl))) pa_nil)))))), ?_⟩), T.m_Order_key_of, F.bindsN fun _ _ _ _ _ _ us hl => match us, hl with | [_, _, _], _ => rfl⟩
  · obtain ⟨a, d, n, evs, kvs, rfl, _⟩ := h
    rfl
  · obtain ⟨a, d, n, evs, kvs, rfl, ho, hn3, hd, h⟩ := h
    obtain ⟨dx, t, as, fs, h1, h2, h3, h4, nu, nh, nq, hno⟩ := id ho
    refine ⟨_, rfl, a, dx, fs, rfl, h1, hno _ (by decide) (by decide), _, rfl, a, n, evs, rfl, ho, ?_⟩
    cases q : plc evs n with
    | none =>
      rw [q] at h
      exact h
    | some i =>
      rw [q] at h
      obtain ⟨e0, q0, e0n⟩ := plc_get q
      intro x e H1 x1 qe he
      rw [q0] at qe
      cases Option.some.inj qe
      obtain ⟨dy, tn, gs, p1, p2, p3, p4, p5, p6⟩ := id he
      have hl0 := hn3 e0 (List.mem_of_getElem? q0)
      have hd1 := x1 _ _ hd
      refine ⟨x, _, dy, gs, _, rfl, p1, T.c_Event, T.n_Event_needs, p5, ?_⟩
      refine ⟨_, rfl, tn, rfl, ⟨_, p6.sq⟩, fun L hL => ?_⟩
      refine lc_acc (walk_tup (K := K) (xs := e0.needs.map V.str)) hL (fun j acc B => Ext H1 B ∧ acc = ((e0.needs.take j).map fun m => (valV kvs (Sum.inr m : Key)).isSome).map V.bl) ⟨Ext.rfl', rfl⟩ (fun j acc H5 _ _ q => p6.sq.ext fun b o hb => ext_del _ _ (q.1 b o hb)) ?_ ?_
      · rintro j y H5 H6 acc hj hacc hl2 ⟨xB, ea⟩ ⟨eH, hy⟩
        subst eH
        rw [List.length_map] at hj
        rw [List.getElem?_map] at hy
        cases qn : e0.needs[j]? with
        | none => rw [qn] at hy; cases hy
        | some m =>
          rw [qn] at hy
          cases Option.some.inj hy
          have x6 : Ext H1 H6 := fun b o hb => ext_del _ _ (xB b o hb)
          refine ⟨rfl, ?_⟩
          refine yes_go (iteT ?_)
          refine ⟨_, rfl, _, rfl, d, _, rfl, DGet.k (k := Sum.inr m) (x6 _ _ hd1), ?_⟩
          refine acc_add hacc hl2 (small (by omega)) ⟨xB, ?_⟩
          rw [ea, List.take_add_one, qn, List.map_append, List.map_append]
          rfl
      · rintro H5 acc hacc hl2 ⟨xB, ea⟩
        rw [List.length_map, List.take_of_length_le (Nat.le_refl _)] at ea
        rw [ea] at hacc
        have x5 : Ext H1 H5 := fun b o hb => ext_del _ _ (xB b o hb)
        refine ⟨L, _, rfl, SqL.of hacc, ?_⟩
        refine ⟨_, rfl, ?_⟩
        show if (!hasAll kvs e0.needs) = true then _ else _
        cases c : hasAll kvs e0.needs with
        | false =>
          refine iteTd (by rfl) ?_
          exact (h e0 H5 q0 (x1.trans x5)).1 c
        | true =>
          refine iteFd' (by rfl) ?_
          have p7 : SqT K H5 tn (e0.needs.map V.str) := p6.sq.ext x5
          have hd5 := x5 _ _ hd1
          refine ⟨_, rfl, tn, rfl, ⟨_, p7⟩, fun L2 hL2 => ?_⟩
          refine lc_acc (walk_tup (K := K) (xs := e0.needs.map V.str)) hL2 (fun j acc B => Ext H5 B ∧ acc = keyL kvs (e0.needs.take j)) ⟨Ext.rfl', rfl⟩ (fun j acc H7 _ _ q => p7.ext fun b o hb => ext_del _ _ (q.1 b o hb)) ?_ ?_
          · rintro j y H7 H8 acc hj hacc hl2 ⟨xB, ea⟩ ⟨eH, hy⟩
            subst eH
            rw [List.length_map] at hj
            rw [List.getElem?_map] at hy
            cases qn : e0.needs[j]? with
            | none => rw [qn] at hy; cases hy
            | some m =>
              rw [qn] at hy
              cases Option.some.inj hy
              have x8 : Ext H5 H8 := fun b o hb => ext_del _ _ (xB b o hb)
              have hm : (valV kvs (Sum.inr m : Key)).isSome = true := by
                have := List.all_eq_true.mp c (valV kvs (Sum.inr m : Key)).isSome (List.mem_map.mpr ⟨m, List.mem_of_getElem? qn, rfl⟩)
                simpa using this
              obtain ⟨v, hv⟩ := Option.isSome_iff_exists.mp hm
              refine ⟨rfl, ?_⟩
              refine yes_go (iteT ?_)
              refine ⟨_, rfl, _, rfl, d, v, rfl, hv ▸ DGet.k (k := Sum.inr m) (x8 _ _ hd5), ?_⟩
              refine acc_add hacc hl2 (small (by omega)) ⟨xB, ?_⟩
              rw [ea]
              unfold keyL
              rw [List.take_add_one, qn, List.map_append]
              show _ ++ [v] = _ ++ [(valV kvs (Sum.inr m : Key)).getD .non]
              rw [hv]
              rfl
          · rintro H7 acc hacc hl2 ⟨xB, ea⟩
            rw [List.length_map, List.take_of_length_le (Nat.le_refl _)] at ea
            rw [ea] at hacc
            exact ⟨L2, _, rfl, .inl (SqL.of hacc), fun t2 H9 x9 ht => (h e0 H9 q0 (x1.trans (x5.trans (Ext.trans (fun b o hb => ext_del _ _ (xB b o hb)) x9)))).2 c t2 ht⟩
end
end K01
set_option maxHeartbeats 4000000
/-! len(o), o an instance whose class has an own __len__. -/
namespace Ax
open PySem PySem.Spec PyProof.Rows L2
section
variable {X : Cx} {CX : CXT} {n : Nat} {C f : Addr} {fd : FuncData} {ps : List Str} {sp : Sp} {E : XK}
def rOwnLen (C : Addr) (sp : Sp) (E : XK) : List V → Hp → VK → Prop := fun xs H Q => ∃ (a dx : Addr) (fs : List (Str × V)), xs = [.ref a] ∧ H a = some (.ins C dx fs) ∧ sp [.ref a] H (fun v H' => ∃ k : Nat, v = .int (k : Int) ∧ k < 2 ^ 62 ∧ Q (.int (k : Int)) H') E
theorem call_ownLen (F : FnOk X.prog X.w X.K X.mg X.base CX n f fd ps sp) (hb : Binds X.K fd ps []) (hx : Passes CX X E) (hr : Room (n + 1) X.A) (hm : Meth X.K C "__len__" f) : CallR X (.builtin "len") (rOwnLen C sp E) := by
  intro pins s σ H xs us Q I r h
  obtain ⟨a, dx, fs, rfl, ha, hq⟩ := h
  obtain ⟨u, rfl, ru⟩ := vals1 r
  obtain rfl : u = Value.ref a := ru
  obtain ⟨m1, J, _⟩ := ins_get I.hok ha
  obtain ⟨od, J, _⟩ := J.look
  refine Calls.call_function_entry kind_len plain_len entry_len (args_len1 _) ?_
  unfold Builtin.«len»
  refine wpAny_bind (m := oneArg "len" _) (wpAny_pure ?_)
  refine wpAny_bind (m := callSpecial? (.ref a) (PySem.Str.ofString "__len__")) ?_
  simp only [callSpecial?]
  refine wpAny_bind (wpAny_bind (J.type.here ((PySem.W.looks_findIn I.kIn hm.at_).here ?_)))
  refine wpAny_holding (wpAny_bind ((PySem.W.bind_fn I.kIn _ (beq_iff_eq.mp hm.fn)).here ?_))
  refine (wpAny_bind (wpAny_mono (run_in (us := [.ref a]) (vs := [V.ref a]) F hb hx ⟨hr.in1, rfl⟩ I (.cons rfl .nil) hq) (fun w s' z => ?_) fun _ _ z => z))
  obtain ⟨v, H', I', rv, k, ev, hk, q⟩ := z
  subst ev
  obtain ⟨t, rfl⟩ : ∃ t, w = Value.int (k : Int) t := rv
  refine wpAny_pure ?_
  refine wpAny_bind (wpAny_holding (wpAny_pure ?_))
  refine wpAny_bind (wpAny_letGo ?_)
  show wpAny _ _ (if ((k : Nat) : Int) < 0 then _ else _) _ _ _
  rw [if_neg (by omega)]
  show wpAny _ _ (if ((k : Nat) : Int) ≥ 2 ^ 63 then _ else _) _ _ _
  rw [if_neg (by omega)]
  exact wpAny_bind (wpAny_mkInt (wpAny_pure ⟨_, rfl, .int (k : Int), H', I'.tok _, ⟨_, rfl⟩, q⟩))
end
end Ax
set_option maxHeartbeats 1000000
namespace K01
open PySem PySem.Spec PyProof.Rows L2 Ax
section
variable {P : Program} {w : World} {K : PySem.W.Frag} {mg : Str → Option Value} {base : Heap}
/-! ### __len__ -/
def spLenO (K : PySem.W.Frag) : Sp := fun vs H Q _ => ∃ (a : Addr) (evs : List Ev), vs = [.ref a] ∧ OrdAt K H a evs ∧ Q (.int (evs.length : Int)) H
theorem ok_lenO (T : Tx w K mg) : Dm P w K mg base CX0 1 (He.ga K "Order") "__len__" ["self"] (spLenO K) := by
  obtain ⟨fd, F⟩ := T.f_Order_len
  refine ⟨_, fd, F.ok sc_Order_len (fun vs H Q E h => ?_) (fun cdv A outer s H vs Q E hr h => ⟨_, PSs.nox (pss_one (ps_ret (pe_callB call_len_seq rfl T.b_len (by decide +kernel) (pa_cons (pe_fld (pv 0) rfl) pa_nil)))), ?_⟩), T.m_Order_len, F.bindsN fun _ _ _ _ _ _ us hl => match us, hl with | [_], _ => rfl⟩
  · obtain ⟨a, evs, rfl, _⟩ := h
    rfl
  · obtain ⟨a, evs, rfl, ho, h⟩ := h
    obtain ⟨dx, t, as, fs, h1, h2, h3, h4, _⟩ := id ho
    refine ⟨_, rfl, a, _, dx, fs, _, rfl, h1, T.c_Order, T.n_Order_events, h2, t, _, rfl, .inr h3, ?_⟩
    rw [List.length_map, h4.1]
    exact h
/-- len(order) -/
theorem call_lenO {X : Cx} (T : Tx X.w X.K X.mg) (hr : Room 2 X.A) : CallR X (.builtin "len") (fun xs H Q => ∃ (a : Addr) (evs : List Ev), xs = [.ref a] ∧ OrdAt X.K H a evs ∧ evs.length ≤ 12 ∧ Q (.int (evs.length : Int)) H) := by
  obtain ⟨f, fd, F, hm, hb⟩ := ok_lenO (P := X.prog) (base := X.base) T
  intro pins s σ H xs us Q I r h
  obtain ⟨a, evs, rfl, ho, hl, q⟩ := h
  obtain ⟨dx, t, as, fs, h1, _⟩ := id ho
  exact call_ownLen (E := fun _ _ _ => False) F hb pass0 hr hm pins s σ H _ us Q I r ⟨a, dx, fs, rfl, h1, a, evs, rfl, ho, evs.length, rfl, by omega, q⟩
end
end K01
set_option maxHeartbeats 1000000
namespace K01
open PySem PySem.Spec PyProof.Rows L2 Ax
theorem eqV_str (x y : Str) : eqV (.str x) (.str y) = decide (x = y) := by
  unfold eqV
  by_cases c : x = y
  · rw [c]; simp
  · rw [decide_eq_false c]
    simpa using c
theorem pair_all (as bs : List Str) : (((as.map V.str).length == (bs.map V.str).length) && (List.range (min (as.map V.str).length (bs.map V.str).length)).all fun i => eqV ((as.map V.str).getD i .non) ((bs.map V.str).getD i .non)) = decide (as = bs) := by
  rw [Bool.eq_iff_iff, decide_eq_true_iff, Bool.and_eq_true, beq_iff_eq, List.all_eq_true, List.length_map, List.length_map]
  constructor
  · rintro ⟨hl, ha⟩
    refine List.ext_getElem hl fun i h1 h2 => ?_
    have q := ha i (List.mem_range.mpr (by omega))
    rw [List.getD_eq_getElem?_getD, List.getD_eq_getElem?_getD, List.getElem?_map, List.getElem?_map, List.getElem?_eq_getElem h1, List.getElem?_eq_getElem h2] at q
    have q : eqV (.str as[i]) (.str bs[i]) = true := q
    rw [eqV_str] at q
    exact of_decide_eq_true q
  · rintro rfl
    refine ⟨rfl, fun i hi => ?_⟩
    have h1 : i < as.length := by have := List.mem_range.mp hi; omega
    rw [List.getD_eq_getElem?_getD, List.getElem?_map, List.getElem?_eq_getElem h1]
    show eqV (.str as[i]) (.str as[i]) = true
    rw [eqV_str]
    exact decide_eq_true rfl
theorem strTupB {K : PySem.W.Frag} {H : Hp} {a b : Addr} {as bs : List Str} (ha : SqT K H a (as.map V.str)) (hb : SqT K H b (bs.map V.str)) : DTupB K DFlatB (.ref a) (.ref b) (decide (as = bs)) H := by
  refine ⟨a, b, _, _, fun i => eqV ((as.map V.str).getD i .non) ((bs.map V.str).getD i .non), rfl, rfl, ha, hb, fun i u v hu hv => ?_, (pair_all as bs).symm⟩
  have e1 : (as.map V.str).getD i .non = u := by rw [List.getD_eq_getElem?_getD, hu]; rfl
  have e2 : (bs.map V.str).getD i .non = v := by rw [List.getD_eq_getElem?_getD, hv]; rfl
  dsimp only
  rw [e1, e2]
  refine ⟨?_, ?_, rfl⟩
  · obtain ⟨z, _, e⟩ := List.mem_map.mp (List.mem_of_getElem? hu)
    rw [← e]
    rfl
  · obtain ⟨z, _, e⟩ := List.mem_map.mp (List.mem_of_getElem? hv)
    rw [← e]
    rfl
def evEq (e f : Ev) : Bool := decide (e.name = f.name) && (decide (e.fin = f.fin) && (decide (e.kind = f.kind) && decide (e.needs = f.needs)))
def REvB (K : PySem.W.Frag) (a b : Addr) (k : Bool) (H : Hp) : Prop := ∃ e f, EvAt K H a e ∧ EvAt K H b f ∧ k = evEq e f
theorem REvB.mono {K : PySem.W.Frag} (a b : Addr) (k : Bool) (H H' : Hp) (x : Ext H H') (h : REvB K a b k H) : REvB K a b k H' := let ⟨e, f, h1, h2, h3⟩ := h; ⟨e, f, h1.ext x, h2.ext x, h3⟩
section
variable {P : Program} {w : World} {K : PySem.W.Frag} {mg : Str → Option Value} {base : Heap}
theorem ok_EvEqB (T : Tx w K mg) : ∃ fd, FnOk P w K mg base CX0 2 (He.ma K (He.ga K "Event") "__eq__") fd ["self", "other"] (spEqB (REvB K)) ∧ Binds K fd ["self", "other"] [] := by
  obtain ⟨fd, F⟩ := T.f_Event_eq
  refine ⟨fd, F.ok sc_Event_eq (fun vs H Q E h => ?_) (fun cdv A outer s H vs Q E hr h => ⟨_, PSs.nox (pss_one (ps_ret
    (pe_and (pe_callB call_isi rfl T.b_isinstance (by decide +kernel) (pa_cons (pv 1) (pa_cons (pe_glob (v := .ref (He.ga K "Event")) rfl T.g_Event rfl) pa_nil)))
    (pe_and (pe_cmpR op_eq (pe_fld (pv 0) rfl) (pe_fld (pv 1) rfl) (nomark _)) (pe_and (pe_cmpR op_eq (pe_fld (pv 0) rfl) (pe_fld (pv 1) rfl) (nomark _)) (pe_and (pe_cmpR op_eq (pe_fld (pv 0) rfl) (pe_fld (pv 1) rfl) (nomark _))
    (pe_one (pe_cmpR (op_eqB (rcB_tup monB_flat eqB_flat) hr) (pe_fld (pv 0) rfl) (pe_fld (pv 1) rfl) (nomark _))))))))), ?_⟩), F.bindsN fun _ _ _ _ _ _ us hl => match us, hl with | [_, _], _ => rfl⟩
  · obtain ⟨a, b, k, rfl, _⟩ := h
    rfl
  · obtain ⟨a, b, k, rfl, ⟨e, f, ⟨dx, t, fs, h1, h2, h3, h4, h5, h6⟩, ⟨dy, u, gs, g1, g2, g3, g4, g5, g6⟩, hk⟩, h⟩ := h
    refine ⟨_, rfl, _, _, _, _, true, rfl, ClsV.own _, .base (.ins g1 T.c_Event T.in_Event.ha T.in_Event.hn T.in_Event.htk T.in_Event.hm), kit_own, true, rfl, ?_⟩
    refine iteT ?_
    have f1 := T.c_Event
    unfold evEq at hk
    refine ⟨_, rfl, a, _, dx, fs, _, rfl, h1, f1, T.n_Event_name, h2, _, rfl, b, _, dy, gs, _, rfl, g1, f1, T.n_Event_name, g2, rfl, _, rfl, ?_⟩
    by_cases c1 : e.name = f.name
    · rw [decide_eq_true c1, Bool.true_and] at hk
      refine iteTd (decide_eq_true (by rw [c1])) ?_
      refine ⟨_, rfl, a, _, dx, fs, _, rfl, h1, f1, T.n_Event_end, h3, _, rfl, b, _, dy, gs, _, rfl, g1, f1, T.n_Event_end, g3, rfl, _, rfl, ?_⟩
      by_cases c2 : e.fin = f.fin
      · rw [decide_eq_true c2, Bool.true_and] at hk
        refine iteTd (decide_eq_true (by rw [c2])) ?_
        refine ⟨_, rfl, a, _, dx, fs, _, rfl, h1, f1, T.n_Event_kind, h4, _, rfl, b, _, dy, gs, _, rfl, g1, f1, T.n_Event_kind, g4, rfl, _, rfl, ?_⟩
        by_cases c3 : e.kind = f.kind
        · rw [decide_eq_true c3, Bool.true_and] at hk
          refine iteTd (decide_eq_true (by rw [c3])) ?_
          refine ⟨_, rfl, a, _, dx, fs, _, rfl, h1, f1, T.n_Event_needs, h5, _, rfl, b, _, dy, gs, _, rfl, g1, f1, T.n_Event_needs, g5, ?_⟩
          refine ⟨_, strTupB h6.sq g6.sq, fun H' x => ?_⟩
          rw [← hk]
          exact h H' x
        · rw [decide_eq_false c3, Bool.false_and] at hk
          subst hk
          refine iteFd (fun z => c3 (V.str.inj z)) ?_
          exact h H Ext.rfl'
      · rw [decide_eq_false c2, Bool.false_and] at hk
        subst hk
        refine iteFd (fun z => c2 (V.int.inj z)) ?_
        exact h H Ext.rfl'
    · rw [decide_eq_false c1, Bool.false_and] at hk
      subst hk
      refine iteFd (fun z => c1 (V.str.inj z)) ?_
      exact h H Ext.rfl'
theorem map_str_inj : ∀ {as bs : List Str}, as.map V.str = bs.map V.str → as = bs
  | [], [], _ => rfl
  | [], _ :: _, h => nomatch h
  | _ :: _, [], h => nomatch h
  | x :: as, y :: bs, h => by
    have h' : V.str x :: as.map V.str = V.str y :: bs.map V.str := h
    rw [V.str.inj (List.cons.inj h').1, map_str_inj (List.cons.inj h').2]
theorem evAt_inj {H : Hp} {a : Addr} {e f : Ev} (h : EvAt K H a e) (g : EvAt K H a f) : e = f := by
  obtain ⟨dx, t, fs, h1, h2, h3, h4, h5, ob, h6, _⟩ := h
  obtain ⟨dy, u, gs, g1, g2, g3, g4, g5, ob2, g6, _⟩ := g
  rw [h1] at g1
  injection Option.some.inj g1 with _ _ e1
  subst e1
  rw [h2] at g2
  rw [h3] at g3
  rw [h4] at g4
  rw [h5] at g5
  have e2 : t = u := by injection Option.some.inj g5
  subst e2
  rw [h6] at g6
  injection Option.some.inj g6 with _ e3
  injection e3 with e3
  obtain ⟨a1, a2, a3, a4⟩ := e
  obtain ⟨b1, b2, b3, b4⟩ := f
  have q1 : a1 = b1 := V.str.inj (Option.some.inj g2)
  have q2 : a2 = b2 := V.int.inj (Option.some.inj g3)
  have q3 : a3 = b3 := V.str.inj (Option.some.inj g4)
  have q4 : a4 = b4 := map_str_inj e3
  rw [q1, q2, q3, q4]
theorem evEq_iff {e f : Ev} : evEq e f = true ↔ e = f := by
  unfold evEq
  rw [Bool.and_eq_true, Bool.and_eq_true, Bool.and_eq_true, decide_eq_true_iff, decide_eq_true_iff, decide_eq_true_iff, decide_eq_true_iff]
  obtain ⟨a1, a2, a3, a4⟩ := e
  obtain ⟨b1, b2, b3, b4⟩ := f
  constructor
  · rintro ⟨q1, q2, q3, q4⟩
    dsimp only at q1 q2 q3 q4
    rw [q1, q2, q3, q4]
  · intro h
    injection h with q1 q2 q3 q4
    exact ⟨q1, q2, q3, q4⟩
/-- events by their own == -/
theorem evEqB {X : Cx} (T : Tx X.w X.K X.mg) : RcB X 2 (DInsB (He.ga X.K "Event") (REvB X.K)) := by
  obtain ⟨fd, F, hb⟩ := ok_EvEqB (P := X.prog) (base := X.base) T
  exact rcB_ins (E := E0) F (eqc_of T.ne_Event T.m_Event_eq) hb pass0
theorem evEqB2 {X : Cx} (T : Tx X.w X.K X.mg) : EqB X 2 (DInsB (He.ga X.K "Event") (REvB X.K)) := (evEqB T).eqB fun x y k H d => by
  obtain ⟨a, b, dx, dy, fs, gs, rfl, rfl, h1, h2, e, f, he, hf, hk⟩ := d
  refine ⟨a, b, rfl, rfl, fun z => ?_⟩
  subst z
  rw [hk, evAt_inj he hf]
  exact evEq_iff.mpr rfl
/-! ### orders by their own == -/
def ordEqAt (es fs : List Ev) (i : Nat) : Bool := match es[i]?, fs[i]? with
  | some e, some f => evEq e f
  | _, _ => true
def ordEq (es fs : List Ev) : Bool := (es.length == fs.length) && (List.range (min es.length fs.length)).all (ordEqAt es fs)
theorem ordEq_iff {es fs : List Ev} : ordEq es fs = true ↔ es = fs := by
  unfold ordEq
  rw [Bool.and_eq_true, beq_iff_eq, List.all_eq_true]
  constructor
  · rintro ⟨hl, ha⟩
    refine List.ext_getElem hl fun i h1 h2 => ?_
    have q := ha i (List.mem_range.mpr (by omega))
    unfold ordEqAt at q
    rw [List.getElem?_eq_getElem h1, List.getElem?_eq_getElem h2] at q
    exact evEq_iff.mp q
  · rintro rfl
    refine ⟨rfl, fun i hi => ?_⟩
    unfold ordEqAt
    cases es[i]? with
    | none => rfl
    | some e => exact evEq_iff.mpr rfl
def ROrdB (K : PySem.W.Frag) (a b : Addr) (k : Bool) (H : Hp) : Prop := ∃ es fs, OrdAt K H a es ∧ OrdAt K H b fs ∧ k = ordEq es fs
theorem evsTupB {H : Hp} {t u : Addr} {as bs : List Addr} {es fs : List Ev} (ht : SqT K H t (as.map V.ref)) (hu : SqT K H u (bs.map V.ref)) (ha : EvsAt K H as es) (hb : EvsAt K H bs fs) :
    DTupB K (DInsB (He.ga K "Event") (REvB K)) (.ref t) (.ref u) (ordEq es fs) H := by
  refine ⟨t, u, _, _, ordEqAt es fs, rfl, rfl, ht, hu, fun i x y hx hy => ?_, ?_⟩
  · rw [List.getElem?_map] at hx hy
    cases qa : as[i]? with
    | none => rw [qa] at hx; cases hx
    | some a1 =>
      cases qb : bs[i]? with
      | none => rw [qb] at hy; cases hy
      | some b1 =>
        rw [qa] at hx
        rw [qb] at hy
        cases Option.some.inj hx
        cases Option.some.inj hy
        have hi : i < es.length := by rw [← ha.1]; exact (List.getElem?_eq_some_iff.mp qa).1
        have hj : i < fs.length := by rw [← hb.1]; exact (List.getElem?_eq_some_iff.mp qb).1
        have qe : es[i]? = some es[i] := List.getElem?_eq_getElem hi
        have qf : fs[i]? = some fs[i] := List.getElem?_eq_getElem hj
        have e1 := ha.2 i a1 _ qa qe
        have e2 := hb.2 i b1 _ qb qf
        have ek : ordEqAt es fs i = evEq es[i] fs[i] := by
          unfold ordEqAt
          rw [qe, qf]
        have e1' := e1
        have e2' := e2
        obtain ⟨d1, _, f1, k1, _⟩ := e1'
        obtain ⟨d2, _, f2, k2, _⟩ := e2'
        exact ⟨a1, b1, d1, d2, f1, f2, rfl, rfl, k1, k2, _, _, e1, e2, ek⟩
  · rw [List.length_map, List.length_map, ha.1, hb.1]
    rfl
theorem ok_OrdEqB (T : Tx w K mg) : ∃ fd, FnOk P w K mg base CX0 4 (He.ma K (He.ga K "Order") "__eq__") fd ["self", "other"] (spEqB (ROrdB K)) ∧ Binds K fd ["self", "other"] [] := by
  obtain ⟨fd, F⟩ := T.f_Order_eq
  refine ⟨fd, F.ok sc_Order_eq (fun vs H Q E h => ?_) (fun cdv A outer s H vs Q E hr h => ⟨_, PSs.nox (pss_one (ps_ret
    (pe_and (pe_callB call_isi rfl T.b_isinstance (by decide +kernel) (pa_cons (pv 1) (pa_cons (pe_glob (v := .ref (He.ga K "Order")) rfl T.g_Order rfl) pa_nil)))
    (pe_one (pe_cmpR (op_eqB (rcB_tup (monB_ins REvB.mono) (evEqB2 T)) hr) (pe_fld (pv 0) rfl) (pe_fld (pv 1) rfl) (nomark _)))))), ?_⟩), F.bindsN fun _ _ _ _ _ _ us hl => match us, hl with | [_, _], _ => rfl⟩
  · obtain ⟨a, b, k, rfl, _⟩ := h
    rfl
  · obtain ⟨a, b, k, rfl, ⟨es, fs, ⟨dx, t, as, gs, h1, h2, h3, h4, _⟩, ⟨dy, u, bs, ks, g1, g2, g3, g4, _⟩, hk⟩, h⟩ := h
    refine ⟨_, rfl, _, _, _, _, true, rfl, ClsV.own _, .base (.ins g1 T.c_Order T.in_Order.ha T.in_Order.hn T.in_Order.htk T.in_Order.hm), kit_own, true, rfl, ?_⟩
    refine iteT ?_
    refine ⟨_, rfl, a, _, dx, gs, _, rfl, h1, T.c_Order, T.n_Order_events, h2, _, rfl, b, _, dy, ks, _, rfl, g1, T.c_Order, T.n_Order_events, g2, ?_⟩
    refine ⟨_, evsTupB h3 g3 h4 g4, fun H' x => ?_⟩
    rw [← hk]
    exact h H' x
end
end K01
set_option maxHeartbeats 1000000
namespace K01
open PySem PySem.Spec PyProof.Rows L2 Ax
/-! ### the law's own events: tuples of name, end, kind, needs -/
def EvT (K : PySem.W.Frag) (H : Hp) (T : Addr) (e : Ev) : Prop := ∃ u, SqT K H T [.str e.name, .int e.fin, .str e.kind, .ref u] ∧ SqT K H u (e.needs.map V.str)
theorem EvT.ext {K : PySem.W.Frag} {H H' : Hp} {T : Addr} {e : Ev} (h : EvT K H T e) (x : Ext H H') : EvT K H' T e := let ⟨u, h1, h2⟩ := h; ⟨u, h1.ext x, h2.ext x⟩
def EvsT (K : PySem.W.Frag) (H : Hp) (l : Addr) (Ts : List Addr) (es : List Ev) : Prop := SqL K H l (Ts.map V.ref) ∧ Ts.length = es.length ∧ ∀ (i : Nat) (T : Addr) (e : Ev), Ts[i]? = some T → es[i]? = some e → EvT K H T e
theorem EvsT.ext {K : PySem.W.Frag} {H H' : Hp} {l : Addr} {Ts : List Addr} {es : List Ev} (h : EvsT K H l Ts es) (x : Ext H H') : EvsT K H' l Ts es := ⟨h.1.ext x, h.2.1, fun i T e a b => (h.2.2 i T e a b).ext x⟩
theorem EvsT.at {K : PySem.W.Frag} {H : Hp} {l : Addr} {Ts : List Addr} {es : List Ev} (h : EvsT K H l Ts es) {i : Nat} {T : Addr} (q : Ts[i]? = some T) : ∃ e, es[i]? = some e ∧ EvT K H T e := by
  have hi : i < es.length := by rw [← h.2.1]; exact (List.getElem?_eq_some_iff.mp q).1
  exact ⟨es[i], List.getElem?_eq_getElem hi, h.2.2 i T _ q (List.getElem?_eq_getElem hi)⟩
section
variable {P : Program} {w : World} {K : PySem.W.Frag} {mg : Str → Option Value} {base : Heap}
def spSorted (K : PySem.W.Frag) : Sp := fun vs H Q _ => ∃ (l p : Addr) (Ts : List Addr) (es : List Ev) (ns : List Str), vs = [.ref l, .ref p] ∧ EvsT K H l Ts es ∧ es.length ≤ 12 ∧ (SqL K H p (ns.map V.str) ∨ SqT K H p (ns.map V.str)) ∧ ∀ t H', Ext H H' → SqT K H' t ((inOrd es ns).map V.str) → Q (.ref t) H'
theorem ok_sorted (T : Tx w K mg) : Dn P w K mg base CX0 1 "_law_sorted" ["events", "names"] (spSorted K) := by
  obtain ⟨fd, F⟩ := T.f_law_sorted
  have nd := sc_law_sorted.nd
  refine ⟨_, fd, F.ok sc_law_sorted (fun vs H Q E h => ?_) (fun cdv A outer s H vs Q E hr h => ⟨_, PSs.nox (pss_one (ps_ret (pe_callTy call_tupN rfl T.b_tuple (by decide +kernel) (pa_cons
    (pe_lc (own := [("event", 2)]) (g := gName 2) (tt := tTest (tOp (rIn K false) (tOp (rIxT K) (tVar 2) (tC (.int 0))) (tVar 1))) (te := tOp (rIxT K) (tVar 2) (tC (.int 0))) (by rfl) nd (pi_list (pv 0)) (blkOk_by (own := [("event", 2)]) (N := n_law_sorted) (sc := defScope s_law_sorted) (by decide +kernel)) (fun _ _ _ _ _ => pg_name (i := 2) nd rfl (Or.inl rfl))
      (fun _ _ _ _ _ => pts_one (pt_cmpR op_in_seq (pe_ix ix_tup (pv 2) pe_int (fun _ _ => rfl)) (pv 1) (by rfl))) (fun _ _ _ _ _ => pe_ix ix_tup (pv 2) pe_int (fun _ _ => rfl))) pa_nil)))), ?_⟩), T.g_law_sorted, F.kp, F.bindsN fun _ _ _ _ _ _ us hl => match us, hl with | [_, _], _ => rfl⟩
  · obtain ⟨l, p, Ts, es, ns, rfl, _⟩ := h
    rfl
  · obtain ⟨l, p, Ts, es, ns, rfl, ho, hn, hp, h⟩ := h
    refine ⟨_, rfl, l, rfl, ⟨_, ho.1⟩, fun D hD => ?_⟩
    refine lc_acc (walk_list (K := K) (xs := Ts.map V.ref)) hD (fun i acc B => Ext H B ∧ acc = (((es.map Ev.name).take i).filter fun x => decide (x ∈ ns)).map V.str) ⟨Ext.rfl', rfl⟩ (fun i acc H4 _ _ q => ho.1.ext fun b o hb => ext_del _ _ (q.1 b o hb)) ?_ ?_
    · rintro i y H4 H' acc hi hacc hl2 ⟨xB, ea⟩ ⟨eH, hy⟩
      subst eH
      rw [List.length_map] at hi
      rw [List.getElem?_map] at hy
      cases qT : Ts[i]? with
      | none => rw [qT] at hy; cases hy
      | some T1 =>
        rw [qT] at hy
        cases Option.some.inj hy
        have x4 : Ext H H' := fun b o hb => ext_del _ _ (xB b o hb)
        obtain ⟨e, qe, u, g1, g2⟩ := (ho.ext x4).at qT
        have qn : (es.map Ev.name)[i]? = some e.name := by rw [List.getElem?_map, qe]; rfl
        have hlen := ho.2.1
        have ef : ∀ b, decide (e.name ∈ ns) = b → (((es.map Ev.name).take (i + 1)).filter fun x => decide (x ∈ ns)) = (((es.map Ev.name).take i).filter fun x => decide (x ∈ ns)) ++ (if b = true then [e.name] else []) := by
          intro b hb
          rw [List.take_add_one, qn, List.filter_append]
          congr 1
          show List.filter _ [e.name] = _
          rw [List.filter_cons, hb]
          cases b <;> rfl
        refine ⟨rfl, ?_⟩
        refine ⟨_, rfl, T1, _, _, _, rfl, rfl, g1, atI_nat (j := 0) rfl, _, rfl, p, _, rfl, hp.elim (fun q => .inl (q.ext x4)) (fun q => .inr (q.ext x4)), rfl, flat_strs ns, _, rfl, ?_⟩
        show if inV (.str e.name) (ns.map V.str) = true then _ else _
        rw [inV_strs]
        by_cases c : e.name ∈ ns
        · refine iteTd (decide_eq_true c) ?_
          refine ⟨_, rfl, T1, _, _, _, rfl, rfl, g1, atI_nat (j := 0) rfl, ?_⟩
          refine acc_add hacc hl2 (small (by omega)) ⟨xB, ?_⟩
          rw [ea, ef true (decide_eq_true c), List.map_append]
          rfl
        · refine iteFd c ?_
          refine acc_skip hacc hl2 ⟨xB, ?_⟩
          rw [ea, ef false (decide_eq_false c)]
          simp
    · rintro H4 acc hacc hl2 ⟨xB, ea⟩
      rw [List.length_map, ho.2.1, List.take_of_length_le (by rw [List.length_map]; exact Nat.le_refl _)] at ea
      rw [ea] at hacc
      exact ⟨D, _, rfl, .inl (SqL.of hacc), fun t2 H5 x5 ht => h t2 H5 (Ext.trans (fun b o hb => ext_del _ _ (xB b o hb)) x5) ht⟩
end
end K01
set_option maxHeartbeats 1000000
namespace K01
open PySem PySem.Spec PyProof.Rows L2 Ax
theorem plc_snoc (es : List Ev) (e : Ev) (n : Str) : plc (es ++ [e]) n = (match plc es n with
  | some j => some j
  | none => if e.name = n then some es.length else none) := by
  unfold plc
  rw [List.findIdx?_append]
  cases q : es.findIdx? (fun e => e.name == n) with
  | some j => rfl
  | none =>
    rw [Option.none_or, List.findIdx?_cons]
    by_cases c : e.name = n
    · rw [if_pos (by simpa using c), if_pos c]
      simp
    · rw [if_neg (by simpa using c), if_neg c]
      simp
section
variable {P : Program} {w : World} {K : PySem.W.Frag} {mg : Str → Option Value} {base : Heap}
/-! ### _law_event -/
def spLEv (K : PySem.W.Frag) : Sp := fun vs H Q _ => ∃ (l : Addr) (n : Str) (Ts : List Addr) (es : List Ev) (i : Nat), vs = [.ref l, .str n] ∧ EvsT K H l Ts es ∧ es.length ≤ 12 ∧ plc es n = some i ∧ ∀ T H', Ext H H' → Ts[i]? = some T → Q (.ref T) H'
theorem ok_lev (T : Tx w K mg) : Dn P w K mg base CX0 1 "_law_event" ["events", "name"] (spLEv K) := by
  obtain ⟨fd, F⟩ := T.f_law_event
  have nd := sc_law_event.nd
  refine ⟨_, fd, F.ok sc_law_event (fun vs H Q E h => ?_) (fun cdv A outer s H vs Q E hr h => ⟨_, PSs.nox (pss_one (ps_ret (pe_ix ix_list
    (pe_lc (own := [("event", 2)]) (g := gName 2) (tt := tTest (tOp rEq (tOp (rIxT K) (tVar 2) (tC (.int 0))) (tVar 1))) (te := tVar 2) (by rfl) nd (pi_list (pv 0)) (blkOk_by (own := [("event", 2)]) (N := n_law_event) (sc := defScope s_law_event) (by decide +kernel)) (fun _ _ _ _ _ => pg_name (i := 2) nd rfl (Or.inl rfl))
      (fun _ _ _ _ _ => pts_one (pt_cmpR op_eq (pe_ix ix_tup (pv 2) pe_int (fun _ _ => rfl)) (pv 1) (nomark _))) (fun _ _ _ _ _ => pv 2)) pe_int (fun _ _ => rfl)))), ?_⟩), T.g_law_event, F.kp, F.bindsN fun _ _ _ _ _ _ us hl => match us, hl with | [_, _], _ => rfl⟩
  · obtain ⟨l, n, Ts, es, i, rfl, _⟩ := h
    rfl
  · obtain ⟨l, n, Ts, es, i, rfl, ho, hn, hi, h⟩ := h
    refine ⟨_, rfl, l, rfl, ⟨_, ho.1⟩, fun D hD => ?_⟩
    refine lc_acc (walk_list (K := K) (xs := Ts.map V.ref)) hD (fun j acc B => Ext H B ∧ (match plc (es.take j) n with
      | some k => ∃ T1, Ts[k]? = some T1 ∧ acc[0]? = some (V.ref T1)
      | none => acc = [])) ⟨Ext.rfl', by show ([] : List V) = []; rfl⟩ (fun j acc H4 _ _ q => ho.1.ext fun b o hb => ext_del _ _ (q.1 b o hb)) ?_ ?_
    · rintro j y H4 H' acc hj hacc hl2 ⟨xB, ea⟩ ⟨eH, hy⟩
      subst eH
      rw [List.length_map] at hj
      rw [List.getElem?_map] at hy
      cases qT : Ts[j]? with
      | none => rw [qT] at hy; cases hy
      | some T1 =>
        rw [qT] at hy
        cases Option.some.inj hy
        have x4 : Ext H H' := fun b o hb => ext_del _ _ (xB b o hb)
        obtain ⟨e, qe, u, g1, g2⟩ := (ho.ext x4).at qT
        have hlen := ho.2.1
        have htk : es.take (j + 1) = es.take j ++ [e] := by rw [List.take_add_one, qe]; rfl
        have hlt : (es.take j).length = j := by rw [List.length_take]; omega
        have hp := plc_snoc (es.take j) e n
        rw [← htk, hlt] at hp
        refine ⟨rfl, ?_⟩
        refine ⟨_, rfl, T1, _, _, _, rfl, rfl, g1, atI_nat (j := 0) rfl, _, rfl, rfl, _, rfl, ?_⟩
        by_cases c : e.name = n
        · refine iteTd (decide_eq_true (by rw [c])) ?_
          refine ⟨_, rfl, ?_⟩
          refine acc_add hacc hl2 (small (by omega)) ⟨xB, ?_⟩
          rw [hp]
          cases q : plc (es.take j) n with
          | some k =>
            rw [q] at ea
            obtain ⟨T2, h1, h2⟩ := ea
            refine ⟨T2, h1, ?_⟩
            rw [List.getElem?_append_left (List.getElem?_eq_some_iff.mp h2).1]
            exact h2
          | none =>
            rw [q] at ea
            dsimp only
            rw [if_pos c]
            refine ⟨T1, qT, ?_⟩
            rw [ea]
            rfl
        · refine iteFd (fun z => c (V.str.inj z)) ?_
          refine acc_skip hacc hl2 ⟨xB, ?_⟩
          rw [hp]
          cases q : plc (es.take j) n with
          | some k =>
            rw [q] at ea
            exact ea
          | none =>
            rw [q] at ea
            dsimp only
            rw [if_neg c]
            exact ea
    · rintro H4 acc hacc hl2 ⟨xB, ea⟩
      rw [List.length_map, ho.2.1, List.take_of_length_le (Nat.le_refl _), hi] at ea
      obtain ⟨T1, h1, h2⟩ := ea
      exact ⟨D, _, _, _, rfl, rfl, SqL.of hacc, atI_nat (j := 0) h2, h T1 H4 (fun b o hb => ext_del _ _ (xB b o hb)) h1⟩
end
end K01
set_option maxHeartbeats 1000000
namespace K01
open PySem PySem.Spec PyProof.Rows L2 Ax
section
variable {P : Program} {w : World} {K : PySem.W.Frag} {mg : Str → Option Value} {base : Heap}
/-! ### _law_behind -/
def lbS (n : Str) (e : Ev) (acc : List Str) : List Str := if n ∈ e.needs ∨ 0 < (e.needs.filter fun m => decide (m ∈ acc)).length then acc ++ [e.name] else acc
def lbF (n : Str) : List Ev → List Str → List Str
  | [], acc => acc
  | e :: es, acc => lbF n es (lbS n e acc)
def spLBeh (K : PySem.W.Frag) : Sp := fun vs H Q _ => ∃ (l : Addr) (n : Str) (Ts : List Addr) (es : List Ev), vs = [.ref l, .str n] ∧ EvsT K H l Ts es ∧ es.length ≤ 12 ∧ (∀ e ∈ es, e.needs.length ≤ 3) ∧ ∀ t H', Ext H H' → SqT K H' t ((lbF n es []).map V.str) → Q (.ref t) H'
theorem ok_lbeh (T : Tx w K mg) : Dn P w K mg base CX0 1 "_law_behind" ["events", "name"] (spLBeh K) := by
  obtain ⟨fd, F⟩ := T.f_law_behind
  have nd := sc_law_behind.nd
  refine ⟨_, fd, F.ok sc_law_behind (fun vs H Q E h => ?_) (fun cdv A outer s H vs Q E hr h => ⟨_, PSs.nox (pss_cons
    (ps_set (i := 2) nd rfl (Or.inr rfl) (pe_lst pa_nil)) (pss_cons
    (ps_for PassesOwn.never rfl (pi_list (pv 0)) (pg_name (i := 3) nd rfl (Or.inl rfl)) (pss_one
      (ps_if (PW.pt (pw_or (pt_cmpR op_in_seq (pv 1) (pe_ix ix_tup (pv 3) pe_int (fun _ _ => rfl)) (by rfl)) (pw_or1 (pt_cmpR op_gt (pe_callB call_len_seq rfl T.b_len (by decide +kernel) (pa_cons
          (pe_lc (own := [("need", 4)]) (g := gName 4) (tt := tTest (tOp (rIn K false) (tVar 4) (tVar 2))) (te := tVar 4) (by rfl) nd (pi_tup (pe_ix ix_tup (pv 3) pe_int (fun _ _ => rfl))) (blkOk_by (own := [("need", 4)]) (N := n_law_behind) (sc := defScope s_law_behind) (by decide +kernel)) (fun _ _ _ _ _ => pg_name (i := 4) nd rfl (Or.inl rfl))
            (fun _ _ _ _ _ => pts_one (pt_cmpR op_in_seq (pv 4) (pv 2) (by rfl))) (fun _ _ _ _ _ => pv 4)) pa_nil)) pe_int (nomark _)))))
        (pss_one (ps_expr (pe_bm PySem.F.plainAttrs_list PySem.F.slot_list_append PySem.F.type_list_append mt_append (pv 2) (pa_cons (pe_ix ix_tup (pv 3) pe_int (fun _ _ => rfl)) pa_nil)))) pss_nil)))
    (pss_one (ps_ret (pe_callTy call_tupN rfl T.b_tuple (by decide +kernel) (pa_cons (pv 2) pa_nil)))))), ?_⟩), T.g_law_behind, F.kp, F.bindsN fun _ _ _ _ _ _ us hl => match us, hl with | [_, _], _ => rfl⟩
  · obtain ⟨l, n, Ts, es, rfl, _⟩ := h
    rfl
  · obtain ⟨l, n, Ts, es, rfl, ho, hn, hn3, h⟩ := h
    refine ⟨by decide, fun D hD => ?_⟩
    have xD : Ext H (upd H D (.lst [])) := Ext.upd hD
    refine ⟨_, rfl, l, rfl, ⟨_, ho.1.ext xD⟩, ?_⟩
    refine for_it (walk_list (K := K) (xs := Ts.map V.ref)) (fun i σ H' => ∃ (s3 : Option V) (fo : List Str), σ = [some (.ref l), some (.str n), some (.ref D), s3, none] ∧ H' D = some (.lst (fo.map V.str)) ∧ Ext H H' ∧ fo.length ≤ i ∧ lbF n (es.drop i) fo = lbF n es [])
      ⟨none, [], rfl, upd_same, xD, Nat.le_refl _, rfl⟩ (fun i σ H' _ ⟨_, _, _, _, x4, _⟩ => ho.1.ext x4) ?_ ?_
    · rintro i y σ H' H'' hi ⟨s3, fo, rfl, hDl, x4, hfl, hb⟩ ⟨eH, hy⟩
      subst eH
      rw [List.length_map] at hi
      rw [List.getElem?_map] at hy
      cases qT : Ts[i]? with
      | none => rw [qT] at hy; cases hy
      | some T1 =>
        rw [qT] at hy
        cases Option.some.inj hy
        obtain ⟨e, qe, u, g1, g2⟩ := (ho.ext x4).at qT
        have hlen := ho.2.1
        have hi2 : i < es.length := by omega
        have hdr : es.drop i = e :: es.drop (i + 1) := by
          rw [List.drop_eq_getElem_cons hi2, Option.some.inj ((List.getElem?_eq_getElem hi2).symm.trans qe)]
        rw [hdr] at hb
        have hb : lbF n (es.drop (i + 1)) (lbS n e fo) = lbF n es [] := hb
        have hn3' := hn3 e (List.mem_of_getElem? qe)
        have hsz : 20 < sizeLine := by decide
        refine ⟨_, rfl, _, rfl, T1, _, _, _, rfl, rfl, g1, atI_nat (j := 3) rfl, u, _, rfl, .inr g2, rfl, flat_strs _, _, rfl, ?_⟩
        show if inV (.str n) (e.needs.map V.str) = true then _ else _
        rw [inV_strs]
        by_cases c1 : n ∈ e.needs
        · have hS : lbS n e fo = fo ++ [e.name] := if_pos (.inl c1)
          rw [hS] at hb
          have x0 : Ext H'' H'' := Ext.rfl'
          refine iteTd (decide_eq_true c1) ?_
          refine iteT ?_
          refine ⟨_, rfl, .inl ⟨rfl, _, SqL.of (x0 _ _ hDl)⟩, _, rfl, T1, _, _, _, rfl, rfl, g1, atI_nat (j := 0) rfl, D, _, _, rfl, rfl, x0 _ _ hDl, ?_, ?_⟩
          · rw [List.length_map]
            omega
          · refine ⟨_, fo ++ [e.name], rfl, ?_, ?_, ?_, hb⟩
            · rw [List.map_append]
              exact upd_same
            · intro b o hbo
              rw [upd_ne (ne_of_none hbo hD)]
              exact x0 _ _ (x4 _ _ hbo)
            · rw [List.length_append]
              exact Nat.succ_le_succ hfl
          
        · refine iteFd c1 ?_
          refine ⟨_, rfl, T1, _, _, _, rfl, rfl, g1, atI_nat (j := 3) rfl, u, rfl, ⟨_, g2⟩, fun L hL => ?_⟩
          refine lc_acc (walk_tup (K := K) (xs := e.needs.map V.str)) hL (fun j acc B => Ext H'' B ∧ acc = ((e.needs.take j).filter fun m => decide (m ∈ fo)).map V.str) ⟨Ext.rfl', rfl⟩ (fun j acc H5 _ _ q => g2.ext fun b o hb => ext_del _ _ (q.1 b o hb)) ?_ ?_
          · rintro j y H5 H6 acc hj hacc hl2 ⟨xB, ea⟩ ⟨eH, hy⟩
            subst eH
            rw [List.length_map] at hj
            rw [List.getElem?_map] at hy
            cases qn : e.needs[j]? with
            | none => rw [qn] at hy; cases hy
            | some m =>
              rw [qn] at hy
              cases Option.some.inj hy
              have x6 : Ext H'' H6 := fun b o hb => ext_del _ _ (xB b o hb)
              have ef : ∀ b, decide (m ∈ fo) = b → ((e.needs.take (j + 1)).filter fun m => decide (m ∈ fo)) = ((e.needs.take j).filter fun m => decide (m ∈ fo)) ++ (if b = true then [m] else []) := by
                intro b hb
                rw [List.take_add_one, qn, List.filter_append]
                congr 1
                show List.filter _ [m] = _
                rw [List.filter_cons, hb]
                cases b <;> rfl
              refine ⟨rfl, ?_⟩
              refine ⟨_, rfl, _, rfl, D, _, rfl, .inl (SqL.of (x6 _ _ hDl)), rfl, flat_strs fo, _, rfl, ?_⟩
              show if inV (.str m) (fo.map V.str) = true then _ else _
              rw [inV_strs]
              by_cases c : m ∈ fo
              · refine iteTd (decide_eq_true c) ?_
                refine ⟨_, rfl, ?_⟩
                refine acc_add hacc hl2 (small (by omega)) ⟨xB, ?_⟩
                rw [ea, ef true (decide_eq_true c), List.map_append]
                rfl
              · refine iteFd c ?_
                refine acc_skip hacc hl2 ⟨xB, ?_⟩
                rw [ea, ef false (decide_eq_false c)]
                simp
          · rintro H5 acc hacc hl2 ⟨xB, ea⟩
            rw [List.length_map, List.take_of_length_le (Nat.le_refl _)] at ea
            rw [ea] at hacc
            have x5 : Ext H'' H5 := fun b o hb => ext_del _ _ (xB b o hb)
            refine ⟨L, _, rfl, .inl (SqL.of hacc), _, _, rfl, rfl, _, rfl, ?_⟩
            rw [List.length_map]
            by_cases c2 : 0 < (e.needs.filter fun m => decide (m ∈ fo)).length
            · have hS : lbS n e fo = fo ++ [e.name] := if_pos (.inr c2)
              rw [hS] at hb
              refine iteTd (decide_eq_true (by omega)) ?_
              refine ⟨_, rfl, .inl ⟨rfl, _, SqL.of (x5 _ _ hDl)⟩, _, rfl, T1, _, _, _, rfl, rfl, g1.ext x5, atI_nat (j := 0) rfl, D, _, _, rfl, rfl, x5 _ _ hDl, ?_, ?_⟩
              · rw [List.length_map]
                omega
              · refine ⟨_, fo ++ [e.name], rfl, ?_, ?_, ?_, hb⟩
                · rw [List.map_append]
                  exact upd_same
                · intro b o hbo
                  rw [upd_ne (ne_of_none hbo hD)]
                  exact x5 _ _ (x4 _ _ hbo)
                · rw [List.length_append]
                  exact Nat.succ_le_succ hfl
              
            · have hS : lbS n e fo = fo := if_neg fun z => z.elim c1 c2
              rw [hS] at hb
              refine iteFd (by omega) ?_
              exact ⟨_, fo, rfl, x5 _ _ hDl, x4.trans x5, by omega, hb⟩
    · rintro σ H' ⟨s3, fo, rfl, hDl, x4, hfl, hb⟩
      rw [List.length_map, ho.2.1, List.drop_of_length_le (Nat.le_refl _)] at hb
      have hb : fo = lbF n es [] := hb
      refine ⟨_, rfl, D, _, rfl, .inl (SqL.of hDl), fun t2 H5 x5 ht => h t2 H5 (x4.trans x5) ?_⟩
      rw [hb] at ht
      exact ht
end
end K01
set_option maxHeartbeats 1000000
namespace K01
open PySem PySem.Spec PyProof.Rows L2 Ax
theorem walk_revL {K : PySem.W.Frag} {a : Addr} {xs : List V} : Walk (Itv K a xs.length) xs.length (fun H => SqL K H a xs) (fun i H x H' => H' = H ∧ xs[xs.length - 1 - i]? = some x) :=
  ⟨fun i _ hi q => ⟨hi, xs, xs[xs.length - 1 - i]'(by omega), q, List.getElem?_eq_getElem _⟩, fun _ _ => Nat.le_refl _, fun _ _ _ _ _ q y => ⟨y.1, y.2 xs q⟩⟩
section
variable {P : Program} {w : World} {K : PySem.W.Frag} {mg : Str → Option Value} {base : Heap}
/-! ### _law_chained -/
def spCha (K : PySem.W.Frag) : Sp := fun vs H Q _ => ∃ (l : Addr) (n el : Str) (Ts : List Addr) (es : List Ev), vs = [.ref l, .str n, .str el] ∧ EvsT K H l Ts es ∧ es.length ≤ 12 ∧ (∀ e ∈ es, e.needs.length ≤ 3) ∧ ∀ H', Ext H H' → Q (.bl (decide (el ∈ loF es.reverse [n]))) H'
theorem ok_cha (T : Tx w K mg) : Dn P w K mg base CX0 1 "_law_chained" ["events", "name", "elder"] (spCha K) := by
  obtain ⟨fd, F⟩ := T.f_law_chained
  have nd := sc_law_chained.nd
  refine ⟨_, fd, F.ok sc_law_chained (fun vs H Q E h => ?_) (fun cdv A outer s H vs Q E hr h => ⟨_, PSs.nox (pss_cons
    (ps_set (i := 3) nd rfl (Or.inl rfl) (pe_lst (pa_cons (pv 1) pa_nil))) (pss_cons
    (ps_for PassesOwn.never rfl (RT.pi_revA (by rfl) T.b_reversed (pv 0)) (pg_name (i := 4) nd rfl (Or.inl rfl)) (pss_one
      (ps_if (PW.pt (pw_and (pt_cmpR op_in_seq (pe_ix ix_tup (pv 4) pe_int (fun _ _ => rfl)) (pv 3) (by rfl)) (pw_and1 (pt_cmpR op_eq (pe_ix ix_tup (pv 4) pe_int (fun _ _ => rfl)) pe_str (nomark _)))))
        (pss_one (ps_set (i := 3) nd rfl (Or.inl rfl) (pe_op op_cat (pv 3) (pe_callTy call_list_of rfl T.b_list (by decide +kernel) (pa_cons (pe_ix ix_tup (pv 4) pe_int (fun _ _ => rfl)) pa_nil))))) pss_nil)))
    (pss_one (ps_ret (pe_cmpR op_in_seq (pv 2) (pv 3) (by rfl)))))), ?_⟩), T.g_law_chained, F.kp, F.bindsN fun _ _ _ _ _ _ us hl => match us, hl with | [_, _, _], _ => rfl⟩
  · obtain ⟨l, n, el, Ts, es, rfl, _⟩ := h
    rfl
  · obtain ⟨l, n, el, Ts, es, rfl, ho, hn, hn3, h⟩ := h
    refine ⟨_, rfl, by show 1 ≤ sizeLine; decide, fun D hD => ?_⟩
    have xD : Ext H (upd H D (.lst [.str n])) := Ext.upd hD
    have hal : (Ts.map V.ref).length = es.length := by rw [List.length_map, ho.2.1]
    refine ⟨_, rfl, l, _, rfl, .inl ⟨ho.1.ext xD, ?_⟩⟩
    refine for_it (walk_revL (K := K) (xs := Ts.map V.ref)) (fun i σ H' => ∃ (s4 : Option V) (R : Addr) (fo : List Str), σ = [some (.ref l), some (.str n), some (.str el), some (.ref R), s4] ∧ H' R = some (.lst (fo.map V.str)) ∧ Ext H H' ∧ fo.length ≤ 1 + 3 * i ∧ loF (es.reverse.drop i) fo = loF es.reverse [n])
      ⟨none, D, [n], rfl, upd_same, xD, Nat.le_refl _, rfl⟩ (fun i σ H' _ ⟨_, _, _, _, _, x4, _⟩ => ho.1.ext x4) ?_ ?_
    · rintro i y σ H' H'' hi ⟨s4, R, fo, rfl, hR, x4, hfl, hb⟩ ⟨eH, hy⟩
      subst eH
      rw [hal] at hi hy
      rw [List.getElem?_map] at hy
      cases qT : Ts[es.length - 1 - i]? with
      | none => rw [qT] at hy; cases hy
      | some T1 =>
        rw [qT] at hy
        cases Option.some.inj hy
        obtain ⟨e, qe, u, g1, g2⟩ := (ho.ext x4).at qT
        have hrl : i < es.reverse.length := by rw [List.length_reverse]; exact hi
        have hdr : es.reverse.drop i = e :: es.reverse.drop (i + 1) := by
          rw [List.drop_eq_getElem_cons hrl]
          congr 1
          have q2 := List.getElem?_eq_getElem hrl
          rw [List.getElem?_reverse hi, qe] at q2
          exact (Option.some.inj q2).symm
        rw [hdr] at hb
        have hb : loF (es.reverse.drop (i + 1)) (loS e fo) = loF es.reverse [n] := hb
        have hn3' := hn3 e (List.mem_of_getElem? qe)
        have hsz : 60 < sizeLine := by decide
        refine ⟨_, rfl, T1, _, _, _, rfl, rfl, g1, atI_nat (j := 0) rfl, _, rfl, R, _, rfl, .inl (SqL.of hR), rfl, flat_strs _, _, rfl, ?_⟩
        show if inV (.str e.name) (fo.map V.str) = true then _ else _
        rw [inV_strs]
        by_cases c2 : e.name ∈ fo
        · refine iteTd (decide_eq_true c2) ?_
          refine ⟨_, rfl, T1, _, _, _, rfl, rfl, g1, atI_nat (j := 2) rfl, rfl, _, rfl, ?_⟩
          by_cases c1 : e.kind = "query"
          · have hS : loS e fo = fo ++ e.needs := if_pos ⟨c1, c2⟩
            rw [hS] at hb
            refine iteTd (decide_eq_true (by rw [c1])) ?_
            refine ⟨_, rfl, _, rfl, T1, _, _, _, rfl, rfl, g1, atI_nat (j := 3) rfl, u, _, rfl, .inr g2, fun L hL => ?_⟩
            have xL : Ext H'' (upd H'' L (.lst (e.needs.map V.str))) := Ext.upd hL
            refine ⟨R, L, _, _, rfl, rfl, xL _ _ hR, upd_same, by rw [List.length_map, List.length_map]; omega, fun p hp => ?_⟩
            refine ⟨_, p, fo ++ e.needs, rfl, ?_, x4.trans (xL.trans (Ext.upd hp)), ?_, hb⟩
            · rw [List.map_append]
              exact upd_same
            · rw [List.length_append]
              omega
          · have hS : loS e fo = fo := if_neg fun z => c1 z.1
            rw [hS] at hb
            refine iteFd (fun z => c1 (V.str.inj z)) ?_
            exact ⟨_, R, fo, rfl, hR, x4, by omega, hb⟩
        · have hS : loS e fo = fo := if_neg fun z => c2 z.2
          rw [hS] at hb
          refine iteFd c2 ?_
          refine iteF ?_
          exact ⟨_, R, fo, rfl, hR, x4, by omega, hb⟩
    · rintro σ H' ⟨s4, R, fo, rfl, hR, x4, hfl, hb⟩
      rw [hal, List.drop_of_length_le (by rw [List.length_reverse]; exact Nat.le_refl _)] at hb
      have hb : fo = loF es.reverse [n] := hb
      refine ⟨_, rfl, _, rfl, R, _, rfl, .inl (SqL.of hR), rfl, flat_strs _, ?_⟩
      show Q (.bl (inV (.str el) (fo.map V.str))) H'
      rw [inV_strs, hb]
      exact h H' x4
end
end K01
set_option maxHeartbeats 1000000
namespace K01
open PySem PySem.Spec PyProof.Rows L2 Ax
section
variable {P : Program} {w : World} {K : PySem.W.Frag} {mg : Str → Option Value} {base : Heap}
/-! ### _law_loose -/
def llP (es : List Ev) (e : Ev) (m : Str) : Bool := decide (m = e.name) || decide (e.name ∈ loF es.reverse [m])
def llR (es : List Ev) (ns : List Str) (e : Ev) : List Str := (ns.filter (llP es e)).map fun _ => e.name
def llF (es : List Ev) (ns : List Str) : List Str := es.flatMap (llR es ns)
def spLLo (K : PySem.W.Frag) : Sp := fun vs H Q _ => ∃ (l : Addr) (n : Str) (Ts : List Addr) (es : List Ev) (i : Nat) (e0 : Ev), vs = [.ref l, .str n] ∧ EvsT K H l Ts es ∧ es.length ≤ 12 ∧ (∀ e ∈ es, e.needs.length ≤ 3) ∧ plc es n = some i ∧ es[i]? = some e0 ∧
  ∀ t H', Ext H H' → SqT K H' t ((inOrd es (llF es e0.needs)).map V.str) → Q (.ref t) H'
theorem ok_llo (T : Tx w K mg) : Dn P w K mg base CX0 2 "_law_loose" ["events", "name"] (spLLo K) := by
  obtain ⟨fd, F⟩ := T.f_law_loose
  have nd := sc_law_loose.nd
  refine ⟨_, fd, F.ok sc_law_loose (fun vs H Q E h => ?_) (fun cdv A outer s H vs Q E hr h => ⟨_, PSs.nox (pss_cons
    (ps_set (i := 2) nd rfl (Or.inl rfl) (pe_lst pa_nil)) (pss_cons
    (ps_for PassesOwn.never rfl (pi_list (pv 0)) (pg_name (i := 3) nd rfl (Or.inl rfl)) (pss_one
      (ps_for PassesOwn.never rfl (pi_tup (pe_ix ix_tup (pe_dn (ok_lev T) hr rfl pass0 (pa_cons (pv 0) (pa_cons (pv 1) pa_nil))) pe_int (fun _ _ => rfl))) (pg_name (i := 4) nd rfl (Or.inl rfl)) (pss_one
        (ps_if (PW.pt (pw_or (pt_cmpR op_eq (pv 4) (pe_ix ix_tup (pv 3) pe_int (fun _ _ => rfl)) (nomark _)) (pw_or1 (pt_val (pe_dn (ok_cha T) hr rfl pass0 (pa_cons (pv 0) (pa_cons (pv 4) (pa_cons (pe_ix ix_tup (pv 3) pe_int (fun _ _ => rfl)) pa_nil))))))))
          (pss_one (ps_expr (pe_bm PySem.F.plainAttrs_list PySem.F.slot_list_append PySem.F.type_list_append mt_append (pv 2) (pa_cons (pe_ix ix_tup (pv 3) pe_int (fun _ _ => rfl)) pa_nil)))) pss_nil)))))
    (pss_one (ps_ret (pe_dn (ok_sorted T) hr rfl pass0 (pa_cons (pv 0) (pa_cons (pv 2) pa_nil))))))), ?_⟩), T.g_law_loose, F.kp, F.bindsN fun _ _ _ _ _ _ us hl => match us, hl with | [_, _], _ => rfl⟩
  · obtain ⟨l, n, Ts, es, i, e0, rfl, _⟩ := h
    rfl
  · obtain ⟨l, n, Ts, es, i0, e0, rfl, ho, hn, hn3, hp, q0, h⟩ := h
    refine ⟨by decide, fun D hD => ?_⟩
    have xD : Ext H (upd H D (.lst [])) := Ext.upd hD
    have hl0 := hn3 e0 (List.mem_of_getElem? q0)
    have hi0 : i0 < Ts.length := by rw [ho.2.1]; exact (List.getElem?_eq_some_iff.mp q0).1
    have qT0 : Ts[i0]? = some Ts[i0] := List.getElem?_eq_getElem hi0
    generalize Ts[i0] = T0 at qT0
    have hsz : 60 < sizeLine := by decide
    refine ⟨_, rfl, l, rfl, ⟨_, ho.1.ext xD⟩, ?_⟩
    refine for_it (walk_list (K := K) (xs := Ts.map V.ref)) (fun i σ H' => ∃ (s3 s4 : Option V) (fo : List Str), σ = [some (.ref l), some (.str n), some (.ref D), s3, s4] ∧ H' D = some (.lst (fo.map V.str)) ∧ Ext H H' ∧ fo.length ≤ 3 * i ∧ fo = (es.take i).flatMap (llR es e0.needs))
      ⟨none, none, [], rfl, upd_same, xD, Nat.le_refl _, rfl⟩ (fun i σ H' _ ⟨_, _, _, _, _, x4, _⟩ => ho.1.ext x4) ?_ ?_
    · rintro i y σ H' H'' hi ⟨s3, s4, fo, rfl, hDl, x4, hfl, hb⟩ ⟨eH, hy⟩
      subst eH
      rw [List.length_map] at hi
      rw [List.getElem?_map] at hy
      cases qT : Ts[i]? with
      | none => rw [qT] at hy; cases hy
      | some T1 =>
        rw [qT] at hy
        cases Option.some.inj hy
        obtain ⟨e, qe, u, g1, g2⟩ := (ho.ext x4).at qT
        have hlen := ho.2.1
        have htk : es.take (i + 1) = es.take i ++ [e] := by rw [List.take_add_one, qe]; rfl
        refine ⟨_, rfl, _, rfl, l, n, Ts, es, i0, rfl, ho.ext x4, hn, hp, fun T2 H3 x3 q2 => ?_⟩
        rw [qT0] at q2
        cases Option.some.inj q2
        obtain ⟨u0, k1, k2⟩ := ho.2.2 i0 T0 e0 qT0 q0
        have x03 := x4.trans x3
        refine ⟨T0, _, _, _, rfl, rfl, k1.ext x03, atI_nat (j := 3) rfl, u0, rfl, ⟨_, k2.ext x03⟩, ?_⟩
        refine for_tup (K := K) (xs := e0.needs.map V.str) (fun j σ H' => ∃ (s4 : Option V) (fi : List Str), σ = [some (.ref l), some (.str n), some (.ref D), some (.ref T1), s4] ∧ H' D = some (.lst (fi.map V.str)) ∧ Ext H H' ∧ fi.length ≤ 3 * i + j ∧ fi = fo ++ llR es (e0.needs.take j) e)
          ⟨s4, fo, rfl, x3 _ _ hDl, x03, hfl, by simp [llR]⟩ (fun j σ H' _ ⟨_, _, _, _, x5, _⟩ => k2.ext x5) ?_ ?_
        · rintro j y σ H5 hy ⟨s4, fi, rfl, hDi, x5, hfi, hbi⟩
          rw [List.getElem?_map] at hy
          cases qn : e0.needs[j]? with
          | none => rw [qn] at hy; cases hy
          | some m =>
            rw [qn] at hy
            cases Option.some.inj hy
            obtain ⟨u1, m1, _⟩ := (ho.2.2 i T1 e qT qe).ext x5
            have hj : j < e0.needs.length := (List.getElem?_eq_some_iff.mp qn).1
            have hi12 : i < 12 := by omega
            have ef : ∀ b, llP es e m = b → llR es (e0.needs.take (j + 1)) e = llR es (e0.needs.take j) e ++ (if b = true then [e.name] else []) := by
              intro b hb
              unfold llR
              rw [List.take_add_one, qn, List.filter_append, List.map_append]
              congr 1
              show List.map _ (List.filter _ [m]) = _
              rw [List.filter_cons, hb]
              cases b <;> rfl
            refine ⟨_, rfl, _, rfl, T1, _, _, _, rfl, rfl, m1, atI_nat (j := 0) rfl, rfl, _, rfl, ?_⟩
            by_cases c1 : m = e.name
            · have hP : llP es e m = true := by unfold llP; rw [decide_eq_true c1]; rfl
              have x0 : Ext H5 H5 := Ext.rfl'
              refine iteTd (decide_eq_true (by rw [c1])) ?_
              refine iteT ?_
              refine ⟨_, rfl, .inl ⟨rfl, _, SqL.of (x0 _ _ hDi)⟩, _, rfl, T1, _, _, _, rfl, rfl, m1.ext x0, atI_nat (j := 0) rfl, D, _, _, rfl, rfl, x0 _ _ hDi, ?_, ?_⟩
              · rw [List.length_map]
                omega
              · refine ⟨_, fi ++ [e.name], rfl, ?_, ?_, ?_, ?_⟩
                · rw [List.map_append]
                  exact upd_same
                · intro b o hbo
                  rw [upd_ne (ne_of_none hbo hD)]
                  exact x0 _ _ (x5 _ _ hbo)
                · rw [List.length_append]
                  exact Nat.succ_le_succ hfi
                · rw [hbi, ef true hP, List.append_assoc]
                  rfl
              
            · refine iteFd (fun z => c1 (V.str.inj z)) ?_
              refine ⟨_, rfl, _, rfl, _, rfl, T1, _, _, _, rfl, rfl, m1, atI_nat (j := 0) rfl, l, m, e.name, Ts, es, rfl, ho.ext x5, hn, hn3, fun H6 x6 => ⟨_, rfl, ?_⟩⟩
              by_cases c2 : e.name ∈ loF es.reverse [m]
              · have hP : llP es e m = true := by unfold llP; rw [decide_eq_true c2, Bool.or_true]
                refine iteTd (decide_eq_true c2) ?_
                refine ⟨_, rfl, .inl ⟨rfl, _, SqL.of (x6 _ _ hDi)⟩, _, rfl, T1, _, _, _, rfl, rfl, m1.ext x6, atI_nat (j := 0) rfl, D, _, _, rfl, rfl, x6 _ _ hDi, ?_, ?_⟩
                · rw [List.length_map]
                  omega
                · refine ⟨_, fi ++ [e.name], rfl, ?_, ?_, ?_, ?_⟩
                  · rw [List.map_append]
                    exact upd_same
                  · intro b o hbo
                    rw [upd_ne (ne_of_none hbo hD)]
                    exact x6 _ _ (x5 _ _ hbo)
                  · rw [List.length_append]
                    exact Nat.succ_le_succ hfi
                  · rw [hbi, ef true hP, List.append_assoc]
                    rfl
                
              · have hP : llP es e m = false := by unfold llP; rw [decide_eq_false c1, decide_eq_false c2]; rfl
                refine iteFd c2 ?_
                refine ⟨_, fi, rfl, x6 _ _ hDi, x5.trans x6, by omega, ?_⟩
                rw [hbi, ef false hP]
                simp
        · rintro σ H5 ⟨s4, fi, rfl, hDi, x5, hfi, hbi⟩
          rw [List.length_map] at hfi hbi
          rw [List.take_of_length_le (Nat.le_refl _)] at hbi
          refine ⟨_, _, fi, rfl, hDi, x5, by omega, ?_⟩
          rw [hbi, htk, List.flatMap_append, ← hb]
          simp
    · rintro σ H' ⟨s3, s4, fo, rfl, hDl, x4, hfl, hb⟩
      rw [List.length_map, ho.2.1, List.take_of_length_le (Nat.le_refl _)] at hb
      refine ⟨_, rfl, _, rfl, l, D, Ts, es, fo, rfl, ho.ext x4, hn, .inl (SqL.of hDl), fun t2 H5 x5 ht => h t2 H5 (x4.trans x5) ?_⟩
      rw [hb] at ht
      exact ht
end
end K01
set_option maxHeartbeats 1000000
namespace K01
open PySem PySem.Spec PyProof.Rows L2 Ax
/-! ### behind: the order's walk and the law's tell the same -/
theorem beh_cond (n : Str) (e : Ev) (acc : List Str) : (e.needs.map fun m => decide (m ∈ n :: acc)).any id = true ↔ (n ∈ e.needs ∨ 0 < (e.needs.filter fun m => decide (m ∈ acc)).length) := by
  rw [List.any_map, List.any_eq_true, List.length_pos_iff_exists_mem]
  constructor
  · rintro ⟨m, hm, hd⟩
    have hd : m ∈ n :: acc := of_decide_eq_true hd
    rcases List.mem_cons.mp hd with z | z
    · exact .inl (z ▸ hm)
    · exact .inr ⟨m, List.mem_filter.mpr ⟨hm, decide_eq_true z⟩⟩
  · rintro (h | ⟨m, hm⟩)
    · exact ⟨n, h, decide_eq_true List.mem_cons_self⟩
    · obtain ⟨h1, h2⟩ := List.mem_filter.mp hm
      exact ⟨m, h1, decide_eq_true (List.mem_cons_of_mem _ (of_decide_eq_true h2))⟩
theorem behS_lb (n : Str) (e : Ev) (acc : List Str) : behS e (n :: acc) = n :: lbS n e acc := by
  unfold behS lbS
  by_cases c : (e.needs.map fun m => decide (m ∈ n :: acc)).any id = true
  · rw [if_pos c, if_pos ((beh_cond n e acc).mp c)]
    rfl
  · rw [if_neg c, if_neg fun z => c ((beh_cond n e acc).mpr z)]
theorem behF_lb (n : Str) : ∀ (es : List Ev) (acc : List Str), behF es (n :: acc) = n :: lbF n es acc
  | [], _ => rfl
  | e :: es, acc => by
    show behF es (behS e (n :: acc)) = n :: lbF n es (lbS n e acc)
    rw [behS_lb, behF_lb n es]
theorem beh_same (n : Str) (es : List Ev) : (behF es [n]).drop 1 = lbF n es [] := by
  rw [behF_lb]
  rfl
/-! ### loose: a walk from several starts is the walks from each -/
theorem mem_loS (e : Ev) (acc : List Str) (x : Str) : x ∈ loS e acc ↔ x ∈ acc ∨ (e.kind = "query" ∧ e.name ∈ acc ∧ x ∈ e.needs) := by
  unfold loS
  by_cases c : e.kind = "query" ∧ e.name ∈ acc
  · rw [if_pos c, List.mem_append]
    exact ⟨fun h => h.imp id fun h => ⟨c.1, c.2, h⟩, fun h => h.imp id fun h => h.2.2⟩
  · rw [if_neg c]
    exact ⟨.inl, fun h => h.elim id fun h => absurd ⟨h.1, h.2.1⟩ c⟩
theorem mem_loF : ∀ (es : List Ev) (acc : List Str) (x : Str), x ∈ loF es acc ↔ ∃ m ∈ acc, x ∈ loF es [m]
  | [], acc, x => by
    show x ∈ acc ↔ ∃ m ∈ acc, x ∈ [m]
    exact ⟨fun h => ⟨x, h, List.mem_singleton.mpr rfl⟩, fun ⟨m, h, z⟩ => by rw [List.mem_singleton.mp z]; exact h⟩
  | e :: es, acc, x => by
    show x ∈ loF es (loS e acc) ↔ ∃ m ∈ acc, x ∈ loF es (loS e [m])
    rw [mem_loF es (loS e acc) x]
    constructor
    · rintro ⟨m, hm, hx⟩
      rcases (mem_loS e acc m).mp hm with h | ⟨h1, h2, h3⟩
      · exact ⟨m, h, (mem_loF es _ x).mpr ⟨m, (mem_loS e [m] m).mpr (.inl (List.mem_singleton.mpr rfl)), hx⟩⟩
      · exact ⟨e.name, h2, (mem_loF es _ x).mpr ⟨m, (mem_loS e [e.name] m).mpr (.inr ⟨h1, List.mem_singleton.mpr rfl, h3⟩), hx⟩⟩
    · rintro ⟨m, hm, hx⟩
      obtain ⟨m', hm', hx'⟩ := (mem_loF es _ x).mp hx
      refine ⟨m', ?_, hx'⟩
      rcases (mem_loS e [m] m').mp hm' with h | ⟨h1, h2, h3⟩
      · rw [List.mem_singleton.mp h]
        exact (mem_loS e acc m).mpr (.inl hm)
      · exact (mem_loS e acc m').mpr (.inr ⟨h1, by rw [List.mem_singleton.mp h2]; exact hm, h3⟩)
theorem loF_start : ∀ (es : List Ev) (acc : List Str) (x : Str), x ∈ acc → x ∈ loF es acc
  | [], _, _, h => h
  | e :: es, acc, x, h => loF_start es (loS e acc) x ((mem_loS e acc x).mpr (.inl h))
theorem loose_same (es : List Ev) (ns : List Str) : inOrd es (llF es ns) = inOrd es (loF es.reverse ns) := by
  unfold inOrd
  refine List.filter_congr fun x hx => ?_
  refine decide_eq_decide.mpr ?_
  rw [mem_loF]
  unfold llF
  rw [List.mem_flatMap]
  constructor
  · rintro ⟨e, _, h⟩
    unfold llR at h
    obtain ⟨m, hm, e1⟩ := List.mem_map.mp h
    obtain ⟨h1, h2⟩ := List.mem_filter.mp hm
    refine ⟨m, h1, ?_⟩
    rw [← e1]
    unfold llP at h2
    rcases Bool.or_eq_true_iff.mp h2 with h2 | h2
    · rw [← of_decide_eq_true h2]
      exact loF_start _ _ _ (List.mem_singleton.mpr rfl)
    · exact of_decide_eq_true h2
  · rintro ⟨m, hm, h⟩
    obtain ⟨e, he, e1⟩ := List.mem_map.mp hx
    refine ⟨e, he, ?_⟩
    unfold llR
    refine List.mem_map.mpr ⟨m, List.mem_filter.mpr ⟨hm, ?_⟩, e1⟩
    unfold llP
    rw [e1, decide_eq_true h, Bool.or_true]
end K01
set_option maxHeartbeats 1000000
namespace K01
open PySem PySem.Spec PyProof.Rows L2 Ax
section
variable {P : Program} {w : World} {K : PySem.W.Frag} {mg : Str → Option Value} {base : Heap}
/-! ### names -/
def spNamesO (K : PySem.W.Frag) : Sp := fun vs H Q _ => ∃ (a : Addr) (evs : List Ev), vs = [.ref a] ∧ OrdAt K H a evs ∧ ∀ t, SqT K H t ((evs.map Ev.name).map V.str) → Q (.ref t) H
theorem ok_namesO (T : Tx w K mg) : ∃ (f : Addr) (fd : FuncData), FnOk P w K mg base CX0 1 f fd ["self"] (spNamesO K) ∧ PropOf K (He.ga K "Order") "names" (He.ma K (He.ga K "Order") "names") f ∧ Binds K fd ["self"] [] := by
  obtain ⟨hp, fd, F⟩ := T.p_Order_names
  refine ⟨_, fd, F.ok sc_Order_names (fun vs H Q E h => ?_) (fun cdv A outer s H vs Q E hr h => ⟨_, PSs.nox (pss_one (ps_ret (pe_fld (pv 0) rfl))), ?_⟩), hp, F.bindsN fun _ _ _ _ _ _ us hl => match us, hl with | [_], _ => rfl⟩
  · obtain ⟨a, evs, rfl, _⟩ := h
    rfl
  · obtain ⟨a, evs, rfl, ho, h⟩ := h
    obtain ⟨dx, t, as, fs, h1, h2, h3, h4, u, h5, h6, _⟩ := id ho
    exact ⟨_, rfl, a, _, dx, fs, _, rfl, h1, T.c_Order, T.n_Order__names, h5, h u h6⟩
/-- order.names -/
theorem pe_namesO {X : Cx} {e : Expr} {ta : TE} {pos : Pos} (T : Tx X.w X.K X.mg) (hr : Room 2 X.A) (he : PE X e ta) (hab : attributeBase e "names" X.env (eval e X.env) = eval e X.env := by rfl) :
    PE X (.Attribute e "names" pos) (tProp (He.ga X.K "Order") (spNamesO X.K) [] E0 ta) := by
  obtain ⟨f, fd, F, hp, hb⟩ := ok_namesO (P := X.prog) (base := X.base) T
  exact pe_prop he T.c_Order hp F hr hb .nil pass0 hab
end
end K01
set_option maxHeartbeats 1000000
namespace K01
open PySem PySem.Spec PyProof.Rows L2 Ax
/-! ### the events of the law, drawn -/
theorem pe_imp {X : Cx} {e : Expr} {t t' : TE} (he : PE X e t) (h : ∀ σ H Q, t' σ H Q → t σ H Q) : PE X e t' := ⟨fun pins s σ H Q I q => he.run pins s σ H Q I (h σ H Q q)⟩
/-- the needs' tuple has no dict -/
def EvZ (K : PySem.W.Frag) (H : Hp) (T : Addr) (e : Ev) : Prop := ∃ u, SqT K H T [.str e.name, .int e.fin, .str e.kind, .ref u] ∧ TupZ H u (e.needs.map V.str)
theorem EvZ.ext {K : PySem.W.Frag} {H H' : Hp} {T : Addr} {e : Ev} (h : EvZ K H T e) (x : Ext H H') : EvZ K H' T e := let ⟨u, h1, h2⟩ := h; ⟨u, h1.ext x, h2.ext x⟩
theorem EvZ.ev {K : PySem.W.Frag} {H : Hp} {T : Addr} {e : Ev} (h : EvZ K H T e) : EvT K H T e := let ⟨u, h1, h2⟩ := h; ⟨u, h1, h2.sq⟩
def TsT (K : PySem.W.Frag) (H : Hp) (ts : List Addr) (evs : List Ev) : Prop := ts.length = evs.length ∧ ∀ (i : Nat) (t : Addr) (e : Ev), ts[i]? = some t → evs[i]? = some e → EvZ K H t e
theorem TsT.ext {K : PySem.W.Frag} {H H' : Hp} {ts : List Addr} {evs : List Ev} (h : TsT K H ts evs) (x : Ext H H') : TsT K H' ts evs := ⟨h.1, fun i a e h1 h2 => (h.2 i a e h1 h2).ext x⟩
theorem TsT.nil {K : PySem.W.Frag} {H : Hp} : TsT K H [] [] := ⟨rfl, fun i t e h _ => by cases h⟩
theorem TsT.snoc {K : PySem.W.Frag} {H : Hp} {as : List Addr} {evs : List Ev} {a : Addr} {e : Ev} (h : TsT K H as evs) (g : EvZ K H a e) : TsT K H (as ++ [a]) (evs ++ [e]) := by
  refine ⟨by simp [h.1], fun i b f h1 h2 => ?_⟩
  by_cases c : i < as.length
  · rw [List.getElem?_append_left c] at h1
    rw [List.getElem?_append_left (by rw [← h.1]; exact c)] at h2
    exact h.2 i b f h1 h2
  · have c2 : i = as.length := by
      have := (List.getElem?_eq_some_iff.mp h1).1
      simp at this
      omega
    subst c2
    rw [List.getElem?_append_right (Nat.le_refl _), Nat.sub_self] at h1
    rw [h.1, List.getElem?_append_right (Nat.le_refl _), Nat.sub_self] at h2
    cases Option.some.inj h1
    cases Option.some.inj h2
    exact g
def poolL : List Str := ["m", "b2", "z", "a", "k0", "c", "zz9", "d", "w1", "e"]
theorem pool_ok : Nms poolL := ⟨by decide +kernel, by decide +kernel⟩
structure Right (evs : List Ev) : Prop where
  len : evs.length ≤ 8
  ord : ordF [] evs = none
  gd : ∀ e ∈ evs, Good e
  n3 : ∀ e ∈ evs, e.needs.length ≤ 3
  nm : ∀ e ∈ evs, ∀ x ∈ e.needs, isNm x = true
  no : ("nobody" : Str) ∉ evs.map Ev.name
section
variable {P : Program} {w : World} {K : PySem.W.Frag} {mg : Str → Option Value} {base : Heap}
def spEvs (K : PySem.W.Frag) : Sp := fun vs H Q _ => ∃ (b c : Addr) (ms : List Int) (n : Nat), vs = [.ref b] ∧ BagAt H b c ms n ∧ n < 800000 ∧ ∀ l ts evs H', l ≠ b → l ≠ c → Off b H H' → H' l = some (.lst (ts.map V.ref)) → TsT K (del (del H' b) l) ts evs → Right evs → BagAt H' b c ms (n + 90) → Q (.ref l) H'
def tAt : TE := fun σ H Q => ∃ (b c p : Addr) (ms : List Int) (n : Nat) (lf : List Str), σ[0]? = some (some (.ref b)) ∧ σ[6]? = some (some (.ref p)) ∧ BagAt H b c ms n ∧ n < 900000 ∧ H p = some (.lst (lf.map V.str)) ∧ p ≠ b ∧ 0 < lf.length ∧ lf.length ≤ 100 ∧ ∀ (d : Nat) H', d < lf.length → Off b H H' → BagAt H' b c ms (n + 2) → Q (.int (d : Int)) H'
theorem pool_no {ns pl : List Str} (h : (ns ++ pl).Perm poolL) : ("nobody" : Str) ∉ ns := fun q => by
  have : ("nobody" : Str) ∈ poolL := h.mem_iff.mp (List.mem_append_left _ q)
  revert this
  decide +kernel
theorem ok_evs (T : Tx w K mg) : Dn P w K mg base CX0 2 "_law_drawn_events" ["bag"] (spEvs K) := by
  obtain ⟨fd, F⟩ := T.f_law_drawn_events
  have nd := sc_law_drawn_events.nd
  refine ⟨_, fd, F.ok sc_law_drawn_events (fun vs H Q E h => ?_) (fun cdv A outer s H vs Q E hr h => ⟨_, PSs.nox (pss_cons
    (ps_set (i := 1) nd rfl (Or.inl rfl) (pe_lst (pa_cons pe_str (pa_cons pe_str (pa_cons pe_str (pa_cons pe_str (pa_cons pe_str (pa_cons pe_str (pa_cons pe_str (pa_cons pe_str (pa_cons pe_str (pa_cons pe_str pa_nil)))))))))))) (pss_cons
    (ps_set (i := 2) nd rfl (Or.inl rfl) (pe_lst pa_nil)) (pss_cons
    (ps_for PassesOwn.never rfl (pi_range1 rfl T.b_range (pa_cons (pe_dn (ok_draw T) hr rfl pass0 (pa_cons (pv 0) (pa_cons pe_int pa_nil))) pa_nil)) (pg_name (i := 3) nd rfl (Or.inl rfl)) (pss_one
      (ps_expr (pe_bm PySem.F.plainAttrs_list PySem.F.slot_list_append PySem.F.type_list_append mt_append (pv 2) (pa_cons
        (pe_bm PySem.F.plainAttrs_list PySem.F.slot_list_pop PySem.F.type_list_pop mt_popAt (pv 1) (pa_cons (pe_dn (ok_draw T) hr rfl pass0 (pa_cons (pv 0) (pa_cons (pe_callB call_len_seq rfl T.b_len (by decide +kernel) (pa_cons (pv 1) pa_nil)) pa_nil))) pa_nil)) pa_nil)))))
    (pss_cons
    (ps_set (i := 4) nd rfl (Or.inl rfl) (pe_lst pa_nil)) (pss_cons
    (ps_for PassesOwn.never rfl (pi_range1 rfl T.b_range (pa_cons (pe_callB call_len_seq rfl T.b_len (by decide +kernel) (pa_cons (pv 2) pa_nil)) pa_nil)) (pg_name (i := 5) nd rfl (Or.inl rfl)) (pss_cons
      (ps_set (i := 6) nd rfl (Or.inl rfl) (pe_callTy call_list_of rfl T.b_list (by decide +kernel) (pa_cons (pe_slice sl_list (pv 2) po_none (po_some (pv 5))) pa_nil))) (pss_cons
      (ps_set (i := 7) nd rfl (Or.inl rfl) (pe_lst pa_nil)) (pss_cons
      (ps_for PassesOwn.never rfl (pi_range1 rfl T.b_range (pa_cons (pe_ix ix_list (pe_lst (pa_cons pe_int (pa_cons pe_int (pa_cons pe_int (pa_cons pe_int (pa_cons pe_int (pa_cons pe_int pa_nil))))))) (pe_dn (ok_draw T) hr rfl pass0 (pa_cons (pv 0) (pa_cons pe_int pa_nil))) (fun _ _ => rfl)) pa_nil)) (pg_name (i := 3) nd rfl (Or.inl rfl)) (pss_one
        (ps_if (pt_cmpR op_gt (pe_callB call_len_seq rfl T.b_len (by decide +kernel) (pa_cons (pv 6) pa_nil)) pe_int (nomark _)) (pss_cons
          (ps_set (i := 8) nd rfl (Or.inl rfl) (pe_imp (t' := tAt) (pe_ifExp (pt_cmpR op_eq (pe_dn (ok_draw T) hr rfl pass0 (pa_cons (pv 0) (pa_cons pe_int pa_nil))) pe_int (nomark _)) (pe_op op_sub (pe_callB call_len_seq rfl T.b_len (by decide +kernel) (pa_cons (pv 6) pa_nil)) pe_int) (pe_dn (ok_draw T) hr rfl pass0 (pa_cons (pv 0) (pa_cons (pe_callB call_len_seq rfl T.b_len (by decide +kernel) (pa_cons (pv 6) pa_nil)) pa_nil)))) (fun σ H Q q => ?_))) (pss_one
          (ps_expr (pe_bm PySem.F.plainAttrs_list PySem.F.slot_list_append PySem.F.type_list_append mt_append (pv 7) (pa_cons
            (pe_bm PySem.F.plainAttrs_list PySem.F.slot_list_pop PySem.F.type_list_pop mt_popAt (pv 6) (pa_cons (pv 8) pa_nil)) pa_nil))))) pss_nil)))
      (pss_one (ps_expr (pe_bm PySem.F.plainAttrs_list PySem.F.slot_list_append PySem.F.type_list_append mt_append (pv 4) (pa_cons (pe_tup (pa_cons (pe_ix ix_list (pv 2) (pv 5) (fun _ _ => rfl)) (pa_cons
        (pe_op op_add pe_int (pe_dn (ok_draw T) hr rfl pass0 (pa_cons (pv 0) (pa_cons pe_int pa_nil)))) (pa_cons
        (pe_ix ix_list (pe_lst (pa_cons pe_str (pa_cons pe_str (pa_cons pe_str pa_nil)))) (pe_dn (ok_draw T) hr rfl pass0 (pa_cons (pv 0) (pa_cons pe_int pa_nil))) (fun _ _ => rfl)) (pa_cons (pe_callTy call_tupZ rfl T.b_tuple (by decide +kernel) (pa_cons (pv 7) pa_nil)) pa_nil))))) pa_nil))))))))
    (pss_one (ps_ret (pv 4)))))))), ?_⟩), T.g_law_drawn_events, F.kp, F.bindsN fun _ _ _ _ _ _ us hl => match us, hl with | [_], _ => rfl⟩
  · obtain ⟨b, c, ms, n, rfl, _⟩ := h
    rfl
  · obtain ⟨b, c, p, ms, n, lf, e0, e6, hB, hn, hp, hpb, hl0, hl1, h⟩ := q
    refine ⟨_, e0, b, c, ms, n, 2, rfl, hB, by omega, by decide, by decide, fun d H1 hd0 hd1 o1 hB1 => ⟨rfl, _, rfl, ?_⟩⟩
    have hp1 := o1 _ _ hpb hp
    by_cases cc : d = 0
    · refine iteTd (decide_eq_true (by rw [cc])) ?_
      refine ⟨_, e6, p, _, rfl, .inl (SqL.of hp1), _, _, rfl, rfl, ?_⟩
      rw [List.length_map]
      have e1 : ((lf.length : Int) - 1) = ((lf.length - 1 : Nat) : Int) := by omega
      show Q (.int ((lf.length : Int) - 1)) H1
      rw [e1]
      exact h _ H1 (by omega) o1 (hB1.mono (by omega))
    · refine iteFd (fun z => cc (V.int.inj z)) ?_
      refine ⟨_, e0, _, e6, p, _, rfl, .inl (SqL.of hp1), b, c, ms, _, _, rfl, hB1, by omega, by rw [List.length_map]; omega, by rw [List.length_map]; omega, fun d2 H2 h20 h21 o2 hB2 => ?_⟩
      rw [List.length_map] at h21
      obtain ⟨d2, rfl⟩ : ∃ j : Nat, d2 = (j : Int) := ⟨d2.toNat, by omega⟩
      exact h d2 H2 (by omega) (o1.trans o2) hB2
  · obtain ⟨b, c, ms, n, rfl, hB, hn, h⟩ := h
    refine ⟨?_, fun p hp => ?_⟩
    · show 10 ≤ sizeLine
      decide
    have x1 : Ext H (upd H p (.lst (poolL.map V.str))) := Ext.upd hp
    refine ⟨by decide, fun f hf => ?_⟩
    have hpf : p ≠ f := ne_of_none upd_same hf
    have x2 : Ext (upd H p (.lst (poolL.map V.str))) (upd (upd H p (.lst (poolL.map V.str))) f (.lst [])) := Ext.upd hf
    have hp2 : (upd (upd H p (.lst (poolL.map V.str))) f (.lst [])) p = some (.lst (poolL.map V.str)) := x2 _ _ upd_same
    have hf2 : (upd (upd H p (.lst (poolL.map V.str))) f (.lst [])) f = some (.lst (([] : List Str).map V.str)) := upd_same
    have hf0 : H f = none := by
      rw [upd_ne hpf.symm] at hf
      exact hf
    obtain ⟨t0, r0, hb0, hc0, _⟩ := id hB
    have hpb : p ≠ b := (ne_of_none hb0 hp).symm
    have hpc : p ≠ c := (ne_of_none hc0 hp).symm
    have hfb : f ≠ b := (ne_of_none hb0 hf0).symm
    have hfc : f ≠ c := (ne_of_none hc0 hf0).symm
    have x12 := x1.trans x2
    refine ⟨_, rfl, b, c, ms, n, 9, rfl, hB.ext x12, by omega, by decide, by decide, fun k H1 hk0 hk1 o1 hB1 => ?_⟩
    obtain ⟨k, rfl⟩ : ∃ j : Nat, k = (j : Int) := ⟨k.toNat, by omega⟩
    refine ⟨(k : Int), rfl, by omega, by omega, ?_⟩
    refine for_range (lo := 0) (n := (k : Int).toNat) (fun i σ H' => ∃ (s3 : Option V) (pl fo : List Str), σ = [some (.ref b), some (.ref p), some (.ref f), s3, none, none, none, none, none] ∧ H' p = some (.lst (pl.map V.str)) ∧ H' f = some (.lst (fo.map V.str)) ∧ BagAt H' b c ms (n + 1 + i) ∧ Off b H H' ∧ (fo ++ pl).Perm poolL ∧ fo.length = i ∧ pl.length + i = 10)
      ⟨none, poolL, [], rfl, o1 _ _ hpb hp2, o1 _ _ hfb hf2, hB1, (Ext.off x12).trans o1, List.Perm.refl _, rfl, rfl⟩ ?_ ?_
    · rintro i σ H' hi ⟨s3, pl, fo, rfl, hp3, hf3, hB3, o3, hns, hfl, hpl⟩
      refine ⟨_, rfl, .inl ⟨rfl, _, SqL.of hf3⟩, _, rfl, .inl ⟨rfl, _, SqL.of hp3⟩, _, rfl, _, rfl, p, _, rfl, .inl (SqL.of hp3), ?_⟩
      refine ⟨b, c, ms, n + 1 + i, _, rfl, hB3, by omega, by rw [List.length_map]; omega, by rw [List.length_map]; omega, fun d H4 hd0 hd1 o4 hB4 => ?_⟩
      rw [List.length_map] at hd1
      obtain ⟨j, rfl⟩ : ∃ j : Nat, d = (j : Int) := ⟨d.toNat, by omega⟩
      have hj : j < pl.length := by omega
      have hp4 := o4 _ _ hpb hp3
      have hf4 := o4 _ _ hfb hf3
      refine ⟨p, _, _, j, .str pl[j], rfl, rfl, hp4, by omega, by omega, ?_, ?_, ?_⟩
      · rw [List.length_map]
        exact seq_nat hj
      · rw [List.getElem?_map, List.getElem?_eq_getElem hj]
        rfl
      · refine ⟨f, _, _, rfl, rfl, (upd_ne hpf.symm).trans hf4, ?_, ?_⟩
        · rw [List.length_map]
          have : 100 < sizeLine := by decide
          omega
        · refine ⟨_, pl.eraseIdx j, fo ++ [pl[j]], rfl, ?_, ?_, ?_, ?_, (take_out hj).trans hns, ?_, ?_⟩
          · rw [upd_ne hpf, upd_same, map_erase]
          · rw [upd_same, List.map_append]
            rfl
          · exact (hB4.ne hpb hpc off_upd).ne hfb hfc off_upd
          · intro a o hab ho
            rw [upd_ne (ne_of_none ho hf0), upd_ne (ne_of_none ho hp)]
            exact (o3.trans o4) a o hab ho
          · rw [List.length_append, hfl]
            rfl
          · rw [List.length_eraseIdx_of_lt hj]
            omega
    rintro σ H2 ⟨s3, pl, ns, rfl, _, hl2, hB2, o2, hperm, hnk, _⟩
    have hk2 : (k : Int).toNat = k := Int.toNat_natCast k
    rw [hk2] at hB2 hnk
    have hns : Nms ns := ⟨(List.nodup_append.mp (pool_ok.perm hperm).nd).1, fun x hx => (pool_ok.perm hperm).nm x (List.mem_append_left _ hx)⟩
    have hno := pool_no hperm
    have hlb : f ≠ b := hfb
    have hlc : f ≠ c := hfc
    have hkk : k ≤ 8 := by omega
    clear hp2 hf2 hperm hpf x2 x12 hB1
    refine ⟨by decide, fun D hD => ?_⟩
    obtain ⟨_, _, hb2, hc2, _⟩ := id hB2
    have hDb : D ≠ b := (ne_of_none hb2 hD).symm
    have hDc : D ≠ c := (ne_of_none hc2 hD).symm
    have hDl : D ≠ f := (ne_of_none hl2 hD).symm
    have x3 : Ext H2 (upd H2 D (.lst [])) := Ext.upd hD
    refine ⟨_, rfl, f, _, rfl, .inl (SqL.of (x3 _ _ hl2)), _, rfl, ?_, ?_, ?_⟩
    · omega
    · rw [List.length_map]; omega
    refine for_range (lo := 0) (n := ((ns.map V.str).length : Int).toNat) (fun i σ H' => ∃ (s3 s5 s6 s7 s8 : Option V) (ts : List Addr) (evs : List Ev), σ = [some (.ref b), some (.ref p), some (.ref f), s3, some (.ref D), s5, s6, s7, s8] ∧ H' D = some (.lst (ts.map V.ref)) ∧ TsT K (del (del H' b) D) ts evs ∧ evs.length = i ∧
        evs.map Ev.name = ns.take i ∧ ordF [] evs = none ∧ (∀ e ∈ evs, Good e) ∧ (∀ e ∈ evs, e.needs.length ≤ 3) ∧ (∀ e ∈ evs, ∀ x ∈ e.needs, isNm x = true) ∧ (∀ a o, a ≠ b → H2 a = some o → H' a = some o) ∧ BagAt H' b c ms (n + 9 + 10 * i))
      ⟨_, none, none, none, none, [], [], rfl, upd_same, TsT.nil, rfl, rfl, rfl, fun _ h => by simp at h, fun _ h => by simp at h, fun _ h => by simp at h, fun a o _ ho => x3 a o ho, (hB2.ext x3).mono (by omega)⟩ ?_ ?_
    · rintro i σ H3 hi ⟨s3, s5, s6, s7, s8, ts, evs, rfl, hD3, hT3, hel, hen, hor, hgd, hfn, hnm, o3, hB3⟩
      have hi2 : i < ns.length := by simp at hi; exact hi
      have hl3 := o3 f _ hlb hl2
      refine ⟨_, rfl, _, rfl, _, rfl, f, _, rfl, SqL.of hl3, fun p1 hp1 => ?_⟩
      have hcut : cutV (ns.map V.str) none (some (0 + (i : Int))) = (ns.take i).map V.str := by
        rw [Int.zero_add, cut_to, List.map_take]
      rw [hcut]
      have y1 : Ext H3 (upd H3 p1 (.lst ((ns.take i).map V.str))) := Ext.upd hp1
      refine ⟨p1, _, rfl, .inl (SqL.of upd_same), fun l hl => ?_⟩
      have y2 := y1.trans (Ext.upd (o := .lst ((ns.take i).map V.str)) hl)
      have hl4 : (upd (upd H3 p1 (.lst ((ns.take i).map V.str))) l (.lst ((ns.take i).map V.str))) l = some (.lst ((ns.take i).map V.str)) := upd_same
      have hl0 : H3 l = none := by
        cases q : H3 l with
        | none => rfl
        | some o => rw [y1 _ _ q] at hl; cases hl
      generalize (upd (upd H3 p1 (.lst ((ns.take i).map V.str))) l (.lst ((ns.take i).map V.str))) = H4 at y2 hl4 ⊢
      refine ⟨by decide, fun q hq => ?_⟩
      have y3 := y2.trans (Ext.upd (o := .lst []) hq)
      have hq0 : H3 q = none := by
        cases q1 : H3 q with
        | none => rfl
        | some o => rw [y2 _ _ q1] at hq; cases hq
      have hlq : l ≠ q := ne_of_none hl4 hq
      have hl5 : (upd H4 q (.lst [])) l = some (.lst ((ns.take i).map V.str)) := (upd_ne hlq).trans hl4
      have hq5 : (upd H4 q (.lst [])) q = some (.lst (([] : List Str).map V.str)) := upd_same
      generalize (upd H4 q (.lst [])) = H5 at y3 hl5 hq5 ⊢
      obtain ⟨_, _, hb3, hc3, _⟩ := id hB3
      have hlb' : l ≠ b := (ne_of_none hb3 hl0).symm
      have hlc' : l ≠ c := (ne_of_none hc3 hl0).symm
      have hqb : q ≠ b := (ne_of_none hb3 hq0).symm
      have hqc : q ≠ c := (ne_of_none hc3 hq0).symm
      have hqD : q ≠ D := (ne_of_none hD3 hq0).symm
      refine ⟨?_, fun L0 hL0 => ?_⟩
      · show 6 ≤ sizeLine
        decide
      have y4 := y3.trans (Ext.upd (o := .lst (([0, 1, 1, 2, 2, 3] : List Int).map V.int)) hL0)
      have hL00 : H3 L0 = none := by
        cases q1 : H3 L0 with
        | none => rfl
        | some o => rw [y3 _ _ q1] at hL0; cases hL0
      have hL0b : L0 ≠ b := (ne_of_none hb3 hL00).symm
      have hlL : l ≠ L0 := ne_of_none hl5 hL0
      have hqL : q ≠ L0 := ne_of_none hq5 hL0
      refine ⟨_, rfl, b, c, ms, n + 9 + 10 * i, 6, rfl, hB3.ext y4, by omega, by decide, by decide, fun m0 H6 hm0 hm1 o6 hB6 => ?_⟩
      obtain ⟨m, hm3, hat0⟩ : ∃ m : Nat, m ≤ 3 ∧ atI (([0, 1, 1, 2, 2, 3] : List Int).map V.int) m0 = some (.int (m : Int)) := by
        have : m0 = 0 ∨ m0 = 1 ∨ m0 = 2 ∨ m0 = 3 ∨ m0 = 4 ∨ m0 = 5 := by omega
        rcases this with z | z | z | z | z | z
        · subst z; exact ⟨0, by decide, rfl⟩
        · subst z; exact ⟨1, by decide, rfl⟩
        · subst z; exact ⟨1, by decide, rfl⟩
        · subst z; exact ⟨2, by decide, rfl⟩
        · subst z; exact ⟨2, by decide, rfl⟩
        · subst z; exact ⟨3, by decide, rfl⟩
      refine ⟨L0, _, _, _, rfl, rfl, SqL.of (o6 _ _ hL0b upd_same), hat0, (m : Int), rfl, by omega, by omega, ?_⟩
      refine for_range (lo := 0) (n := (m : Int).toNat) (fun j σ H' => ∃ (s3 s8 : Option V) (lf nd : List Str), σ = [some (.ref b), some (.ref p), some (.ref f), s3, some (.ref D), some (.int (0 + (i : Int))), some (.ref l), some (.ref q), s8] ∧ H' l = some (.lst (lf.map V.str)) ∧ H' q = some (.lst (nd.map V.str)) ∧
          (nd ++ lf).Nodup ∧ (∀ x ∈ nd ++ lf, x ∈ ns.take i) ∧ nd.length ≤ j ∧ Off b H3 H' ∧ BagAt H' b c ms (n + 9 + 10 * i + 1 + 2 * j))
        ⟨s3, s8, ns.take i, [], rfl, o6 _ _ hlb' ((upd_ne hlL).trans hl5), o6 _ _ hqb ((upd_ne hqL).trans hq5), hns.nd.sublist (List.take_sublist _ _), fun x hx => hx, Nat.zero_le _, (Ext.off y4).trans o6, hB6⟩ ?_ ?_
      · rintro j σ H7 hj ⟨s3', s8', lf, nd, rfl, hl7, hq7, hnd, hsub, hlen, o7, hB7⟩
        refine ⟨_, rfl, l, _, rfl, .inl (SqL.of hl7), _, _, rfl, rfl, _, rfl, ?_⟩
        rw [List.length_map]
        have hj3 : j < 3 := by omega
        by_cases c0 : (0 : Int) < (lf.length : Int)
        · refine iteTd (decide_eq_true c0) ?_
          have hlf : lf.length ≤ 8 := by
            have e1 := List.Nodup.length_le_of_subset (List.nodup_append.mp hnd).2.1 (fun x hx => hsub x (List.mem_append_right _ hx))
            simp at e1
            omega
          refine ⟨b, c, l, ms, _, lf, rfl, rfl, hB7, by omega, hl7, hlb', by omega, by omega, fun d H8 hd o8 hB8 => ?_⟩
          refine ⟨_, rfl, .inl ⟨rfl, _, SqL.of (o8 _ _ hqb hq7)⟩, _, rfl, .inl ⟨rfl, _, SqL.of (o8 _ _ hlb' hl7)⟩, _, rfl, ?_⟩
          have hl8 := o8 _ _ hlb' hl7
          have hq8 := o8 _ _ hqb hq7
          refine ⟨l, _, _, d, .str lf[d], rfl, rfl, hl8, by omega, by omega, by rw [List.length_map]; exact seq_nat hd, by rw [List.getElem?_map, List.getElem?_eq_getElem hd]; rfl, ?_⟩
          refine ⟨q, _, _, rfl, rfl, (upd_ne hlq.symm).trans hq8, by rw [List.length_map]; exact small (by omega), ?_⟩
          refine ⟨_, _, lf.eraseIdx d, nd ++ [lf[d]], rfl, ?_, ?_, (take_out hd).nodup_iff.mpr hnd, fun x hx => hsub x ((take_out hd).mem_iff.mp hx), ?_, ?_, ?_⟩
          · rw [upd_ne hlq, upd_same, map_erase]
          · rw [upd_same, List.map_append]
            rfl
          · rw [List.length_append]
            simp
            omega
          · intro a o hab ho
            rw [upd_ne (ne_of_none ho hq0), upd_ne (ne_of_none ho hl0)]
            exact (o7.trans o8) a o hab ho
          · exact ((hB8.mono (by omega)).ne hlb' hlc' off_upd).ne hqb hqc off_upd
        · refine iteFd c0 ?_
          exact ⟨_, _, lf, nd, rfl, hl7, hq7, hnd, hsub, by omega, o7, hB7.mono (by omega)⟩
      · rintro σ H7 ⟨s3', s8', lf, nd, rfl, hl7, hq7, hnd, hsub, hlen, o7, hB7⟩
        have hm4 : (m : Int).toNat = m := Int.toNat_natCast m
        rw [hm4] at hlen hB7
        have hD7 := o7 _ _ hDb hD3
        have hf7 := o7 _ _ hlb hl3
        have qn : ns[i]? = some ns[i] := List.getElem?_eq_getElem hi2
        have hnm1 := hns.nm _ (List.getElem_mem hi2)
        have htk : ns.take (i + 1) = ns.take i ++ [ns[i]] := by rw [List.take_add_one, qn]; rfl
        have hnin : ns[i] ∉ ns.take i := by
          have e1 : (ns.take (i + 1)).Nodup := hns.nd.sublist (List.take_sublist _ _)
          rw [htk] at e1
          intro hx
          exact (List.nodup_append.mp e1).2.2 _ hx _ (List.mem_singleton.mpr rfl) rfl
        generalize ns[i] = nm at qn hnm1 htk hnin
        have hat : atI (ns.map V.str) (0 + (i : Int)) = some (.str nm) := by
          rw [Int.zero_add]
          exact atI_nat (by rw [List.getElem?_map, qn]; rfl)
        refine ⟨_, rfl, .inl ⟨rfl, _, SqL.of hD7⟩, _, rfl, _, rfl, f, _, _, _, rfl, rfl, SqL.of hf7, hat, _, rfl, ?_⟩
        refine ⟨b, c, ms, _, 4, rfl, hB7, by omega, by decide, by decide, fun d5 H8 hd50 hd51 o8 hB8 => ?_⟩
        refine ⟨_, _, rfl, rfl, ?_, fun L hL => ?_⟩
        · show 3 ≤ sizeLine
          decide
        have z1 : Ext H8 (upd H8 L (.lst (([("query" : Str), "query", "action"] : List Str).map V.str))) := Ext.upd hL
        have hL1 : (upd H8 L (.lst (([("query" : Str), "query", "action"] : List Str).map V.str))) L = some (.lst (([("query" : Str), "query", "action"] : List Str).map V.str)) := upd_same
        refine ⟨_, rfl, b, c, ms, _, 3, rfl, hB8.ext z1, by omega, by decide, by decide, fun d2 H9 hd20 hd21 o9 hB9 => ?_⟩
        obtain ⟨_, _, hb8, hc8, _⟩ := id hB8
        have hLb : L ≠ b := (ne_of_none hb8 hL).symm
        obtain ⟨kd, hkd, hat2⟩ : ∃ kd : Str, (kd = "query" ∨ kd = "action") ∧ atI (([("query" : Str), "query", "action"] : List Str).map V.str) d2 = some (.str kd) := by
          have : d2 = 0 ∨ d2 = 1 ∨ d2 = 2 := by omega
          rcases this with z | z | z
          · subst z
            exact ⟨"query", .inl rfl, rfl⟩
          · subst z
            exact ⟨"query", .inl rfl, rfl⟩
          · subst z
            exact ⟨"action", .inr rfl, rfl⟩
        have hq9 : H9 q = some (.lst (nd.map V.str)) := o9 _ _ hqb (z1 _ _ (o8 _ _ hqb hq7))
        have hD9 : H9 D = some (.lst (ts.map V.ref)) := o9 _ _ hDb (z1 _ _ (o8 _ _ hDb hD7))
        refine ⟨L, _, _, .str kd, rfl, rfl, SqL.of (o9 _ _ hLb hL1), hat2, _, rfl, q, _, rfl, SqL.of hq9, fun u ob hu hob hod => ⟨?_, fun t ht => ?_⟩⟩
        · show 4 ≤ sizeLine
          decide
        have zu : Ext H9 (upd H9 u (.frz ob (.tup (nd.map V.str)))) := Ext.upd hu
        have hut : u ≠ t := ne_of_none upd_same ht
        have huD : u ≠ D := (ne_of_none hD9 hu).symm
        have htD : D ≠ t := ne_of_none (zu _ _ hD9) ht
        obtain ⟨_, _, hb9, hc9, _⟩ := id hB9
        have hub : u ≠ b := (ne_of_none hb9 hu).symm
        have htb : t ≠ b := (ne_of_none (zu _ _ hb9) ht).symm
        have o39 : Off b H3 H9 := (o7.trans o8).trans ((Ext.off z1).trans o9)
        have zt := zu.trans (Ext.upd (o := .tup [.str nm, .int (1 + d5), .str kd, .ref u]) ht)
        refine ⟨D, _, _, rfl, rfl, zt _ _ hD9, by rw [List.length_map, hT3.1, hel]; exact small (by omega), ?_⟩
        have hnd3 : nd.length ≤ 3 := by omega
        have hndn : nd.Nodup := (List.nodup_append.mp hnd).1
        have hnds : ∀ x ∈ nd, x ∈ ns.take i := fun x hx => hsub x (List.mem_append_left _ hx)
        have hndm : ∀ x ∈ nd, isNm x = true := fun x hx => hns.nm x (List.mem_of_mem_take (hnds x hx))
        refine ⟨_, _, _, _, _, ts ++ [t], evs ++ [⟨nm, 1 + d5, kd, nd⟩], rfl, ?_, ?_, ?_, ?_, ?_, ?_, ?_, ?_, ?_, ?_⟩
        · rw [upd_same, List.map_append]
          rfl
        · rw [dd_upd hDb]
          have e9 : Ext (del (del H3 b) D) (del (del (upd (upd H9 u (.frz ob (.tup (nd.map V.str)))) t (.tup [.str nm, .int (1 + d5), .str kd, .ref u])) b) D) := off_dd (o39.trans (Ext.off zt))
          exact (hT3.ext e9).snoc ⟨u, SqT.of (dd_at upd_same htb htD.symm), ob, dd_at ((upd_ne hut).trans upd_same) hub huD, hob, hod.1, hod.2⟩
        · rw [List.length_append, hel]
          rfl
        · rw [List.map_append, hen, htk]
          rfl
        · rw [ordF_snoc [] evs _ hor, List.nil_append, hen]
          have e1 : evF ⟨nm, 1 + d5, kd, nd⟩ (ns.take i) = none := by
            unfold evF
            rw [if_neg hnin, if_pos (areN_ok hnd3 hndn hnds)]
          rw [e1]
        · intro e he
          rcases List.mem_append.mp he with he | he
          · exact hgd e he
          · rw [List.mem_singleton.mp he]
            exact ⟨hnm1, by show (1 : Int) ≤ 1 + d5; omega, by show 1 + d5 ≤ (5 : Int); omega, hkd⟩
        · intro e he
          rcases List.mem_append.mp he with he | he
          · exact hfn e he
          · rw [List.mem_singleton.mp he]
            exact hnd3
        · intro e he
          rcases List.mem_append.mp he with he | he
          · exact hnm e he
          · rw [List.mem_singleton.mp he]
            exact hndm
        · intro a o hab ho
          have hne1 : a ≠ D := by
            intro z
            rw [z] at ho
            rw [ho] at hD
            cases hD
          rw [upd_ne hne1]
          have h3 := o3 a o hab ho
          exact zt _ _ (o39 a o hab h3)
        · refine ((hB9.ext zt).ne hDb hDc off_upd).mono (by omega)
    · rintro σ H3 ⟨s3, s5, s6, s7, s8, ts, evs, rfl, hD3, hT3, hel, hen, hor, hgd, hfn, hnm, o3, hB3⟩
      have hk3 : ((ns.map V.str).length : Int).toNat = k := by rw [Int.toNat_natCast, List.length_map, hnk]
      rw [hk3] at hel hB3
      refine ⟨_, rfl, h D ts evs H3 hDb hDc ?_ hD3 hT3 ⟨by omega, hor, hgd, hfn, hnm, ?_⟩ (hB3.mono (by omega))⟩
      · intro a o hab ho
        exact o3 a o hab (o2 a o hab ho)
      · rw [hen]
        exact fun z => hno (List.mem_of_mem_take z)
end
end K01
set_option maxHeartbeats 2000000
namespace K01
open PySem PySem.Spec PyProof.Rows L2 Ax
/-! ### tuples of texts compared -/
theorem dpAll_strs {K : PySem.W.Frag} {H : Hp} : ∀ xs : List Str, DpAll K H (xs.map V.str) (xs.map PyData.str)
  | [] => .nil
  | x :: xs => .cons (.str x) (dpAll_strs xs)
def Oks (xs : List Str) : Prop := ∀ x ∈ xs, PyData.strOk x = true
theorem ok_nm {x : Str} (h : isNm x = true) : PyData.strOk x = true := by
  unfold isNm at h
  rw [Bool.and_eq_true, List.all_eq_true] at h
  unfold PyData.strOk
  rw [← Array.all_toList, List.all_eq_true]
  intro c hc
  have h1 : c ∈ sigL := of_decide_eq_true (h.2 c hc)
  have h2 : (sigL.all fun c => decide (c < 1114112)) = true := by decide +kernel
  exact List.all_eq_true.mp h2 c h1
theorem lay_strs : ∀ xs : List Str, Oks xs → PyData.canLayAll0 (xs.map PyData.str) = true
  | [], _ => by decide +kernel
  | x :: xs, h => by
    show (PyData.strOk x && PyData.canLayAll0 (xs.map PyData.str)) = true
    rw [lay_strs xs fun y hy => h y (List.mem_cons_of_mem _ hy), h x List.mem_cons_self]
    rfl
theorem depth_strs : ∀ xs : List Str, PyData.depthAll (xs.map PyData.str) ≤ 1
  | [] => by decide +kernel
  | x :: xs => by
    show max (PyData.depth (.str x)) (PyData.depthAll (xs.map PyData.str)) ≤ 1
    exact Nat.max_le.mpr ⟨Nat.zero_le 1, depth_strs xs⟩
theorem shaped_strs {xs : List Str} (h : Oks xs) : SeqAt.shaped (.tuple (xs.map PyData.str)) = true := by
  show (PyData.canLayAll0 (xs.map PyData.str) && decide (PyData.depthAll (xs.map PyData.str) + 1 ≤ 64)) = true
  have := depth_strs xs
  rw [lay_strs xs h, decide_eq_true (by omega)]
  rfl
theorem eqv_strs : ∀ xs ys : List Str, PyData.eqvAll (xs.map PyData.str) (ys.map PyData.str) = decide (xs = ys)
  | [], [] => rfl
  | [], _ :: _ => rfl
  | _ :: _, [] => rfl
  | x :: xs, y :: ys => by
    show ((x == y) && PyData.eqvAll (xs.map PyData.str) (ys.map PyData.str)) = _
    rw [eqv_strs xs ys, Bool.eq_iff_iff]
    simp
theorem ne_strs {K : PySem.W.Frag} {H : Hp} {a b : Addr} {xs ys : List Str} {Q : VK} (ha : SqT K H a (xs.map V.str)) (hb : SqT K H b (ys.map V.str)) (ox : Oks xs) (oy : Oks ys) (q : Q (.bl (!decide (xs = ys))) H) : rNeD K (.ref a) (.ref b) H Q :=
  ⟨_, _, .tup ha (dpAll_strs xs), .tup hb (dpAll_strs ys), shaped_strs ox, shaped_strs oy, by
    show Q (.bl (!PyData.eqvAll (xs.map PyData.str) (ys.map PyData.str))) H
    rw [eqv_strs]
    exact q⟩
theorem ne_same {K : PySem.W.Frag} {H : Hp} {a b : Addr} {xs : List Str} {Q : VK} (ha : SqT K H a (xs.map V.str)) (hb : SqT K H b (xs.map V.str)) (ox : Oks xs) (q : Q (.bl false) H) : rNeD K (.ref a) (.ref b) H Q :=
  ne_strs ha hb ox ox (by rw [decide_eq_true rfl]; exact q)
/-! ### the law's list beside the order -/
def EvsZ (K : PySem.W.Frag) (H : Hp) (l : Addr) (Ts : List Addr) (es : List Ev) : Prop := SqL K H l (Ts.map V.ref) ∧ TsT K H Ts es
theorem EvsZ.ext {K : PySem.W.Frag} {H H' : Hp} {l : Addr} {Ts : List Addr} {es : List Ev} (h : EvsZ K H l Ts es) (x : Ext H H') : EvsZ K H' l Ts es := ⟨h.1.ext x, h.2.ext x⟩
theorem EvsZ.evs {K : PySem.W.Frag} {H : Hp} {l : Addr} {Ts : List Addr} {es : List Ev} (h : EvsZ K H l Ts es) : EvsT K H l Ts es := ⟨h.1, h.2.1, fun i T e a b => (h.2.2 i T e a b).ev⟩
theorem EvsZ.at {K : PySem.W.Frag} {H : Hp} {l : Addr} {Ts : List Addr} {es : List Ev} (h : EvsZ K H l Ts es) {i : Nat} {T : Addr} (q : Ts[i]? = some T) : ∃ e, es[i]? = some e ∧ EvZ K H T e := by
  have hi : i < es.length := by rw [← h.2.1]; exact (List.getElem?_eq_some_iff.mp q).1
  exact ⟨es[i], List.getElem?_eq_getElem hi, h.2.2 i T _ q (List.getElem?_eq_getElem hi)⟩
structure RtE (es : List Ev) : Prop where
  len : es.length ≤ 8
  n3 : ∀ e ∈ es, e.needs.length ≤ 3
  cl : Closed es
  nd : (es.map Ev.name).Nodup
  gd : ∀ e ∈ es, Good e
theorem RtE.plc {es : List Ev} (h : RtE es) {i : Nat} {e : Ev} (q : es[i]? = some e) : plc es e.name = some i := by
  refine plc_some q rfl fun f hf hn => ?_
  obtain ⟨j, hj, ej⟩ := List.mem_take_iff_getElem.mp hf
  obtain ⟨hi, ei⟩ := List.getElem?_eq_some_iff.mp q
  have hj1 : j < es.length := by omega
  have e1 : (es.map Ev.name)[j]'(by rw [List.length_map]; exact hj1) = (es.map Ev.name)[i]'(by rw [List.length_map]; exact hi) := by
    rw [List.getElem_map, List.getElem_map, ej, ei]
    exact hn
  have := (List.getElem_inj h.nd).mp e1
  omega
theorem RtE.oks {es : List Ev} (h : RtE es) {xs : List Str} (hx : ∀ x ∈ xs, x ∈ es.map Ev.name) : Oks xs := fun x q => by
  obtain ⟨e, he, en⟩ := List.mem_map.mp (hx x q)
  exact en ▸ ok_nm (h.gd e he).nm
theorem RtE.need {es : List Ev} (h : RtE es) {e : Ev} (he : e ∈ es) {x : Str} (hx : x ∈ e.needs) : x ∈ es.map Ev.name := by
  obtain ⟨i, f, hp, q⟩ := h.cl e he x hx
  obtain ⟨g, qg, gn⟩ := plc_get hp
  exact List.mem_map.mpr ⟨g, List.mem_of_getElem? qg, gn⟩
theorem lbF_sub (n : Str) : ∀ (es : List Ev) (acc : List Str) (x : Str), x ∈ lbF n es acc → x ∈ acc ∨ x ∈ es.map Ev.name
  | [], acc, x, h => .inl h
  | e :: es, acc, x, h => by
    rcases lbF_sub n es (lbS n e acc) x h with q | q
    · unfold lbS at q
      by_cases c : n ∈ e.needs ∨ 0 < (e.needs.filter fun m => decide (m ∈ acc)).length
      · rw [if_pos c] at q
        rcases List.mem_append.mp q with q | q
        · exact .inl q
        · exact .inr (by rw [List.mem_singleton.mp q]; exact List.mem_cons_self)
      · rw [if_neg c] at q
        exact .inl q
    · exact .inr (List.mem_cons_of_mem _ q)
section
variable {P : Program} {w : World} {K : PySem.W.Frag} {mg : Str → Option Value} {base : Heap}
def spRight (K : PySem.W.Frag) : Sp := fun vs H Q _ => ∃ (l a : Addr) (Ts : List Addr) (es : List Ev), vs = [.ref l, .ref a] ∧ EvsZ K H l Ts es ∧ OrdAt K H a es ∧ RtE es ∧ ∀ H', Ext H H' → Q (.bl true) H'
theorem ok_right (T : Tx w K mg) : Dn P w K mg base CX0 8 "_law_right" ["events", "order"] (spRight K) := by
  obtain ⟨fd, F⟩ := T.f_law_right
  obtain ⟨fdV, FV, bV⟩ := ok_EvEqB (P := P) (base := base) T
  have nd := sc_law_right.nd
  refine ⟨_, fd, F.ok sc_law_right (fun vs H Q E h => ?_) (fun cdv A outer s H vs Q E hr h => ⟨_, PSs.nox (pss_cons
    (ps_if (PW.pt (pw_or
      (pt_cmpR op_ne (pe_callB (call_lenO T (hr.mono (by decide))) rfl T.b_len (by decide +kernel) (pa_cons (pv 1) pa_nil)) (pe_callB call_len_seq rfl T.b_len (by decide +kernel) (pa_cons (pv 0) pa_nil)) (nomark _)) (pw_or1
      (pt_cmpR (op_neD hr.units) (pe_namesO T (hr.mono (by decide)) (pv 1)) (pe_callTy call_tupN rfl T.b_tuple (by decide +kernel) (pa_cons
        (pe_lc (own := [("event", 3)]) (g := gName 3) (tt := tYes) (te := tOp (rIxT K) (tVar 3) (tC (.int 0))) (by rfl) nd (pi_list (pv 0)) (blkOk_by (own := [("event", 3)]) (N := n_law_right) (sc := defScope s_law_right) (by decide +kernel)) (fun _ _ _ _ _ => pg_name (i := 3) nd rfl (Or.inl rfl))
          (fun _ _ _ _ _ => pts_nil) (fun _ _ _ _ _ => pe_ix ix_tup (pv 3) pe_int (fun _ _ => rfl))) pa_nil)) (nomark _)))))
      (pss_one (ps_ret pe_bl)) pss_nil) (pss_cons
    (ps_for PassesOwn.never rfl (pi_enum (by rfl) T.b_enumerate (pa_cons (pv 0) pa_nil)) (pg_tup (by rfl) (pgs_cons (pg_name (i := 2) nd rfl (Or.inl rfl)) (pgs_cons (pg_name (i := 3) nd rfl (Or.inr rfl)) pgs_nil))) (pss_cons
      (ps_set (i := 4) nd rfl (Or.inl rfl) (pe_ix ix_tup (pv 3) pe_int (fun _ _ => rfl))) (pss_cons
      (ps_if (PW.pt (pw_or
        (pt_cmpR op_ne (pe_dm (E := fun _ _ _ => False) ((ok_place T).mono (by decide)) (pv 1) T.c_Order hr passF (pa_cons (pv 4) pa_nil)) (pv 2) (nomark _)) (pw_or1
        (pt_cmpR (op_ownNe (E := E0) FV bV pass0 (hr.mono (by decide)) (eqc_of T.ne_Event T.m_Event_eq)) (pe_dm (E := fun _ _ _ => False) ((ok_event T).mono (by decide)) (pv 1) T.c_Order hr passF (pa_cons (pv 4) pa_nil))
          (pe_dc ((ok_EvJ T).mono (by decide : 1 ≤ 6)) hr rfl pass0 (pa_cons (pv 4) (pa_cons (pe_ix ix_tup (pv 3) pe_int (fun _ _ => rfl)) (pa_cons (pe_ix ix_tup (pv 3) pe_int (fun _ _ => rfl)) (pa_cons (pe_ix ix_tup (pv 3) pe_int (fun _ _ => rfl)) pa_nil))))) (nomark _)))))
        (pss_one (ps_ret pe_bl)) pss_nil) (pss_cons
      (ps_set (i := 5) nd rfl (Or.inl rfl) (pe_callTy call_tupN rfl T.b_tuple (by decide +kernel) (pa_cons
        (pe_lc (own := [("need", 8)]) (g := gName 8) (tt := tTest (tOp rNe (tOp (rIxT K) (tCall (spLEv K) [] E0 (tCons (tVar 0) (tCons (tVar 8) tNil))) (tC (.int 1))) (tOp (rIxT K) (tVar 3) (tC (.int 1))))) (te := tVar 8) (by rfl) nd (pi_tup (pe_ix ix_tup (pv 3) pe_int (fun _ _ => rfl))) (blkOk_by (own := [("need", 8)]) (N := n_law_right) (sc := defScope s_law_right) (by decide +kernel)) (fun _ _ _ _ _ => pg_name (i := 8) nd rfl (Or.inl rfl))
          (fun _ _ _ _ _ => pts_one (pt_cmpR op_ne (pe_ix ix_tup (pe_dn ((ok_lev T).mono (by decide)) hr rfl pass0 (pa_cons (pv 0) (pa_cons (pv 8) pa_nil))) pe_int (fun _ _ => rfl)) (pe_ix ix_tup (pv 3) pe_int (fun _ _ => rfl)) (nomark _))) (fun _ _ _ _ _ => pv 8)) pa_nil))) (pss_cons
      (ps_if (PW.pt (pw_or
        (pt_cmpR (op_neD hr.units) (pe_dm (E := fun _ _ _ => False) ((ok_foreign T).mono (by decide)) (pv 1) T.c_Order hr passF (pa_cons (pv 4) pa_nil)) (pv 5) (nomark _)) (pw_or1
        (pt_cmpR (op_neD hr.units) (pe_dm (E := fun _ _ _ => False) ((ok_behind T).mono (by decide)) (pv 1) T.c_Order hr passF (pa_cons (pv 4) pa_nil)) (pe_dn ((ok_lbeh T).mono (by decide)) hr rfl pass0 (pa_cons (pv 0) (pa_cons (pv 4) pa_nil))) (nomark _)))))
        (pss_one (ps_ret pe_bl)) pss_nil) (pss_cons
      (ps_set (i := 6) nd rfl (Or.inl rfl) (pe_dn ((ok_llo T).mono (by decide)) hr rfl pass0 (pa_cons (pv 0) (pa_cons (pv 4) pa_nil)))) (pss_cons
      (ps_if (pt_cmpR (op_neD hr.units) (pe_dm (E := fun _ _ _ => False) ((ok_loose T).mono (by decide)) (pv 1) T.c_Order hr passF (pa_cons (pv 4) pa_nil)) (pv 6) (nomark _)) (pss_one (ps_ret pe_bl)) pss_nil)
      (pss_one (ps_if (pt_cmpR (op_neD hr.units) (pe_dm (E := fun _ _ _ => False) (ok_sources T) (pv 1) T.c_Order hr passF (pa_cons (pv 4) pa_nil))
        (pe_ifExp (pt_cmpR op_eq (pe_ix ix_tup (pv 3) pe_int (fun _ _ => rfl)) pe_str (nomark _)) (pv 6) (pe_dn ((ok_sorted T).mono (by decide)) hr rfl pass0 (pa_cons (pv 0) (pa_cons (pe_ix ix_tup (pv 3) pe_int (fun _ _ => rfl)) pa_nil)))) (nomark _)) (pss_one (ps_ret pe_bl)) pss_nil))))))))) (pss_cons
    (ps_for PassesOwn.never rfl (pi_range2 rfl T.b_range (pa_cons pe_int (pa_cons pe_int pa_nil))) (pg_name (i := 7) nd rfl (Or.inr rfl)) (pss_one
      (ps_if (pt_cmpR (op_neD hr.units) (pe_dm ((ok_ofend T).mono (by decide)) (pv 1) T.c_Order hr pass0 (pa_cons (pv 7) pa_nil)) (pe_callTy call_tupN rfl T.b_tuple (by decide +kernel) (pa_cons
        (pe_lc (own := [("event", 3)]) (g := gName 3) (tt := tTest (tOp rEq (tOp (rIxT K) (tVar 3) (tC (.int 1))) (tVar 7))) (te := tOp (rIxT K) (tVar 3) (tC (.int 0))) (by rfl) nd (pi_list (pv 0)) (blkOk_by (own := [("event", 3)]) (N := n_law_right) (sc := defScope s_law_right) (by decide +kernel)) (fun _ _ _ _ _ => pg_name (i := 3) nd rfl (Or.inl rfl))
          (fun _ _ _ _ _ => pts_one (pt_cmpR op_eq (pe_ix ix_tup (pv 3) pe_int (fun _ _ => rfl)) (pv 7) (nomark _))) (fun _ _ _ _ _ => pe_ix ix_tup (pv 3) pe_int (fun _ _ => rfl))) pa_nil)) (nomark _)) (pss_one (ps_ret pe_bl)) pss_nil)))
    (pss_one (ps_ret pe_bl))))), ?_⟩), T.g_law_right, F.kp, F.bindsN fun _ _ _ _ _ _ us hl => match us, hl with | [_, _], _ => rfl⟩
  · obtain ⟨l, a, Ts, es, rfl, _⟩ := h
    rfl
  · obtain ⟨l, a, Ts, es, rfl, hz, ho, hR, h⟩ := h
    have hlen := hz.2.1
    have hel := hR.len
    obtain ⟨dx, t, as, fs, h1, h2, h3, h4, nu, nh, nq, hno⟩ := id ho
    refine ⟨_, rfl, a, es, rfl, ho, by omega, _, rfl, l, _, rfl, .inl hz.1, rfl, _, rfl, ?_⟩
    rw [List.length_map, hlen]
    refine iteFd' (by rw [decide_eq_true rfl]; rfl) ?_
    refine ⟨_, rfl, a, dx, fs, rfl, h1, a, es, rfl, ho, fun t0 ht0 => ?_⟩
    refine ⟨_, rfl, l, rfl, ⟨_, hz.1⟩, fun D hD => ?_⟩
    refine lc_acc (walk_list (K := K) (xs := Ts.map V.ref)) hD (fun i acc B => Ext H B ∧ acc = ((es.map Ev.name).take i).map V.str) ⟨Ext.rfl', rfl⟩ (fun i acc H4 _ _ q => hz.1.ext fun b o hb => ext_del _ _ (q.1 b o hb)) ?_ ?_
    · rintro i y H4 H' acc hi hacc hl2 ⟨xB, ea⟩ ⟨eH, hy⟩
      subst eH
      rw [List.length_map] at hi
      rw [List.getElem?_map] at hy
      cases qT : Ts[i]? with
      | none => rw [qT] at hy; cases hy
      | some T1 =>
        rw [qT] at hy
        cases Option.some.inj hy
        have x4 : Ext H H' := fun b o hb => ext_del _ _ (xB b o hb)
        obtain ⟨e, qe, u, g1, g2⟩ := (hz.evs.ext x4).at qT
        have qn : (es.map Ev.name)[i]? = some e.name := by rw [List.getElem?_map, qe]; rfl
        refine ⟨rfl, ?_⟩
        refine yes_go (iteT ?_)
        refine ⟨_, rfl, T1, _, _, _, rfl, rfl, g1, atI_nat (j := 0) rfl, ?_⟩
        refine acc_add hacc hl2 (small (by omega)) ⟨xB, ?_⟩
        rw [ea, List.take_add_one, qn, List.map_append]
        rfl
    rintro H4 acc hacc hl2 ⟨xB, ea⟩
    rw [List.length_map, hlen, List.take_of_length_le (by rw [List.length_map]; exact Nat.le_refl _)] at ea
    rw [ea] at hacc
    refine ⟨D, _, rfl, .inl (SqL.of hacc), fun t1 H5 x5 ht1 => ?_⟩
    have x05 : Ext H H5 := Ext.trans (fun b o hb => ext_del _ _ (xB b o hb)) x5
    refine ne_same (ht0.ext x05) ht1 (hR.oks fun x hx => hx) ⟨_, rfl, ?_⟩
    refine iteF ?_
    refine ⟨_, rfl, l, _, rfl, hz.1.ext x05, ?_⟩
    refine for_it (walk_enum (K := K) (xs := Ts.map V.ref)) (fun i σ H' => ∃ s2 s3 s4 s5 s6 : Option V, σ = [some (.ref l), some (.ref a), s2, s3, s4, s5, s6, none, none] ∧ Ext H H')
      ⟨none, none, none, none, none, rfl, x05⟩ (fun i σ H' _ ⟨_, _, _, _, _, _, x6⟩ => hz.1.ext x6) ?_ ?_
    · rintro i y σ H6 H6' hi ⟨s2, s3, s4, s5, s6, rfl, x6⟩ ⟨TT, u0, v, rfl, hTT, rfl, eu, ev⟩
      cases Option.some.inj eu
      rw [List.length_map] at hi
      have ev : (Ts.map V.ref)[i]? = some v := ev
      rw [List.getElem?_map] at ev
      cases qT : Ts[i]? with
      | none => rw [qT] at ev; cases ev
      | some T1 =>
        rw [qT] at ev
        cases Option.some.inj ev
        have x7 : Ext H (upd H6 TT (.tup [.int (i : Int), .ref T1])) := x6.trans (Ext.upd hTT)
        have hTTs : SqT K (upd H6 TT (.tup [.int (i : Int), .ref T1])) TT [.int (i : Int), .ref T1] := SqT.of upd_same
        generalize (upd H6 TT (.tup [.int (i : Int), .ref T1])) = H7 at x7 hTTs ⊢
        obtain ⟨e, qe, u, g1, g2⟩ := (hz.ext x7).at qT
        have he := List.mem_of_getElem? qe
        have hpl := hR.plc qe
        have hn3 := hR.n3 e he
        refine ⟨TT, _, rfl, hTTs, rfl, _, _, rfl, _, _, rfl, rfl, ?_⟩
        refine ⟨_, rfl, T1, _, _, _, rfl, rfl, g1, atI_nat (j := 0) rfl, ?_⟩
        refine ⟨_, rfl, a, dx, fs, rfl, x7 _ _ h1, hno _ (by decide) (by decide), _, rfl, a, e.name, es, rfl, ho.ext x7, ?_⟩
        rw [hpl]
        intro H8 x8
        refine ⟨_, rfl, rfl, _, rfl, ?_⟩
        refine iteFd' (by rw [decide_eq_true rfl]; rfl) ?_
        have x08 := x7.trans x8
        refine ⟨_, rfl, a, dx, fs, rfl, x08 _ _ h1, hno _ (by decide) (by decide), _, rfl, a, e.name, es, rfl, ho.ext x08, ?_⟩
        rw [hpl]
        intro z f H9 x9 qf hzv
        rw [qe] at qf
        cases Option.some.inj qf
        have x79 := x8.trans x9
        have hE := g1.ext x79
        refine ⟨_, rfl, _, rfl, T1, _, _, _, rfl, rfl, hE, atI_nat (j := 1) rfl, _, rfl, T1, _, _, _, rfl, rfl, hE, atI_nat (j := 2) rfl, _, rfl, T1, _, _, _, rfl, rfl, hE, atI_nat (j := 3) rfl, fun x dz hx hdz hne => ?_⟩
        have x2 : Ext H9 (upd (upd H9 dz (.own x)) x (.ins (He.ga K "Event") dz [])) := fun b o hb => by
          rw [upd_ne (ne_of_none hb hx), upd_ne (ne_of_none hb hdz)]
          exact hb
        refine ⟨x, dz, u, e, rfl, upd_same, .inr ((g2.ext x79).ext x2), fun H10 o10 hev => ⟨rfl, ?_⟩⟩
        have x3 : Ext H9 H10 := fun b o hb => o10 b o (ne_of_none hb hx) (x2 b o hb)
        have hzv' := hzv.ext x3
        obtain ⟨dy, ty, gs, p1, _⟩ := id hzv'
        obtain ⟨dv, tv, vs, q1, _⟩ := id hev
        refine ⟨z, x, _, _, _, _, _, rfl, rfl, p1, q1, by simp [PySem.W.notFirst], z, x, true, rfl, ⟨e, e, hzv', hev, (evEq_iff.mpr rfl).symm⟩, fun H11 x11 => ⟨true, rfl, _, rfl, ?_⟩⟩
        refine iteF ?_
        have x711 := x79.trans (x3.trans x11)
        have x011 := x7.trans x711
        have g1' := g1.ext x711
        have g2' := g2.ext x711
        generalize hG : H11 = G at x011 g1' g2' ⊢
        refine ⟨_, rfl, T1, _, _, _, rfl, rfl, g1', atI_nat (j := 3) rfl, u, rfl, ⟨_, g2'.sq⟩, fun D2 hD2 => ?_⟩
        refine lc_acc (walk_tup (K := K) (xs := e.needs.map V.str)) hD2 (fun j acc B => Ext G B ∧ acc = ((e.needs.take j).filter fun n => !decide (finOf es n = e.fin)).map V.str) ⟨Ext.rfl', rfl⟩ (fun j acc H4 _ _ q => g2'.sq.ext fun b o hb => ext_del _ _ (q.1 b o hb)) ?_ ?_
        · rintro j y H12 H' acc hj hacc hl2 ⟨xB, ea⟩ ⟨eH, hy⟩
          subst eH
          rw [List.length_map] at hj
          rw [List.getElem?_map] at hy
          cases qn : e.needs[j]? with
          | none => rw [qn] at hy; cases hy
          | some m =>
            rw [qn] at hy
            cases Option.some.inj hy
            have x4 : Ext G H' := fun b o hb => ext_del _ _ (xB b o hb)
            have x04 := x011.trans x4
            obtain ⟨i2, f, k1, k2⟩ := hR.cl e he m (List.mem_of_getElem? qn)
            refine ⟨rfl, ?_⟩
            refine ⟨_, rfl, _, rfl, l, m, Ts, es, i2, rfl, hz.evs.ext x04, by omega, k1, fun T2 H13 x13 q2 => ?_⟩
            obtain ⟨f', qf', uf, m1, m2⟩ := (hz.ext (x04.trans x13)).at q2
            rw [k2] at qf'
            cases Option.some.inj qf'
            have hacc5 := x13 _ _ hacc
            have ef : ∀ b, (!decide (finOf es m = e.fin)) = b → ((e.needs.take (j + 1)).filter fun n => !decide (finOf es n = e.fin)) = ((e.needs.take j).filter fun n => !decide (finOf es n = e.fin)) ++ (if b = true then [m] else []) := by
              intro b hb
              rw [List.take_add_one, qn, List.filter_append]
              congr 1
              show List.filter _ [m] = _
              rw [List.filter_cons, hb]
              cases b <;> rfl
            refine ⟨T2, _, _, _, rfl, rfl, m1, atI_nat (j := 1) rfl, _, rfl, T1, _, _, _, rfl, rfl, (g1'.ext x4).ext x13, atI_nat (j := 1) rfl, rfl, _, rfl, ?_⟩
            rw [finOf_eq k1 k2] at ef
            by_cases c : f.fin = e.fin
            · refine iteFd' (by rw [decide_eq_true (by rw [c])]; rfl) ?_
              refine acc_skip hacc5 hl2 ⟨fun b o hb => ext_delD x13 _ _ (xB b o hb), ?_⟩
              rw [ea, ef false (by rw [decide_eq_true c]; rfl)]
              simp
            · refine iteTd (by rw [decide_eq_false (fun z => c (V.int.inj z))]; rfl) ?_
              refine ⟨_, rfl, ?_⟩
              refine acc_add hacc5 hl2 (small (by omega)) ⟨fun b o hb => ext_delD x13 _ _ (xB b o hb), ?_⟩
              rw [ea, ef true (by rw [decide_eq_false c]; rfl), List.map_append]
              rfl
        · rintro H12 acc hacc hl2 ⟨xB, ea⟩
          rw [List.length_map, List.take_length] at ea
          rw [ea] at hacc
          refine ⟨D2, _, rfl, .inl (SqL.of hacc), fun td H13 x13 htd => ?_⟩
          have x14 : Ext G H13 := Ext.trans (fun b o hb => ext_del _ _ (xB b o hb)) x13
          have x013 := x011.trans x14
          -- foreign
          refine ⟨_, rfl, a, dx, fs, rfl, x013 _ _ h1, hno _ (by decide) (by decide), _, rfl, a, e.name, es, rfl, ho.ext x013, hR.cl, hR.n3, ?_⟩
          rw [hpl]
          intro tf f H14 y14 qf htf
          rw [qe] at qf
          cases Option.some.inj qf
          have hsub : ∀ x ∈ forN es e, x ∈ es.map Ev.name := fun x hx => hR.need he (List.mem_filter.mp hx).1
          refine ⟨_, rfl, ne_same htf (htd.ext y14) (hR.oks hsub) ⟨_, rfl, ?_⟩⟩
          refine iteF ?_
          -- behind
          have x014 := x013.trans y14
          refine ⟨_, rfl, a, dx, fs, rfl, x014 _ _ h1, hno _ (by decide) (by decide), _, rfl, a, e.name, es, rfl, ho.ext x014, by omega, hR.n3, ?_⟩
          rw [hpl]
          intro tb H15 x15 htb
          have x015 := x014.trans x15
          rw [beh_same] at htb
          refine ⟨_, rfl, _, rfl, l, e.name, Ts, es, rfl, hz.evs.ext x015, by omega, hR.n3, fun tl H16 x16 htl => ?_⟩
          refine ne_same (htb.ext x16) htl (hR.oks fun x hx => (lbF_sub e.name es [] x hx).resolve_left (by simp)) ⟨_, rfl, ?_⟩
          refine iteF ?_
          -- loose
          have x016 := x015.trans x16
          refine ⟨_, rfl, _, rfl, l, e.name, Ts, es, i, e, rfl, hz.evs.ext x016, by omega, hR.n3, hpl, qe, fun to H17 x17 hto => ?_⟩
          have x017 := x016.trans x17
          rw [loose_same] at hto
          refine ⟨_, rfl, a, dx, fs, rfl, x017 _ _ h1, hno _ (by decide) (by decide), _, rfl, a, e.name, es, rfl, ho.ext x017, by omega, hR.n3, ?_⟩
          rw [hpl]
          intro f t2 H18 qf x18 ht2
          rw [qe] at qf
          cases Option.some.inj qf
          have hio : ∀ ns : List Str, ∀ x ∈ inOrd es ns, x ∈ es.map Ev.name := fun ns x hx => (List.mem_filter.mp hx).1
          refine ⟨_, rfl, ne_same ht2 (hto.ext x18) (hR.oks (hio _)) ⟨_, rfl, ?_⟩⟩
          refine iteF ?_
          -- sources
          have x018 := x017.trans x18
          refine ⟨_, rfl, a, dx, fs, rfl, x018 _ _ h1, hno _ (by decide) (by decide), _, rfl, a, e.name, es, rfl, ho.ext x018, by omega, hR.n3, ?_⟩
          rw [hpl]
          intro f t3 H19 qf x19 ht3
          rw [qe] at qf
          cases Option.some.inj qf
          have x019 := x018.trans x19
          have x1119 : Ext G H19 := x14.trans (y14.trans (x15.trans (x16.trans (x17.trans (x18.trans x19)))))
          have hE2 := g1'.ext x1119
          refine ⟨_, rfl, T1, _, _, _, rfl, rfl, hE2, atI_nat (j := 2) rfl, rfl, _, rfl, ?_⟩
          unfold srcOf at ht3
          by_cases c : e.kind = "action"
          · have c2 : ¬ e.kind = "query" := by rw [c]; decide
            rw [if_neg c2] at ht3
            refine iteTd (decide_eq_true (by rw [c])) ?_
            refine ⟨_, rfl, ne_same ht3 ((hto.ext x18).ext x19) (hR.oks (hio _)) ⟨_, rfl, ?_⟩⟩
            refine iteF ?_
            exact ⟨_, _, _, _, _, rfl, x019⟩
          · have c2 : e.kind = "query" := (hR.gd e he).kd.resolve_right c
            rw [if_pos c2] at ht3
            refine iteFd (fun z => c (V.str.inj z)) ?_
            refine ⟨_, rfl, _, rfl, T1, _, _, _, rfl, rfl, hE2, atI_nat (j := 3) rfl, l, u, Ts, es, e.needs, rfl, hz.evs.ext x019, by omega, .inr (g2'.sq.ext x1119), fun t4 H20 x20 ht4 => ?_⟩
            refine ne_same (ht3.ext x20) ht4 (hR.oks (hio _)) ⟨_, rfl, ?_⟩
            refine iteF ?_
            exact ⟨_, _, _, _, _, rfl, x019.trans x20⟩
    · rintro σ H6 ⟨s2, s3, s4, s5, s6, rfl, x6⟩
      refine ⟨1, 6, rfl, ⟨by decide, by decide, by decide, by decide⟩, ?_⟩
      refine for_range (lo := 1) (n := 5) (fun i σ H' => ∃ s7 : Option V, σ = [some (.ref l), some (.ref a), s2, s3, s4, s5, s6, s7, none] ∧ Ext H H') ⟨none, rfl, x6⟩ ?_ ?_
      · rintro i σ H7 hi ⟨s7, rfl, x7⟩
        refine ⟨_, rfl, a, dx, fs, rfl, x7 _ _ h1, hno _ (by decide) (by decide), _, rfl, a, _, es, rfl, ho.ext x7, by omega, fun tq H8 x8 htq => ?_⟩
        have x08 := x7.trans x8
        refine ⟨_, rfl, l, rfl, ⟨_, hz.1.ext x08⟩, fun D3 hD3 => ?_⟩
        refine lc_acc (walk_list (K := K) (xs := Ts.map V.ref)) hD3 (fun j acc B => Ext H8 B ∧ acc = (((es.take j).filter fun e => decide (e.fin = 1 + (i : Int))).map Ev.name).map V.str) ⟨Ext.rfl', rfl⟩ (fun j acc H4 _ _ q => hz.1.ext (x08.trans fun b o hb => ext_del _ _ (q.1 b o hb))) ?_ ?_
        · rintro j y H12 H' acc hj hacc hl2 ⟨xB, ea⟩ ⟨eH, hy⟩
          subst eH
          rw [List.length_map] at hj
          rw [List.getElem?_map] at hy
          cases qT : Ts[j]? with
          | none => rw [qT] at hy; cases hy
          | some T1 =>
            rw [qT] at hy
            cases Option.some.inj hy
            have x4 : Ext H8 H' := fun b o hb => ext_del _ _ (xB b o hb)
            obtain ⟨e, qe, u, g1, g2⟩ := (hz.ext (x08.trans x4)).at qT
            have ef : ∀ b, decide (e.fin = 1 + (i : Int)) = b → (((es.take (j + 1)).filter fun e => decide (e.fin = 1 + (i : Int))).map Ev.name) = (((es.take j).filter fun e => decide (e.fin = 1 + (i : Int))).map Ev.name) ++ (if b = true then [e.name] else []) := by
              intro b hb
              rw [List.take_add_one, qe, List.filter_append, List.map_append]
              congr 1
              show List.map _ (List.filter _ [e]) = _
              rw [List.filter_cons, hb]
              cases b <;> rfl
            refine ⟨rfl, ?_⟩
            refine ⟨_, rfl, T1, _, _, _, rfl, rfl, g1, atI_nat (j := 1) rfl, _, rfl, rfl, _, rfl, ?_⟩
            by_cases c : e.fin = 1 + (i : Int)
            · refine iteTd (decide_eq_true (by rw [c])) ?_
              refine ⟨_, rfl, T1, _, _, _, rfl, rfl, g1, atI_nat (j := 0) rfl, ?_⟩
              refine acc_add hacc hl2 (small (by omega)) ⟨xB, ?_⟩
              rw [ea, ef true (decide_eq_true c), List.map_append]
              rfl
            · refine iteFd (fun z => c (V.int.inj z)) ?_
              refine acc_skip hacc hl2 ⟨xB, ?_⟩
              rw [ea, ef false (decide_eq_false c)]
              simp
        · rintro H12 acc hacc hl2 ⟨xB, ea⟩
          rw [List.length_map, hlen, List.take_length] at ea
          rw [ea] at hacc
          refine ⟨D3, _, rfl, .inl (SqL.of hacc), fun t5 H13 x13 ht5 => ?_⟩
          have x14 : Ext H8 H13 := Ext.trans (fun b o hb => ext_del _ _ (xB b o hb)) x13
          refine ne_same (htq.ext x14) ht5 (hR.oks fun x hx => ?_) ⟨_, rfl, ?_⟩
          · obtain ⟨e, he, en⟩ := List.mem_map.mp hx
            exact List.mem_map.mpr ⟨e, (List.mem_filter.mp he).1, en⟩
          · refine iteF ?_
            exact ⟨_, rfl, x08.trans x14⟩
      · rintro σ H7 ⟨s7, rfl, x7⟩
        exact h H7 x7
end
end K01
set_option maxHeartbeats 2000000
namespace K01
open PySem PySem.Spec PyProof.Rows L2 Ax
/-! ### tuples of numbers compared -/
theorem dpAll_ints {K : PySem.W.Frag} {H : Hp} : ∀ xs : List Int, DpAll K H (xs.map V.int) (xs.map PyData.int)
  | [] => .nil
  | x :: xs => .cons (.int x) (dpAll_ints xs)
theorem lay_ints : ∀ xs : List Int, PyData.canLayAll0 (xs.map PyData.int) = true
  | [] => by decide +kernel
  | x :: xs => by
    show (true && PyData.canLayAll0 (xs.map PyData.int)) = true
    rw [lay_ints xs]
    rfl
theorem depth_ints : ∀ xs : List Int, PyData.depthAll (xs.map PyData.int) ≤ 1
  | [] => by decide +kernel
  | x :: xs => by
    show max (PyData.depth (.int x)) (PyData.depthAll (xs.map PyData.int)) ≤ 1
    exact Nat.max_le.mpr ⟨Nat.zero_le 1, depth_ints xs⟩
theorem shaped_ints (xs : List Int) : SeqAt.shaped (.tuple (xs.map PyData.int)) = true := by
  show (PyData.canLayAll0 (xs.map PyData.int) && decide (PyData.depthAll (xs.map PyData.int) + 1 ≤ 64)) = true
  have := depth_ints xs
  rw [lay_ints xs, decide_eq_true (by omega)]
  rfl
theorem eqv_ints : ∀ xs : List Int, PyData.eqvAll (xs.map PyData.int) (xs.map PyData.int) = true
  | [] => rfl
  | x :: xs => by
    show ((x == x) && PyData.eqvAll (xs.map PyData.int) (xs.map PyData.int)) = _
    rw [eqv_ints xs]
    simp
theorem ne_ints {K : PySem.W.Frag} {H : Hp} {a b : Addr} {xs : List Int} {Q : VK} (ha : SqT K H a (xs.map V.int)) (hb : SqT K H b (xs.map V.int)) (q : Q (.bl false) H) : rNeD K (.ref a) (.ref b) H Q :=
  ⟨_, _, .tup ha (dpAll_ints xs), .tup hb (dpAll_ints xs), shaped_ints xs, shaped_ints xs, by
    show Q (.bl (!PyData.eqvAll (xs.map PyData.int) (xs.map PyData.int))) H
    rw [eqv_ints]
    exact q⟩
theorem ne_non {K : PySem.W.Frag} {H : Hp} {Q : VK} (q : Q (.bl false) H) : rNeD K .non .non H Q :=
  ⟨_, _, .non, .non, by decide +kernel, by decide +kernel, q⟩
/-! ### what stays when the bag changes -/
theorem EvZ.ne {K : PySem.W.Frag} {H H' : Hp} {T x : Addr} {e : Ev} {ys : List V} (h : EvZ K H T e) (hx : H x = some (.lst ys)) (o : Off x H H') : EvZ K H' T e :=
  let ⟨u, h1, h2⟩ := h; ⟨u, sqT_ne h1 hx (fun _ z => by cases z) (fun _ _ z => by cases z) o, h2.ne hx (fun _ _ z => by cases z) o⟩
theorem sqL_off {K : PySem.W.Frag} {H H' : Hp} {x p : Addr} {ys : List V} (h : SqL K H p ys) (hp : p ≠ x) (e : Off x H H') : SqL K H' p ys := by
  rcases h with (h | ⟨q, h⟩) | h
  · exact .inl (.inl (e p _ hp h))
  · exact .inl (.inr ⟨q, e p _ hp h⟩)
  · exact .inr h
theorem EvsZ.ne {K : PySem.W.Frag} {H H' : Hp} {l x : Addr} {Ts : List Addr} {es : List Ev} {ys : List V} (h : EvsZ K H l Ts es) (hl : l ≠ x) (hx : H x = some (.lst ys)) (o : Off x H H') : EvsZ K H' l Ts es :=
  ⟨sqL_off h.1 hl o, h.2.1, fun i T e a b => (h.2.2 i T e a b).ne hx o⟩
theorem OrdAt.ne {K : PySem.W.Frag} {H H' : Hp} {a x : Addr} {evs : List Ev} {ys : List V} (h : OrdAt K H a evs) (hx : H x = some (.lst ys)) (o : Off x H H') : OrdAt K H' a evs := by
  obtain ⟨dx, t, as, fs, h1, h2, h3, h4, u, h5, h6, h7⟩ := h
  have hax : a ≠ x := fun z => by rw [z, hx] at h1; cases h1
  exact ⟨dx, t, as, fs, o _ _ hax h1, h2, sqT_ne h3 hx (fun _ z => by cases z) (fun _ _ z => by cases z) o, h4.ne hx o, u, h5, sqT_ne h6 hx (fun _ z => by cases z) (fun _ _ z => by cases z) o, h7⟩
theorem putK_le (kvs : List (Key × V)) (k : Key) (v : V) : (putK kvs k v).length ≤ kvs.length + 1 := by
  unfold putK
  split
  · rw [List.length_map]; omega
  · rw [List.length_append]; exact Nat.le_refl _
def IntD (kvs : List (Key × V)) : Prop := ∀ (k : Key) (v : V), valV kvs k = some v → ∃ n : Int, v = .int n
theorem IntD.put {kvs : List (Key × V)} (h : IntD kvs) (k : Key) (n : Int) : IntD (putK kvs k (.int n)) := fun j v q => by
  rw [valV_put] at q
  by_cases c : j = k
  · rw [if_pos c] at q
    exact ⟨n, (Option.some.inj q).symm⟩
  · rw [if_neg c] at q
    exact h j v q
theorem keyL_ints {kvs : List (Key × V)} (h : IntD kvs) : ∀ ns : List Str, hasAll kvs ns = true → ∃ is : List Int, keyL kvs ns = is.map V.int
  | [], _ => ⟨[], rfl⟩
  | m :: ns, c => by
    have c : ((valV kvs (Sum.inr m : Key)).isSome && hasAll kvs ns) = true := c
    rw [Bool.and_eq_true] at c
    obtain ⟨v, hv⟩ := Option.isSome_iff_exists.mp c.1
    obtain ⟨n, rfl⟩ := h _ _ hv
    obtain ⟨is, e⟩ := keyL_ints h ns c.2
    refine ⟨n :: is, ?_⟩
    show (valV kvs (Sum.inr m : Key)).getD .non :: keyL kvs ns = _
    rw [hv, e]
    rfl
theorem lack_has (kvs : List (Key × V)) : ∀ ns : List Str, (0 < (ns.filter fun m => !(valV kvs (Sum.inr m : Key)).isSome).length) ↔ hasAll kvs ns = false
  | [] => by simp [hasAll]
  | m :: ns => by
    have ih := lack_has kvs ns
    have e : hasAll kvs (m :: ns) = ((valV kvs (Sum.inr m : Key)).isSome && hasAll kvs ns) := rfl
    rw [e, List.filter_cons]
    cases (valV kvs (Sum.inr m : Key)).isSome with
    | true => simpa using ih
    | false => simp
section
variable {P : Program} {w : World} {K : PySem.W.Frag} {mg : Str → Option Value} {base : Heap}
def spKeysR (K : PySem.W.Frag) : Sp := fun vs H Q _ => ∃ (b c l a : Addr) (Ts : List Addr) (es : List Ev) (ms : List Int) (n : Nat), vs = [.ref b, .ref l, .ref a] ∧ BagAt H b c ms n ∧ n < 800000 ∧ l ≠ b ∧ EvsZ K H l Ts es ∧ OrdAt K H a es ∧ RtE es ∧ ∀ H', Off b H H' → BagAt H' b c ms (n + 100) → Q (.bl true) H'
theorem ok_keysR (T : Tx w K mg) : Dn P w K mg base CX0 7 "_law_keys_right" ["bag", "events", "order"] (spKeysR K) := by
  obtain ⟨fd, F⟩ := T.f_law_keys_right
  have nd := sc_law_keys_right.nd
  refine ⟨_, fd, F.ok sc_law_keys_right (fun vs H Q E h => ?_) (fun cdv A outer s H vs Q E hr h => ⟨_, PSs.nox (pss_cons
    (ps_set (i := 3) nd rfl (Or.inr rfl) pe_dnewK) (pss_cons
    (ps_for PassesOwn.never rfl (pi_list (pv 1)) (pg_name (i := 4) nd rfl (Or.inl rfl)) (pss_one
      (ps_if (pt_cmpR op_gt (pe_dn ((ok_draw T).mono (by decide)) hr rfl pass0 (pa_cons (pv 0) (pa_cons pe_int pa_nil))) pe_int (nomark _))
        (pss_one (ps_dput (hu_of hr) (pv 3) (pe_ix ix_tup (pv 4) pe_int (fun _ _ => rfl)) (pe_op op_sub (pe_dn ((ok_draw T).mono (by decide)) hr rfl pass0 (pa_cons (pv 0) (pa_cons pe_int pa_nil))) pe_int) rfl)) pss_nil))) (pss_cons
    (ps_for PassesOwn.never rfl (pi_list (pv 1)) (pg_name (i := 4) nd rfl (Or.inl rfl)) (pss_cons
      (ps_setLc (i := 5) (own := [("need", 7)]) (g := gName 7) (tt := tB (tDNotIn (tVar 7) (tVar 3))) (te := tVar 7) (by rfl) nd rfl rfl (sw_true rfl rfl rfl (by decide +kernel)) (pi_tup (pe_ix ix_tup (pv 4) pe_int (fun _ _ => rfl))) (blkOk_by (own := [("need", 7)]) (N := n_law_keys_right) (sc := defScope s_law_keys_right) (by decide +kernel)) (fun _ _ _ _ _ => pg_name (i := 7) nd rfl (Or.inl rfl))
        (fun _ _ _ _ _ => pts_one (pt_cmp (pc_dnotin (hu_of hr) (pv 7) (pv 3)))) (fun _ _ _ _ _ => pv 7)) (pss_cons
      (ps_set (i := 6) nd rfl (Or.inl rfl) (pe_ifExp (pt_cmpR op_gt (pe_callB call_len_seq rfl T.b_len (by decide +kernel) (pa_cons (pv 5) pa_nil)) pe_int (nomark _)) pe_non (pe_callTy call_tupN rfl T.b_tuple (by decide +kernel) (pa_cons
        (pe_lc (own := [("need", 7)]) (g := gName 7) (tt := tYes) (te := tDGet (tVar 3) (tVar 7)) (by rfl) nd (pi_tup (pe_ix ix_tup (pv 4) pe_int (fun _ _ => rfl))) (blkOk_by (own := [("need", 7)]) (N := n_law_keys_right) (sc := defScope s_law_keys_right) (by decide +kernel)) (fun _ _ _ _ _ => pg_name (i := 7) nd rfl (Or.inl rfl))
          (fun _ _ _ _ _ => pts_nil) (fun _ _ _ _ _ => pe_dget (hu_of hr) (pv 3) (pv 7) (fun _ _ => rfl))) pa_nil))))
      (pss_one (ps_if (pt_cmpR (op_neD hr.units) (pe_dm (E := fun _ _ _ => False) (ok_keyOf T) (pv 2) T.c_Order hr passF (pa_cons (pe_ix ix_tup (pv 4) pe_int (fun _ _ => rfl)) (pa_cons (pv 3) pa_nil))) (pv 6) (nomark _)) (pss_one (ps_ret pe_bl)) pss_nil)))))
    (pss_one (ps_ret pe_bl))))), ?_⟩), T.g_law_keys_right, F.kp, F.bindsN fun _ _ _ _ _ _ us hl => match us, hl with | [_, _, _], _ => rfl⟩
  · obtain ⟨b, c, l, a, Ts, es, ms, n, rfl, _⟩ := h
    rfl
  · obtain ⟨b, c, l, a, Ts, es, ms, n, rfl, hB, hn, hlb, hz, ho, hR, h⟩ := h
    have hlen := hz.2.1
    have hel := hR.len
    obtain ⟨_, _, hb0, hc0, _⟩ := id hB
    intro D hD
    have hDb : D ≠ b := (ne_of_none hb0 hD).symm
    have hDc : D ≠ c := (ne_of_none hc0 hD).symm
    have x1 : Ext H (upd H D (.dK [])) := Ext.upd hD
    refine ⟨_, rfl, l, rfl, ⟨_, hz.1.ext x1⟩, ?_⟩
    refine for_it (walk_list (K := K) (xs := Ts.map V.ref)) (fun i σ H' => ∃ (s4 : Option V) (kvs : List (Key × V)), σ = [some (.ref b), some (.ref l), some (.ref a), some (.ref D), s4, none, none, none] ∧ Off b H H' ∧ H' D = some (.dK kvs) ∧ kvs.length ≤ i ∧ IntD kvs ∧ BagAt H' b c ms (n + 2 * i))
      ⟨none, [], rfl, Ext.off x1, upd_same, Nat.le_refl _, (by intro k v q; rw [valV_nil] at q; cases q), hB.ext x1⟩ (fun i σ H' _ ⟨_, _, _, o, _⟩ => (hz.ne hlb hb0 o).1) ?_ ?_
    · rintro i y σ H3 H3' hi ⟨s4, kvs, rfl, o3, hD3, hkl, hI, hB3⟩ ⟨eH, hy⟩
      subst eH
      rw [List.length_map] at hi
      rw [List.getElem?_map] at hy
      cases qT : Ts[i]? with
      | none => rw [qT] at hy; cases hy
      | some T1 =>
        rw [qT] at hy
        cases Option.some.inj hy
        refine ⟨_, rfl, b, c, ms, _, 4, rfl, hB3, by omega, by decide, by decide, fun d H4 hd0 hd1 o4 hB4 => ⟨d, 0, rfl, rfl, _, rfl, ?_⟩⟩
        by_cases c0 : (0 : Int) < d
        · refine iteTd (decide_eq_true c0) ?_
          refine ⟨_, rfl, b, c, ms, _, 5, rfl, hB4, by omega, by decide, by decide, fun d2 H5 hd20 hd21 o5 hB5 => ⟨d2, 2, rfl, rfl, ?_⟩⟩
          have o05 := (o3.trans o4).trans o5
          have hD5 := o5 _ _ hDb (o4 _ _ hDb hD3)
          obtain ⟨e, qe, u, g1, g2⟩ := (hz.ne hlb hb0 o05).at qT
          refine ⟨_, rfl, _, rfl, T1, _, _, _, rfl, rfl, g1, atI_nat (j := 0) rfl, D, _, rfl, .inl ⟨kvs, Sum.inr e.name, hD5, rfl, small (by omega), rfl⟩, ?_⟩
          refine ⟨_, putK kvs (Sum.inr e.name) (.int (d2 - 2)), rfl, ?_, upd_same, ?_, hI.put _ _, ?_⟩
          · intro a2 o2 hab ho2
            rw [upd_ne (ne_of_none ho2 hD)]
            exact o05 a2 o2 hab ho2
          · have := putK_le kvs (Sum.inr e.name : Key) (.int (d2 - 2))
            omega
          · exact (hB5.ne hDb hDc off_upd).mono (by omega)
        · refine iteFd c0 ?_
          exact ⟨_, kvs, rfl, o3.trans o4, o4 _ _ hDb hD3, by omega, hI, hB4.mono (by omega)⟩
    · rintro σ H3 ⟨s4, kvs, rfl, o3, hD3, _, hI, hB3⟩
      rw [List.length_map, hlen] at hB3
      have hz3 := hz.ne hlb hb0 o3
      have ho3 := ho.ne hb0 o3
      obtain ⟨dx, t, as, fs, h1, h2, h3, h4, nu, nh, nq, hno⟩ := id ho3
      refine ⟨_, rfl, l, rfl, ⟨_, hz3.1⟩, ?_⟩
      refine for_it (walk_list (K := K) (xs := Ts.map V.ref)) (fun i σ H' => ∃ (s4 s5 s6 : Option V), σ = [some (.ref b), some (.ref l), some (.ref a), some (.ref D), s4, s5, s6, none] ∧ Ext H3 H')
        ⟨s4, none, none, rfl, Ext.rfl'⟩ (fun i σ H' _ ⟨_, _, _, _, x⟩ => (hz3.ext x).1) ?_ ?_
      · rintro i y σ H5 H5' hi ⟨s4, s5, s6, rfl, x5⟩ ⟨eH, hy⟩
        subst eH
        rw [List.length_map] at hi
        rw [List.getElem?_map] at hy
        cases qT : Ts[i]? with
        | none => rw [qT] at hy; cases hy
        | some T1 =>
          rw [qT] at hy
          cases Option.some.inj hy
          obtain ⟨e, qe, u, g1, g2⟩ := (hz3.ext x5).at qT
          have he := List.mem_of_getElem? qe
          have hpl := hR.plc qe
          have hn3 := hR.n3 e he
          have hD5 := x5 _ _ hD3
          refine ⟨_, rfl, T1, _, _, _, rfl, rfl, g1, atI_nat (j := 3) rfl, u, rfl, ⟨_, g2.sq⟩, fun L hL => ?_⟩
          refine lc_acc (walk_tup (K := K) (xs := e.needs.map V.str)) hL (fun j acc B => Ext H5' B ∧ acc = ((e.needs.take j).filter fun m => !(valV kvs (Sum.inr m : Key)).isSome).map V.str) ⟨Ext.rfl', rfl⟩ (fun j acc H4 _ _ q => g2.sq.ext fun b o hb => ext_del _ _ (q.1 b o hb)) ?_ ?_
          · rintro j y H7 H' acc hj hacc hl2 ⟨xB, ea⟩ ⟨eH, hy⟩
            subst eH
            rw [List.length_map] at hj
            rw [List.getElem?_map] at hy
            cases qn : e.needs[j]? with
            | none => rw [qn] at hy; cases hy
            | some m =>
              rw [qn] at hy
              cases Option.some.inj hy
              have x6 : Ext H5' H' := fun b o hb => ext_del _ _ (xB b o hb)
              have ef : ∀ b, (!(valV kvs (Sum.inr m : Key)).isSome) = b → ((e.needs.take (j + 1)).filter fun m => !(valV kvs (Sum.inr m : Key)).isSome) = ((e.needs.take j).filter fun m => !(valV kvs (Sum.inr m : Key)).isSome) ++ (if b = true then [m] else []) := by
                intro b hb
                rw [List.take_add_one, qn, List.filter_append]
                congr 1
                show List.filter _ [m] = _
                rw [List.filter_cons, hb]
                cases b <;> rfl
              refine ⟨rfl, ?_⟩
              refine ⟨_, rfl, _, rfl, D, _, rfl, DGet.k (k := Sum.inr m) (x6 _ _ hD5), _, rfl, ?_⟩
              cases c : (valV kvs (Sum.inr m : Key)).isSome with
              | true =>
                refine iteF ?_
                refine acc_skip hacc hl2 ⟨xB, ?_⟩
                rw [ea, ef false (by rw [c]; rfl)]
                simp
              | false =>
                refine iteT ?_
                refine ⟨_, rfl, ?_⟩
                refine acc_add hacc hl2 (small (by omega)) ⟨xB, ?_⟩
                rw [ea, ef true (by rw [c]; rfl), List.map_append]
                rfl
          · rintro H7 acc hacc hl2 ⟨xB, ea⟩
            rw [List.length_map, List.take_length] at ea
            rw [ea] at hacc
            have x7 : Ext H5' H7 := fun b o hb => ext_del _ _ (xB b o hb)
            have hLk := lack_has kvs e.needs
            generalize (e.needs.filter fun m => !(valV kvs (Sum.inr m : Key)).isSome) = lk at hacc hLk
            refine ⟨_, rfl, L, _, rfl, .inl (SqL.of hacc), _, _, rfl, rfl, _, rfl, ?_⟩
            rw [List.length_map]
            have x37 := x5.trans x7
            by_cases c0 : (0 : Int) < (lk.length : Int)
            · refine iteTd (decide_eq_true c0) ?_
              have hA : hasAll kvs e.needs = false := hLk.mp (by omega)
              refine ⟨_, rfl, a, dx, fs, rfl, x37 _ _ h1, hno _ (by decide) (by decide), _, rfl, T1, _, _, _, rfl, rfl, g1.ext x7, atI_nat (j := 0) rfl, _, rfl, a, D, e.name, es, kvs, rfl, ho3.ext x37, hR.n3, x37 _ _ hD3, ?_⟩
              rw [hpl]
              intro e' H9 qe' x9
              rw [qe] at qe'
              cases Option.some.inj qe'
              refine ⟨fun _ => ?_, fun z => (by rw [hA] at z; cases z)⟩
              refine ⟨_, rfl, ne_non ⟨_, rfl, ?_⟩⟩
              refine iteF ?_
              exact ⟨_, _, _, rfl, x37.trans x9⟩
            · refine iteFd c0 ?_
              have hA : hasAll kvs e.needs = true := by
                cases z : hasAll kvs e.needs with
                | true => rfl
                | false => exact absurd (hLk.mpr z) (by omega)
              obtain ⟨is, his⟩ := keyL_ints hI e.needs hA
              have g27 := g2.ext x7
              have hD7 := x37 _ _ hD3
              refine ⟨_, rfl, T1, _, _, _, rfl, rfl, g1.ext x7, atI_nat (j := 3) rfl, u, rfl, ⟨_, g27.sq⟩, fun L2 hL2 => ?_⟩
              refine lc_acc (walk_tup (K := K) (xs := e.needs.map V.str)) hL2 (fun j acc B => Ext H7 B ∧ acc = keyL kvs (e.needs.take j)) ⟨Ext.rfl', rfl⟩ (fun j acc H4 _ _ q => g27.sq.ext fun b o hb => ext_del _ _ (q.1 b o hb)) ?_ ?_
              · rintro j y H8 H9 acc hj hacc hl2 ⟨xB, ea⟩ ⟨eH, hy⟩
                subst eH
                rw [List.length_map] at hj
                rw [List.getElem?_map] at hy
                cases qn : e.needs[j]? with
                | none => rw [qn] at hy; cases hy
                | some m =>
                  rw [qn] at hy
                  cases Option.some.inj hy
                  have x8 : Ext H7 H9 := fun b o hb => ext_del _ _ (xB b o hb)
                  have hm : (valV kvs (Sum.inr m : Key)).isSome = true := by
                    have := List.all_eq_true.mp hA (valV kvs (Sum.inr m : Key)).isSome (List.mem_map.mpr ⟨m, List.mem_of_getElem? qn, rfl⟩)
                    simpa using this
                  obtain ⟨v, hv⟩ := Option.isSome_iff_exists.mp hm
                  refine ⟨rfl, ?_⟩
                  refine yes_go (iteT ?_)
                  refine ⟨_, rfl, _, rfl, D, v, rfl, hv ▸ DGet.k (k := Sum.inr m) (x8 _ _ hD7), ?_⟩
                  refine acc_add hacc hl2 (small (by omega)) ⟨xB, ?_⟩
                  rw [ea]
                  unfold keyL
                  rw [List.take_add_one, qn, List.map_append]
                  show _ ++ [v] = _ ++ [(valV kvs (Sum.inr m : Key)).getD .non]
                  rw [hv]
                  rfl
              · rintro H8 acc hacc hl2 ⟨xB, ea⟩
                rw [List.length_map, List.take_length] at ea
                rw [ea, his] at hacc
                refine ⟨L2, _, rfl, .inl (SqL.of hacc), fun t2 H9 x9 ht => ?_⟩
                have x79 : Ext H7 H9 := Ext.trans (fun b o hb => ext_del _ _ (xB b o hb)) x9
                have x39 := x37.trans x79
                refine ⟨_, rfl, a, dx, fs, rfl, x39 _ _ h1, hno _ (by decide) (by decide), _, rfl, T1, _, _, _, rfl, rfl, (g1.ext x7).ext x79, atI_nat (j := 0) rfl, _, rfl, a, D, e.name, es, kvs, rfl, ho3.ext x39, hR.n3, x39 _ _ hD3, ?_⟩
                rw [hpl]
                intro e' H11 qe' x11
                rw [qe] at qe'
                cases Option.some.inj qe'
                refine ⟨fun z => (by rw [hA] at z; cases z), fun _ t3 ht3 => ?_⟩
                rw [his] at ht3
                refine ⟨_, rfl, ne_ints ht3 (ht.ext x11) ⟨_, rfl, ?_⟩⟩
                refine iteF ?_
                exact ⟨_, _, _, rfl, x39.trans x11⟩
      · rintro σ H5 ⟨s4, s5, s6, rfl, x5⟩
        exact h H5 (o3.trans (Ext.off x5)) ((hB3.ext x5).mono (by omega))
end
end K01
set_option maxHeartbeats 4000000
/-! Lambdas without parameters that are kept as values and called later by a local name of the same def. -/
namespace Ax
open PySem PySem.Spec PyProof.Rows L2
/-- what a lambda is made of -/
structure Lm where
  params : Arguments
  body : Expr
  scope : Scope
/-- at f: a lambda of the code at c -/
def LamO (f : Addr) (q : Str) (B : Lm) (cl : List (Str × Addr)) (c : Addr) : HO := .ext fun h => ∃ pm ctv, h.get? f = some (PySem.W.kla_obj "<lambda>" q B.params B.body B.scope cl pm c ctv)
section
variable {P : Program} {w : World} {H : Hp} {h : Heap} {f c : Addr} {q : Str} {B : Lm} {cl : List (Str × Addr)}
theorem lamO_ok {pm ctv : Value} (e : h.get? f = some (PySem.W.kla_obj "<lambda>" q B.params B.body B.scope cl pm c ctv)) : ObjOk P w H h f (LamO f q B cl c) :=
  ⟨⟨pm, ctv, e⟩, ⟨_, e⟩, fun h1 h2 x k => let ⟨pm, ctv, r⟩ := x; ⟨pm, ctv, k _ r⟩⟩
theorem lamO_at (hok : HOk P w H h) (e : H f = some (LamO f q B cl c)) : ∃ pm ctv, h.get? f = some (PySem.W.kla_obj "<lambda>" q B.params B.body B.scope cl pm c ctv) := (hok _ _ e).1
theorem codeO_rec (hok : HOk P w H h) (e : H c = some (LamX.CodeO c q)) : h.CodeRec (.ref c) q := by
  obtain ⟨oc, vs, t, h1, h2, h3⟩ := (hok _ _ e).1
  exact ⟨c, oc, vs, t, rfl, h1, h2, h3⟩
end
section
variable {X : Cx} {k n : Nat} {E : XK} {x q : Str} {c T : Addr} {p pos : Pos}
/-! ### made -/
def tLamV (T : Addr) (q : Str) (B : Lm) (cells : List (Str × Addr)) : TE := fun _ H Q => LamX.TabS H T q ∧ ∀ f c' H1, (∀ a o, a ≠ T → H a = some o → H1 a = some o) → LamX.TabS H1 T q → H f = none → H1 f = some (LamO f q B (cloFrom cells B.scope.names []) c') → H1 c' = some (LamX.CodeO c' q) → Q (.ref f) H1
theorem pe_lambda {params : Arguments} {body : Expr} {scope : Scope} (TB : LamX.TabB X.base X.mg c T) (hcode : X.env.code = .ref c) (hq : X.env.qual ++ "<lambda>" = q) (L : LamX.LamS X.env.scope scope) (hdef : defaultsOf params X.env = ([], [])) :
    PE X (.Lambda params body scope pos) (tLamV T q ⟨params, body, scope⟩ X.env.cells) := by
  constructor
  intro pins s σ H Q I hh
  obtain ⟨⟨ps, hP, hps, hcd⟩, h⟩ := hh
  have e0 := I.env0
  have keep : ∀ (b : Addr) (o : Obj), X.base.get? b = some o → s.heap.get? b = some o := fun b o e => (e0.bs b o e).1
  have hget : s.heap.get? T = some (PySem.W.tabObj ps) := I.hok _ _ hP
  have hclo : closureFor scope X.env = pure (cloFrom X.env.cells scope.names []) := closure_ok fun y hy hf => by
    refine I.ok.has y.1 ?_
    rcases L.free y hy hf with q1 | q1
    · exact .inl q1
    · exact .inr q1
  refine PySem.W.kla_eval hdef ?_
  rw [hq]
  cases hca : codeAmong pos ps.toList with
  | none =>
    refine PySem.W.kla_makeFunction hclo I.ok.glob (I.ok.mod.glob.keeps keep) hcode (TB.code.keeps keep) hget hps hca TB.gP (TB.bm.keeps keep) fun c' ctv h' tk hext hc1 hc2 hrec hP' => ?_
    obtain ⟨c'', oc, vs, t, ec, r1, r2, r3⟩ := hrec
    cases ec
    have I2 := LamX.inv_table (t' := tk) I hP hext hP' hc1 ⟨oc, vs, t, r1, r2, r3⟩
    have hcn : H c' = none := I.hok.fresh hc1
    have hcT : c' ≠ T := fun z => by rw [z, hP] at hcn; cases hcn
    have I3 := I2.laid (h' := h'.push (PySem.W.kla_obj "<lambda>" q params body scope (cloFrom X.env.cells scope.names []) ((X.mg ("__name__" : Str)).getD Value.none) c' ctv)) (a := h'.objs.size) (o := LamO h'.objs.size q ⟨params, body, scope⟩ (cloFrom X.env.cells scope.names []) c') (t' := tk)
      (fun b u e => Heap.get?_push_of_some _ e) (Nat.le_refl _) (lamO_ok (B := ⟨params, body, scope⟩) (Heap.get?_push_size _ rfl))
    have hfn : (upd (upd H T (.tbl (ps ++ #[rawInt ↑pos.line, rawInt ↑pos.col, Value.ref c']))) c' (LamX.CodeO c' q)) h'.objs.size = none := I2.hok.fresh (Nat.le_refl _)
    have hfc : h'.objs.size ≠ c' := by omega
    have hfT : h'.objs.size ≠ T := fun z => by
      rw [z, upd_ne hcT.symm, upd_same] at hfn
      cases hfn
    refine ⟨.ref _, _, I3, rfl, h _ c' _ ?_ ?_ ?_ upd_same ?_⟩
    · intro a o haT ho
      have hac : a ≠ c' := fun z => by rw [z, hcn] at ho; cases ho
      have h3 : (upd (upd H T (.tbl (ps ++ #[rawInt ↑pos.line, rawInt ↑pos.col, Value.ref c']))) c' (LamX.CodeO c' q)) a = some o := by
        rw [upd_ne hac, upd_ne haT]
        exact ho
      rw [upd_ne (ne_of_none h3 hfn)]
      exact h3
    · refine ⟨ps ++ #[rawInt ↑pos.line, rawInt ↑pos.col, Value.ref c'], ?_, ?_, ?_⟩
      · rw [upd_ne hfT.symm, upd_ne hcT.symm, upd_same]
      · rw [Array.toList_append]
        exact TriplesOk_snoc _ _ _ _ hps
      · intro pos2 cv hcv
        rw [Array.toList_append] at hcv
        rcases LamX.among_app _ hps hcv with q1 | q1
        · obtain ⟨c3, e3, h3⟩ := hcd pos2 cv q1
          refine ⟨c3, e3, ?_⟩
          have hc3T : c3 ≠ T := fun z => by
            rw [z, hP] at h3
            exact LamX.codeO_ne _ (Option.some.inj h3).symm
          have hc3c : c3 ≠ c' := fun z => by rw [z, hcn] at h3; cases h3
          have h4 : (upd (upd H T (.tbl (ps ++ #[rawInt ↑pos.line, rawInt ↑pos.col, Value.ref c']))) c' (LamX.CodeO c' q)) c3 = some (LamX.CodeO c3 q) := by
            rw [upd_ne hc3c, upd_ne hc3T]
            exact h3
          rw [upd_ne (ne_of_none h4 hfn)]
          exact h4
        · refine ⟨c', q1, ?_⟩
          rw [upd_ne hfc.symm, upd_same]
    · cases z : H h'.objs.size with
      | none => rfl
      | some o =>
        rw [upd_ne hfc, upd_ne hfT, z] at hfn
        cases hfn
    · rw [upd_ne hfc.symm, upd_same]
  | some cv =>
    obtain ⟨c', rfl, hc'⟩ := hcd pos cv hca
    refine PySem.W.kla_makeFunctionHit hclo I.ok.glob (I.ok.mod.glob.keeps keep) hcode (TB.code.keeps keep) hget hps hca (TB.bm.keeps keep) fun ctv h' tk hext hsz => ?_
    have I2 := I.kept (t' := tk) hext
    have I3 := I2.laid (h' := h'.push (PySem.W.kla_obj "<lambda>" q params body scope (cloFrom X.env.cells scope.names []) ((X.mg ("__name__" : Str)).getD Value.none) c' ctv)) (a := h'.objs.size) (o := LamO h'.objs.size q ⟨params, body, scope⟩ (cloFrom X.env.cells scope.names []) c') (t' := tk)
      (fun b u e => Heap.get?_push_of_some _ e) (Nat.le_refl _) (lamO_ok (B := ⟨params, body, scope⟩) (Heap.get?_push_size _ rfl))
    have hfn : H h'.objs.size = none := I2.hok.fresh (Nat.le_refl _)
    have x : ∀ a o, H a = some o → upd H h'.objs.size (LamO h'.objs.size q ⟨params, body, scope⟩ (cloFrom X.env.cells scope.names []) c') a = some o := fun a o ho => by
      rw [upd_ne (ne_of_none ho hfn)]
      exact ho
    refine ⟨.ref _, _, I3, rfl, h _ c' _ (fun a o _ ho => x a o ho) ?_ hfn upd_same (x _ _ hc')⟩
    exact ⟨ps, x _ _ hP, hps, fun pos2 cv hcv => let ⟨c3, e3, h3⟩ := hcd pos2 cv hcv; ⟨c3, e3, x _ _ h3⟩⟩
/-! ### called -/
def tAsk (n j : Nat) (q : Str) (B : Nat → Lm) (cells : List (Str × Addr)) (E : L2.St → XK) (tt : Nat → XK → TE) : TE := fun σ H Q => ∃ i f c', i < n ∧ σ[j]? = some (some (.ref f)) ∧ H f = some (LamO f q (B i) (cloFrom cells (B i).scope.names []) c') ∧ H c' = some (LamX.CodeO c' q) ∧ tt i (E σ) σ H Q
theorem pe_ask {E : L2.St → XK} {cells : List (Str × Addr)} {j : Nat} {B : Nat → Lm} {tt : Nat → XK → TE} (hcl : X.env.cells = cells) (hq : X.env.qual ++ "<lambda>" = q) (hL : ∀ i, i < n → LamX.LamS X.env.scope (B i).scope) (hbind : ∀ i, i < n → ∀ (cl : List (Str × Addr)) (pm cv ctv : Value), bindArgs (PySem.W.kla_fn "<lambda>" q (B i).params (B i).body (B i).scope cl pm cv ctv) ⟨[], []⟩ = pure [])
    (hr : Room (k + 1) X.A) (hx : ∀ σ, PassesAt (L2.CX X.prog X.w) X σ (E σ)) (hv : PE X (.Name x p) (tVar j))
    (hbody : ∀ i, i < n → ∀ (A : Around) (outer : List Env) (s : Shared) (H : Hp) (E : XK) (f c' : Addr), Room k (A.deeper (LamX.lamEnv X (B i).scope s.heap.objs.size f c')) → PE (LamX.lamCx X A outer s H E (B i).scope f c') (B i).body (tt i E))
    (hcall : eval (.Call (.Name x p) [] [] pos) X.env = (do
      let f ← eval (.Name x p) X.env
      callWith pos f [] (backTo pos (starEach [] X.env)) (backToKw pos (keywordEach [] X.env))) := by rfl) :
    PE X (.Call (.Name x p) [] [] pos) (tAsk n j q B cells E tt) := by
  subst hcl
  constructor
  intro pins s σ H Q I hh
  obtain ⟨i, f, c', hi, hσ, hf, hc, ht⟩ := hh
  have L := hL i hi
  refine Call_ (thn (hv.run pins s σ H (fun v H1 => v = .ref f ∧ H1 = H) I ⟨_, hσ, rfl, rfl⟩) fun u s1 got => ?_) hcall
  obtain ⟨v, H1, I1, rv, rfl, rfl⟩ := got
  obtain rfl : u = Value.ref f := rv
  obtain ⟨pm, ctv, hget⟩ := lamO_at I1.hok hf
  refine PySem.W.callWith_F0 ⟨_, _, _, _, hget⟩ ?_
  have e0 := I1.env0
  have nolim : s1.heap.NoLimit := e0.mod.nolimit.keeps fun b o e => (e0.bs b o e).1
  have run : codeAny (model X.prog X.w) X.A (.call (.ref f) ⟨[], []⟩) (CR (L2.CX X.prog X.w) X.stack X.prog X.w H1 s1 Q (E σ)) s1 := by
    refine PySem.W.kla_callFunE hr.depth hget rfl L.co L.gen rfl (codeO_rec I1.hok hc) ?_
    rw [hbind i hi]
    refine wpAny_pure ?_
    refine wpAny_newFunctionEnv (fun y hy => (L.own y hy).2) (fun y hy => by cases hy) (fun h' hns hsame => ?_) L.kind
    have keep : ∀ (b : Addr) (o : Obj), s1.heap.get? b = some o → h'.get? b = some o := fun b o e => by
      have hb : b ≠ s1.heap.objs.size := fun z => by
        rw [Heap.get?_none_of_le (Nat.le_of_eq z.symm)] at e
        cases e
      rw [hsame.2 b hb]
      exact Heap.get?_push_of_some _ e
    refine ⟨nolim.keeps keep, PySem.W.kla_codeExpr ?_⟩
    have J := LamX.lam_start2 (E := E σ) (f := f) (c' := c') (tk := s1.toks) I1 L e0 hr.hd ⟨fun b o a _ _ _ => a, fun b o a _ _ _ => ⟨o.slots, a⟩, fun b o _ a _ => a, fun b o a _ => ⟨o, a⟩, fun b xs a => a, fun b o u a => a, fun b ps a => ⟨#[], by rw [Array.append_empty]; exact a⟩⟩ hns keep
    subst hq
    refine wpAny_mono ((hbody i hi X.A X.stack s1 H1 (E σ) f c' (hr.deeper _)).run [] _ σ H1 _ J ht) (fun v s' hs => ?_) fun _ _ z => z
    obtain ⟨v', H', J', rv, q⟩ := hs
    exact ⟨v', H', J'.os, J'.bare, J'.base, J'.hok, rv, q⟩
  refine wpAny_call (codeAny_mono run fun rr s' hq => ?_)
  cases rr with
  | error er => exact hx σ pins H1 s1 er s' I1 hq
  | ok fl =>
    cases fl with
    | ret u => exact I1.after hq
    | next => exact hq.elim
    | brk => exact hq.elim
    | cont => exact hq.elim
end
end Ax
set_option maxHeartbeats 2000000
namespace K01
open PySem PySem.Spec PyProof.Rows L2 Ax
/-! ### what stays when a code table grows -/
theorem EvAt.neT {K : PySem.W.Frag} {H H' : Hp} {a x : Addr} {e : Ev} {ps : Array Value} (h : EvAt K H a e) (hx : H x = some (.tbl ps)) (o : Off x H H') : EvAt K H' a e := by
  obtain ⟨dx, t, fs, h1, h2, h3, h4, h5, h6⟩ := h
  exact ⟨dx, t, fs, o _ _ (fun z => by rw [z, hx] at h1; cases h1) h1, h2, h3, h4, h5, h6.ne hx (fun _ _ z => by cases z) o⟩
theorem OrdAt.neT {K : PySem.W.Frag} {H H' : Hp} {a x : Addr} {evs : List Ev} {ps : Array Value} (h : OrdAt K H a evs) (hx : H x = some (.tbl ps)) (o : Off x H H') : OrdAt K H' a evs := by
  obtain ⟨dx, t, as, fs, h1, h2, h3, h4, u, h5, h6, h7⟩ := h
  exact ⟨dx, t, as, fs, o _ _ (fun z => by rw [z, hx] at h1; cases h1) h1, h2, sqT_ne h3 hx (fun _ z => by cases z) (fun _ _ z => by cases z) o, ⟨h4.1, fun i b f g1 g2 => (h4.2 i b f g1 g2).neT hx o⟩, u, h5, sqT_ne h6 hx (fun _ z => by cases z) (fun _ _ z => by cases z) o, h7⟩
/-! ### the law's lambdas -/
def lamE : PySem.Expr → Lm
  | .Lambda p b s _ => ⟨p, b, s⟩
  | _ => ⟨default, default, default⟩
def lamS : Stmt → Lm
  | .Assign _ (.List [e] _) _ => lamE e
  | .Expr (.Call _ [e] _ _) _ => lamE e
  | _ => ⟨default, default, default⟩
def lam (i : Nat) : Lm := lamS ((defBody s_law_unknown).getD i (.Pass ⟨0, 0, 0, 0⟩))
def qL : Str := "_law_unknown.<locals>.<lambda>"
theorem lam_sc : ∀ i, i < 9 → LamX.lamSB (defScope s_law_unknown) (lam i).scope = true := by decide +kernel
/-- the list of lambdas at L -/
def LamsAt (cells : List (Str × Addr)) (H : Hp) (L : Addr) (fs : List Addr) : Prop := H L = some (.lst (fs.map V.ref)) ∧ ∀ (i : Nat) (f : Addr), fs[i]? = some f → ∃ c', H f = some (LamO f qL (lam i) (cloFrom cells (lam i).scope.names []) c') ∧ H c' = some (LamX.CodeO c' qL)
theorem LamsAt.ext {cells : List (Str × Addr)} {H H' : Hp} {L : Addr} {fs : List Addr} (h : LamsAt cells H L fs) (x : Ext H H') : LamsAt cells H' L fs := ⟨x _ _ h.1, fun i f q => let ⟨c, h1, h2⟩ := h.2 i f q; ⟨c, x _ _ h1, x _ _ h2⟩⟩
theorem tabS_lst {H H' : Hp} {Tb L : Addr} {xs : List V} (h : LamX.TabS H Tb qL) (hL : H L = some (.lst xs)) (o : Off L H H') : LamX.TabS H' Tb qL := by
  obtain ⟨ps, h1, h2, h3⟩ := h
  refine ⟨ps, o _ _ (fun z => by rw [z, hL] at h1; cases h1) h1, h2, fun p cv q => ?_⟩
  obtain ⟨c, e, h4⟩ := h3 p cv q
  exact ⟨c, e, o _ _ (fun z => by rw [z, hL] at h4; cases h4) h4⟩
theorem lams_snoc {cells : List (Str × Addr)} {H H1 : Hp} {Tb L f c' : Addr} {fs : List Addr} (h : LamsAt cells H L fs) (hT : LamX.TabS H Tb qL) (o : ∀ a o, a ≠ Tb → H a = some o → H1 a = some o) (hf : H f = none)
    (h1 : H1 f = some (LamO f qL (lam fs.length) (cloFrom cells (lam fs.length).scope.names []) c')) (h2 : H1 c' = some (LamX.CodeO c' qL)) : H1 L = some (.lst (fs.map V.ref)) ∧ LamsAt cells (upd H1 L (.lst (fs.map V.ref ++ [.ref f]))) L (fs ++ [f]) := by
  obtain ⟨ps, t1, _⟩ := hT
  have hLT : L ≠ Tb := fun z => by rw [← z, h.1] at t1; cases t1
  have e1 := o _ _ hLT h.1
  refine ⟨e1, by rw [upd_same, List.map_append]; rfl, fun i g q => ?_⟩
  by_cases c : i < fs.length
  · rw [List.getElem?_append_left c] at q
    obtain ⟨c3, k1, k2⟩ := h.2 i g q
    have k3 := o _ _ (fun z => by rw [z, t1] at k1; cases k1) k1
    have k4 := o _ _ (fun z => by rw [z, t1] at k2; cases k2) k2
    refine ⟨c3, ?_, ?_⟩
    · rw [upd_ne (fun z => by rw [z, e1] at k3; cases k3)]
      exact k3
    · rw [upd_ne (fun z => by rw [z, e1] at k4; cases k4)]
      exact k4
  · have c2 : i = fs.length := by
      have := (List.getElem?_eq_some_iff.mp q).1
      simp at this
      omega
    subst c2
    rw [List.getElem?_append_right (Nat.le_refl _), Nat.sub_self] at q
    cases Option.some.inj q
    refine ⟨c', ?_, ?_⟩
    · rw [upd_ne (fun z => by rw [z, e1] at h1; cases h1)]
      exact h1
    · rw [upd_ne (fun z => by rw [z, e1] at h2; cases h2)]
      exact h2
/-- asks.append(lambda: ..) -/
theorem app_lam {K : PySem.W.Frag} {REST : TS} {D : Ends} {cells : List (Str × Addr)} {σ : L2.St} {H : Hp} {Tb L : Addr} {fs : List Addr} {B : Lm} (hσ : σ[2]? = some (some (.ref L))) (hs : LamsAt cells H L fs) (hT : LamX.TabS H Tb qL) (hB : B = lam fs.length) (hlen : fs.length < 20)
    (h : ∀ f H', (∀ a o, a ≠ Tb → a ≠ L → H a = some o → H' a = some o) → LamsAt cells H' L (fs ++ [f]) → LamX.TabS H' Tb qL → REST D σ H') : tSeq (tDrop (tBM K "list" rAppend (tVar 2) (tCons (tLamV Tb qL B cells) tNil))) REST D σ H := by
  subst hB
  refine ⟨_, hσ, .inl ⟨rfl, _, SqL.of hs.1⟩, hT, fun f c' H1 o1 hT1 hf h1 h2 => ?_⟩
  obtain ⟨e1, hs1⟩ := lams_snoc hs hT o1 hf h1 h2
  refine ⟨L, _, _, rfl, rfl, e1, by rw [List.length_map]; exact small (by omega), ?_⟩
  refine h f _ (fun a o haT haL ho => ?_) hs1 (tabS_lst hT1 e1 off_upd)
  rw [upd_ne haL]
  exact o1 a o haT ho
section
variable {P : Program} {w : World} {K : PySem.W.Frag} {mg : Str → Option Value} {base : Heap}
def lamT (K : PySem.W.Frag) (i : Nat) (E : XK) : TE := match i with
  | 0 => tMeth (He.ga K "Order") "event" (spEvent K) [] E (tVar 0) (tCons (tVar 1) tNil)
  | 1 => tMeth (He.ga K "Order") "place" (spPlace K) [] E (tVar 0) (tCons (tVar 1) tNil)
  | 2 => tMeth (He.ga K "Order") "foreign" (spForeign K) [] E (tVar 0) (tCons (tVar 1) tNil)
  | 3 => tMeth (He.ga K "Order") "behind" (spBehind K) [] E (tVar 0) (tCons (tVar 1) tNil)
  | 4 => tMeth (He.ga K "Order") "loose" (spLoose K) [] E (tVar 0) (tCons (tVar 1) tNil)
  | 5 => tMeth (He.ga K "Order") "sources" (spSources K) [] E (tVar 0) (tCons (tVar 1) tNil)
  | 6 => tMeth (He.ga K "Order") "as_kind" (spKind K) [] E (tVar 0) (tCons (tVar 1) (tCons (tC (.str "query")) tNil))
  | 7 => tMeth (He.ga K "Order") "as_kind" (spKind K) [] E (tVar 0) (tCons (tVar 1) (tCons (tC (.str "queries")) tNil))
  | _ => tMeth (He.ga K "Order") "key_of" (spKeyOf K) [] E (tVar 0) (tCons (tVar 1) (tCons tDNewK tNil))
def clsU (K : PySem.W.Frag) : List Cl := [⟨.ref (He.ga K "BadOrder"), 4, fun a cls d => tIfS (tOr (tTest (tOp rNe (tXf a cls d (He.ga K "BadOrder") "what" (tVar 4)) (tC (.str "unknown")))) (tTest (tOp rNe (tXf a cls d (He.ga K "BadOrder") "name" (tVar 4)) (tVar 1)))) (tRet (tC (.bl false))) tNext⟩]
def tTryU (K : PySem.W.Frag) (cells : List (Str × Addr)) : TS := fun D σ H => tSeq (tDrop (tAsk 9 3 qL lam cells (fun σ => WE (wCls K (fun _ _ _ _ => False) D (clsU K)) σ) (lamT K))) (tRet (tC (.bl false))) D σ H
def spUnknown (K : PySem.W.Frag) (Tb : Addr) : Sp := fun vs H Q _ => ∃ (a : Addr) (n : Str) (es : List Ev), vs = [.ref a, .str n] ∧ OrdAt K H a es ∧ RtE es ∧ ordF [] es = none ∧ plc es n = none ∧ LamX.TabS H Tb qL ∧ ∀ H', Off Tb H H' → Q (.bl true) H'
theorem lam_reads {H : Hp} {a : Addr} {n : Str} {es : List Ev} {i : Nat} {σ : L2.St} {E : XK} {Q : VK} (hi : i < 9) (h0 : σ[0]? = some (some (.ref a))) (h1 : σ[1]? = some (some (.str n))) (ho : OrdAt K H a es) (hR : RtE es) (hor : ordF [] es = none) (hpl : plc es n = none)
    (hE : ∀ (d : Addr) H', Ext H H' → ErrO H' d "unknown" n → E (.ref (He.ga K "BadOrder")) (some d) H') : lamT K i E σ H Q := by
  obtain ⟨dx, t, as, fs, k1, _, _, _, _, _, _, hno⟩ := id ho
  have hel := hR.len
  have h9 : i = 0 ∨ i = 1 ∨ i = 2 ∨ i = 3 ∨ i = 4 ∨ i = 5 ∨ i = 6 ∨ i = 7 ∨ i = 8 := by omega
  rcases h9 with z | z | z | z | z | z | z | z | z <;> subst z
  · refine ⟨_, h0, a, dx, fs, rfl, k1, hno _ (by decide) (by decide), _, h1, a, n, es, rfl, ho, ?_⟩
    rw [hpl]
    exact hE
  · refine ⟨_, h0, a, dx, fs, rfl, k1, hno _ (by decide) (by decide), _, h1, a, n, es, rfl, ho, ?_⟩
    rw [hpl]
    exact hE
  · refine ⟨_, h0, a, dx, fs, rfl, k1, hno _ (by decide) (by decide), _, h1, a, n, es, rfl, ho, hR.cl, hR.n3, ?_⟩
    rw [hpl]
    exact hE
  · refine ⟨_, h0, a, dx, fs, rfl, k1, hno _ (by decide) (by decide), _, h1, a, n, es, rfl, ho, by omega, hR.n3, ?_⟩
    rw [hpl]
    exact hE
  · refine ⟨_, h0, a, dx, fs, rfl, k1, hno _ (by decide) (by decide), _, h1, a, n, es, rfl, ho, by omega, hR.n3, ?_⟩
    rw [hpl]
    exact hE
  · refine ⟨_, h0, a, dx, fs, rfl, k1, hno _ (by decide) (by decide), _, h1, a, n, es, rfl, ho, by omega, hR.n3, ?_⟩
    rw [hpl]
    exact hE
  · refine ⟨_, h0, a, dx, fs, rfl, k1, hno _ (by decide) (by decide), _, h1, a, n, "query", es, rfl, ho, by omega, hR.gd, hor, ?_⟩
    rw [hpl]
    exact hE
  · refine ⟨_, h0, a, dx, fs, rfl, k1, hno _ (by decide) (by decide), _, h1, a, n, "queries", es, rfl, ho, by omega, hR.gd, hor, ?_⟩
    rw [hpl]
    exact hE
  · refine ⟨_, h0, a, dx, fs, rfl, k1, hno _ (by decide) (by decide), _, h1, fun p hp => ?_⟩
    have x : Ext H (upd H p (.dK [])) := Ext.upd hp
    refine ⟨a, p, n, es, [], rfl, ho.ext x, hR.n3, upd_same, ?_⟩
    rw [hpl]
    exact fun d H' x' he => hE d H' (x.trans x') he
theorem ok_unknown (T : Tx w K mg) {Tb : Addr} (TB : LamX.TabB base mg (He.cT K ("_law_unknown", none)).1 Tb) : Dn P w K mg base CX0 9 "_law_unknown" ["order", "name"] (spUnknown K Tb) := by
  obtain ⟨fd, F⟩ := T.f_law_unknown
  obtain ⟨oc, od, dV, kV, doc, pm, an, cdv, ct, osl, rfl, lk, hcd, hD, _⟩ := id F.ex
  have nd := sc_law_unknown.nd
  obtain ⟨c, rfl⟩ : ∃ c, cdv = .ref c := by
    unfold PySem.W.codeIn at hcd
    split at hcd
    · exact ⟨_, rfl⟩
    · cases hcd
  have hc : (He.cT K ("_law_unknown", none)).1 = c := by
    have lk2 : K.lookup (He.fAd K (("_law_unknown" : Str), none)) = _ := lk
    show He.codeOf K ("_law_unknown", none) = c
    unfold He.codeOf
    rw [lk2]
  rw [hc] at TB
  have hq0 : ("_law_unknown.<locals>." : Str) ++ "<lambda>" = qL := by decide +kernel
  refine ⟨_, _, ⟨fun vs H Q E h => ?_, fun A outer s H args us vs Q E hr e0 hb rv h => LamX.run_ofS lk hcd sc_law_unknown hr e0 hb rv ?_ (fun hr' => ?_)⟩, T.g_law_unknown, F.kp, F.bindsN fun _ _ _ _ _ _ us hl => match us, hl with | [_, _], _ => rfl⟩
  · obtain ⟨a, n, es, rfl, _⟩ := h
    rfl
  · obtain ⟨a, n, es, rfl, _⟩ := h
    rfl
  · refine ⟨_, PSs.nox (pss_cons
    (ps_set (i := 2) nd rfl (Or.inl rfl) (pe_lst (pa_cons (pe_lambda (q := qL) TB rfl hq0 (LamX.lamS_by (by show LamX.lamSB (defScope s_law_unknown) _ = true; decide +kernel)) rfl) pa_nil))) (pss_cons
    (ps_expr (pe_bm PySem.F.plainAttrs_list PySem.F.slot_list_append PySem.F.type_list_append mt_append (pv 2) (pa_cons (pe_lambda (q := qL) TB rfl hq0 (LamX.lamS_by (by show LamX.lamSB (defScope s_law_unknown) _ = true; decide +kernel)) rfl) pa_nil))) (pss_cons
    (ps_expr (pe_bm PySem.F.plainAttrs_list PySem.F.slot_list_append PySem.F.type_list_append mt_append (pv 2) (pa_cons (pe_lambda (q := qL) TB rfl hq0 (LamX.lamS_by (by show LamX.lamSB (defScope s_law_unknown) _ = true; decide +kernel)) rfl) pa_nil))) (pss_cons
    (ps_expr (pe_bm PySem.F.plainAttrs_list PySem.F.slot_list_append PySem.F.type_list_append mt_append (pv 2) (pa_cons (pe_lambda (q := qL) TB rfl hq0 (LamX.lamS_by (by show LamX.lamSB (defScope s_law_unknown) _ = true; decide +kernel)) rfl) pa_nil))) (pss_cons
    (ps_expr (pe_bm PySem.F.plainAttrs_list PySem.F.slot_list_append PySem.F.type_list_append mt_append (pv 2) (pa_cons (pe_lambda (q := qL) TB rfl hq0 (LamX.lamS_by (by show LamX.lamSB (defScope s_law_unknown) _ = true; decide +kernel)) rfl) pa_nil))) (pss_cons
    (ps_expr (pe_bm PySem.F.plainAttrs_list PySem.F.slot_list_append PySem.F.type_list_append mt_append (pv 2) (pa_cons (pe_lambda (q := qL) TB rfl hq0 (LamX.lamS_by (by show LamX.lamSB (defScope s_law_unknown) _ = true; decide +kernel)) rfl) pa_nil))) (pss_cons
    (ps_expr (pe_bm PySem.F.plainAttrs_list PySem.F.slot_list_append PySem.F.type_list_append mt_append (pv 2) (pa_cons (pe_lambda (q := qL) TB rfl hq0 (LamX.lamS_by (by show LamX.lamSB (defScope s_law_unknown) _ = true; decide +kernel)) rfl) pa_nil))) (pss_cons
    (ps_expr (pe_bm PySem.F.plainAttrs_list PySem.F.slot_list_append PySem.F.type_list_append mt_append (pv 2) (pa_cons (pe_lambda (q := qL) TB rfl hq0 (LamX.lamS_by (by show LamX.lamSB (defScope s_law_unknown) _ = true; decide +kernel)) rfl) pa_nil))) (pss_cons
    (ps_expr (pe_bm PySem.F.plainAttrs_list PySem.F.slot_list_append PySem.F.type_list_append mt_append (pv 2) (pa_cons (pe_lambda (q := qL) TB rfl hq0 (LamX.lamS_by (by show LamX.lamSB (defScope s_law_unknown) _ = true; decide +kernel)) rfl) pa_nil))) (pss_cons
    (ps_for PassesOwn.never rfl (pi_list (pv 2)) (pg_name (i := 3) nd rfl (Or.inl rfl)) (pss_one
      (show PS _ _ (tTryU K (cxOf CX0 P w K mg base n_law_unknown "_law_unknown" (defScope s_law_unknown) (He.fAd K d_law_unknown.at_) (.ref c) A outer s H E).env.cells) from ps_try_cls (l := clsU K) rfl rfl nd takes0
        (fun W pn xe tk _ => pss_cons (ps_expr (pe_ask (cells := (cxOf CX0 P w K mg base n_law_unknown "_law_unknown" (defScope s_law_unknown) (He.fAd K d_law_unknown.at_) (.ref c) A outer s H E).env.cells) (n := 9) (k := 7) (q := qL) (B := lam) (tt := lamT K) (E := fun σ => WE W σ) rfl (by exact hq0) (fun i hi => ?hL) (fun i hi => ?hB) hr' (fun σ => passAt tk σ) (pv 3) (fun i hi A2 outer2 s2 H2 E2 f c' hr2 => ?hbody))) (pss_one (ps_ret pe_bl)))
        (ClsOk.cons ⟨rfl, by decide, .inl T.g_BadOrder⟩ rfl rfl (fun a oe cls d pn hz hf => pss_one (ps_if (PW.pt (pw_or
            (pt_cmpR op_ne (pe_xf T.xf_BadOrder (show PySem.W.findIn K (.ref (He.ga K "BadOrder")) "what" = some none from T.n_BadOrder_what) hz hf (pv 4)) pe_str (nomark _)) (pw_or1
            (pt_cmpR op_ne (pe_xf T.xf_BadOrder (show PySem.W.findIn K (.ref (He.ga K "BadOrder")) "name" = some none from T.n_BadOrder_name) hz hf (pv 4)) (pv 1) (nomark _))))) (pss_one (ps_ret pe_bl)) pss_nil)) ClsOk.nil))))
    (pss_one (ps_ret pe_bl)))))))))))), ?_⟩
    case hL => exact LamX.lamS_by (by show LamX.lamSB (defScope s_law_unknown) (lam i).scope = true; exact lam_sc i hi)
    case hB =>
      have h9 : i = 0 ∨ i = 1 ∨ i = 2 ∨ i = 3 ∨ i = 4 ∨ i = 5 ∨ i = 6 ∨ i = 7 ∨ i = 8 := by omega
      rcases h9 with z | z | z | z | z | z | z | z | z <;> subst z <;> intro cl pm cv ctv <;> rfl
    case hbody =>
      have h9 : i = 0 ∨ i = 1 ∨ i = 2 ∨ i = 3 ∨ i = 4 ∨ i = 5 ∨ i = 6 ∨ i = 7 ∨ i = 8 := by omega
      rcases h9 with z | z | z | z | z | z | z | z | z <;> subst z
      · exact pe_dm (E := E2) ((ok_event T).mono (by decide)) (pv 0) T.c_Order hr2 (passes_call (takes_of rfl rfl rfl rfl) (fun _ _ _ _ h => h)) (pa_cons (pv 1) pa_nil)
      · exact pe_dm (E := E2) ((ok_place T).mono (by decide)) (pv 0) T.c_Order hr2 (passes_call (takes_of rfl rfl rfl rfl) (fun _ _ _ _ h => h)) (pa_cons (pv 1) pa_nil)
      · exact pe_dm (E := E2) ((ok_foreign T).mono (by decide)) (pv 0) T.c_Order hr2 (passes_call (takes_of rfl rfl rfl rfl) (fun _ _ _ _ h => h)) (pa_cons (pv 1) pa_nil)
      · exact pe_dm (E := E2) ((ok_behind T).mono (by decide)) (pv 0) T.c_Order hr2 (passes_call (takes_of rfl rfl rfl rfl) (fun _ _ _ _ h => h)) (pa_cons (pv 1) pa_nil)
      · exact pe_dm (E := E2) ((ok_loose T).mono (by decide)) (pv 0) T.c_Order hr2 (passes_call (takes_of rfl rfl rfl rfl) (fun _ _ _ _ h => h)) (pa_cons (pv 1) pa_nil)
      · exact pe_dm (E := E2) ((ok_sources T).mono (by decide)) (pv 0) T.c_Order hr2 (passes_call (takes_of rfl rfl rfl rfl) (fun _ _ _ _ h => h)) (pa_cons (pv 1) pa_nil)
      · exact pe_dm (E := E2) ((ok_kind T).mono (by decide)) (pv 0) T.c_Order hr2 (passes_call (takes_of rfl rfl rfl rfl) (fun _ _ _ _ h => h)) (pa_cons (pv 1) (pa_cons pe_str pa_nil))
      · exact pe_dm (E := E2) ((ok_kind T).mono (by decide)) (pv 0) T.c_Order hr2 (passes_call (takes_of rfl rfl rfl rfl) (fun _ _ _ _ h => h)) (pa_cons (pv 1) (pa_cons pe_str pa_nil))
      · exact pe_dm (E := E2) ((ok_keyOf T).mono (by decide)) (pv 0) T.c_Order hr2 (passes_call (takes_of rfl rfl rfl rfl) (fun _ _ _ _ h => h)) (pa_cons (pv 1) (pa_cons pe_dnewK pa_nil))
    obtain ⟨a, n, es, rfl, ho, hR, hor, hpl, hT, h⟩ := h
    obtain ⟨ps0, hT0, _⟩ := id hT
    refine ⟨hT, fun f0 c0 H1 o1 hT1 hf0 hL0 hc0 => ?_⟩
    refine ⟨by show 1 ≤ sizeLine; decide, fun L hL => ?_⟩
    have hLf : f0 ≠ L := ne_of_none hL0 hL
    have hLc : c0 ≠ L := ne_of_none hc0 hL
    obtain ⟨ps1, hT1', _⟩ := id hT1
    have hTL : Tb ≠ L := ne_of_none hT1' hL
    have hs1 : LamsAt (cxOf CX0 P w K mg base n_law_unknown "_law_unknown" (defScope s_law_unknown) (He.fAd K d_law_unknown.at_) (.ref c) A outer s H E).env.cells (upd H1 L (.lst [.ref f0])) L [f0] := by
      refine ⟨upd_same, fun i g q => ?_⟩
      match i, q with
      | 0, q =>
        cases Option.some.inj q
        exact ⟨c0, (upd_ne hLf).trans hL0, (upd_ne hLc).trans hc0⟩
    have hT2 : LamX.TabS (upd H1 L (.lst [.ref f0])) Tb qL := by
      obtain ⟨ps, a1, a2, a3⟩ := hT1
      exact ⟨ps, (upd_ne hTL).trans a1, a2, fun p cv q => let ⟨c, e, h4⟩ := a3 p cv q; ⟨c, e, (upd_ne (ne_of_none h4 hL)).trans h4⟩⟩
    have o2 : ∀ a o, a ≠ Tb → H a = some o → (upd H1 L (.lst [.ref f0])) a = some o := fun a o ha ho => (upd_ne (ne_of_none (o1 a o ha ho) hL)).trans (o1 a o ha ho)
    have hLn : ∀ a o, H a = some o → a ≠ Tb → a ≠ L := fun a o ho ha => ne_of_none (o1 a o ha ho) hL
    clear hL0 hc0
    generalize (upd H1 L (.lst [.ref f0])) = H2 at hs1 hT2 o2 ⊢
    refine app_lam rfl hs1 hT2 rfl (by simp) fun f1 H3 o3 hs3 hT3 => ?_
    refine app_lam rfl hs3 hT3 rfl (by simp) fun f2 H4 o4 hs4 hT4 => ?_
    refine app_lam rfl hs4 hT4 rfl (by simp) fun f3 H5 o5 hs5 hT5 => ?_
    refine app_lam rfl hs5 hT5 rfl (by simp) fun f4 H6 o6 hs6 hT6 => ?_
    refine app_lam rfl hs6 hT6 rfl (by simp) fun f5 H7 o7 hs7 hT7 => ?_
    refine app_lam rfl hs7 hT7 rfl (by simp) fun f6 H8 o8 hs8 hT8 => ?_
    refine app_lam rfl hs8 hT8 rfl (by simp) fun f7 H9 o9 hs9 hT9 => ?_
    refine app_lam rfl hs9 hT9 rfl (by simp) fun f8 HA oA hsA hTA => ?_
    have oAll : Off Tb H HA := fun a o ha ho => by
      have hl := hLn a o ho ha
      exact oA a o ha hl (o9 a o ha hl (o8 a o ha hl (o7 a o ha hl (o6 a o ha hl (o5 a o ha hl (o4 a o ha hl (o3 a o ha hl (o2 a o ha ho))))))))
    have hoA := ho.neT hT0 oAll
    generalize hfs : [f0] ++ [f1] ++ [f2] ++ [f3] ++ [f4] ++ [f5] ++ [f6] ++ [f7] ++ [f8] = fs at hsA
    have hfl : fs.length = 9 := by rw [← hfs]; rfl
    clear hs1 hs3 hs4 hs5 hs6 hs7 hs8 hs9
    refine ⟨_, rfl, L, rfl, ⟨_, SqL.of hsA.1⟩, ?_⟩
    refine for_it (walk_list (K := K) (xs := fs.map V.ref)) (fun i σ H' => ∃ s3 : Option V, σ = [some (.ref a), some (.str n), some (.ref L), s3, none] ∧ Ext HA H') ⟨none, rfl, Ext.rfl'⟩ (fun i σ H' _ ⟨_, _, x⟩ => SqL.of (x _ _ hsA.1)) ?_ ?_
    · rintro i y σ HB HB' hi ⟨s3, rfl, xB⟩ ⟨eH, hy⟩
      subst eH
      rw [List.length_map, hfl] at hi
      rw [List.getElem?_map] at hy
      cases qf : fs[i]? with
      | none => rw [qf] at hy; cases hy
      | some f =>
        rw [qf] at hy
        cases Option.some.inj hy
        obtain ⟨c', k1, k2⟩ := (hsA.ext xB).2 i f qf
        have hoB := hoA.ext xB
        obtain ⟨dx, t, as, gs, h1, h2, h3, h4, nu, nh, nq, hno⟩ := id hoB
        refine ⟨i, f, c', hi, rfl, k1, k2, ?_⟩
        refine lam_reads hi rfl rfl hoB hR hor hpl fun d H' x' he => ?_
        obtain ⟨tt, he⟩ := he
        refine ⟨true, T.x_BadOrder_BadOrder, fun _ ax hax => ?_, fun z => nomatch z⟩
        refine ⟨_, rfl, rfl, rfl, d, _, _, rfl, he, rfl, rfl, _, rfl, ?_⟩
        refine iteFd' (by show (!decide (V.str "unknown" = V.str "unknown")) = false; rw [decide_eq_true rfl]; rfl) ?_
        refine ⟨_, rfl, rfl, rfl, d, _, _, rfl, he, rfl, _, rfl, rfl, _, rfl, ?_⟩
        refine iteFd' (by show (!decide (V.str n = V.str n)) = false; rw [decide_eq_true rfl]; rfl) ?_
        exact ⟨_, rfl, xB.trans x'⟩
    · rintro σ HB ⟨s3, rfl, xB⟩
      exact h HB (fun a o ha ho => xB _ _ (oAll a o ha ho))
end
end K01
set_option maxHeartbeats 4000000
/-! A method call in a try: what it raises is wished for at the slots. -/
namespace K01
open PySem PySem.Spec PyProof.Rows L2 Ax
def tMethW (C : Addr) (m : Str) (sp : Sp) (E : L2.St → XK) (ta : TE) (t : TA) : TE := fun σ H Q => ta σ H fun x H1 => ∃ a dx fs, x = .ref a ∧ H1 a = some (.ins C dx fs) ∧ fs.lookup m = none ∧ t σ H1 fun vs H2 => sp (x :: vs) H2 Q (E σ)
theorem pe_dmW {X : Cx} {CX : CXT} {k : Nat} {C : Addr} {m : Str} {ps : List Str} {sp : Sp} {E : L2.St → XK} {o e : PySem.Expr} {es : List PySem.Expr} {ta : TE} {t : TA} {pos apos : Pos} {pl : Sem Bool} (D : Dm X.prog X.w X.K X.mg X.base CX k C m ps sp) (he : PE X o ta) (c : Cls X.K C) (hr : Room k X.A) (hx : ∀ σ, PassesAt CX X σ (E σ)) (ha : PA X (e :: es) t)
    (hst : starEach (e :: es) X.env = (false, eval e X.env) :: starEach es X.env := by rfl) (hpl : (backTo pos (starEach es X.env)).any (·.1) = false := by rfl)
    (ht : eval (.Call (.Attribute o m apos) (e :: es) [] pos) X.env = (do
      let ov ← eval o X.env
      standAt apos.atName
      let (f, first) ← holding [ov] (getMethod ov m pl)
      callWith pos f first (backTo pos (starEach (e :: es) X.env)) (backToKw pos (keywordEach [] X.env))) := by rfl) :
    PE X (.Call (.Attribute o m apos) (e :: es) [] pos) (tMethW C m sp E ta t) := by
  obtain ⟨f, fd, F, hm, hb⟩ := D
  constructor
  intro pins s σ H Q I h
  refine PySem.W.methodCall_KW (pl := pl) (thn (he.run pins s σ H _ I h) fun u s1 got => ?_) ht
  obtain ⟨x, H1, I1, rx, a, dx, fs, ex, ha1, hno, q⟩ := got
  subst ex
  obtain rfl : u = Value.ref a := rx
  refine getmeth_ok I1 ha1 c hm hno ?_
  refine PySem.W.callWith_K (h₀ := X.base) I1.ok.mod.kin hm.kp (thn (ha.run pos pins s1 σ H1 _ I1 q) fun us s3 more => ?_) hst hpl
  obtain ⟨vs, H2, I3, rv, q2⟩ := more
  refine ⟨I3.kIn, ?_⟩
  have e0 : Env0 X.prog X.w X.K X.mg X.base X.A X.stack s3 H2 := I3.env0
  have rv2 : Vals (V.ref a :: vs) (Value.ref a :: us) := .cons rfl rv
  have hl : (Value.ref a :: us).length = ps.length := by rw [← rv2.length]; exact F.len _ _ _ _ q2
  have bt : BindsTo s3 fd ⟨Value.ref a :: us, []⟩ (ps.zip (Value.ref a :: us)) := by
    have z := hb s3 (Value.ref a :: us) I3.kIn (by rw [List.append_nil]; exact hl)
    rw [List.append_nil] at z
    exact z
  refine wpAny_call (codeAny_mono (F.run X.A X.stack s3 H2 ⟨Value.ref a :: us, []⟩ (Value.ref a :: us) (V.ref a :: vs) Q (E σ) hr e0 bt rv2 q2) fun rr s' hq => ?_)
  cases rr with
  | error er => exact hx σ pins H2 s3 er s' I3 hq
  | ok fl =>
    cases fl with
    | ret u => exact I3.after hq
    | next => exact hq.elim
    | brk => exact hq.elim
    | cont => exact hq.elim
end K01
set_option maxHeartbeats 2000000
namespace K01
open PySem PySem.Spec PyProof.Rows L2 Ax
/-! ### mathematics -/
theorem ordF_needs : ∀ (evs : List Ev) (el : List Str), ordF el evs = none → ∀ e ∈ evs, ∀ n ∈ e.needs, n ∈ el ∨ n ∈ evs.map Ev.name
  | [], _, _ => fun _ z => nomatch z
  | f :: r, el, h => by
    rw [ordF_cons] at h
    cases q : evF f el with
    | some x => rw [q] at h; cases h
    | none =>
      rw [q] at h
      dsimp only at h
      intro e he n hn
      rcases List.mem_cons.mp he with z | z
      · subst z
        unfold evF at q
        split at q
        · cases q
        · split at q
          · rename_i _ c
            unfold areN at c
            rw [Bool.and_eq_true, List.all_eq_true] at c
            have := c.2 n hn
            rw [Bool.and_eq_true] at this
            exact .inl (of_decide_eq_true this.1)
          · cases q
      · rcases ordF_needs r _ h e z n hn with w | w
        · rcases List.mem_append.mp w with w | w
          · exact .inl w
          · exact .inr (by rw [List.mem_singleton.mp w]; exact List.mem_cons_self)
        · exact .inr (List.mem_cons_of_mem _ w)
theorem Right.rt {es : List Ev} (h : Right es) : RtE es := by
  refine ⟨h.len, h.n3, ?_, (ordF_new es [] h.ord).1, h.gd⟩
  intro e he n hn
  rcases ordF_needs es [] h.ord e he n hn with w | w
  · cases w
  · cases q : plc es n with
    | some i =>
      obtain ⟨f, qf, _⟩ := plc_get q
      exact ⟨i, f, rfl, qf⟩
    | none =>
      obtain ⟨f, hf, fn⟩ := List.mem_map.mp w
      have := List.findIdx?_eq_none_iff.mp q f hf
      simp [fn] at this
theorem kinded_names (es : List Ev) (n k : Str) : (kinded es n k).map Ev.name = es.map Ev.name := by
  unfold kinded
  rw [List.map_map]
  exact List.map_congr_left fun e _ => kd1_name n k e
theorem kinded_get {es : List Ev} {n k : Str} {i : Nat} {e : Ev} (q : es[i]? = some e) : (kinded es n k)[i]? = some (kd1 n k e) := by
  unfold kinded
  rw [List.getElem?_map, q]
  rfl
theorem plc_kinded (es : List Ev) (n k m : Str) : plc (kinded es n k) m = plc es m := by
  unfold plc kinded
  rw [List.findIdx?_map]
  congr 1
  funext e
  show ((kd1 n k e).name == m) = (e.name == m)
  rw [kd1_name]
theorem RtE.kinded {es : List Ev} (h : RtE es) {n k : Str} (hk : k = "query" ∨ k = "action") : RtE (kinded es n k) := by
  refine ⟨by unfold K01.kinded; rw [List.length_map]; exact h.len, ?_, ?_, by rw [kinded_names]; exact h.nd, ?_⟩
  · intro e he
    obtain ⟨f, hf, rfl⟩ := List.mem_map.mp he
    rw [kd1_needs]
    exact h.n3 f hf
  · intro e he m hm
    obtain ⟨f, hf, rfl⟩ := List.mem_map.mp he
    rw [kd1_needs] at hm
    obtain ⟨i, g, q1, q2⟩ := h.cl f hf m hm
    exact ⟨i, _, by rw [plc_kinded]; exact q1, kinded_get q2⟩
  · intro e he
    obtain ⟨f, hf, rfl⟩ := List.mem_map.mp he
    have g := h.gd f hf
    refine ⟨by rw [kd1_name]; exact g.nm, by rw [kd1_fin]; exact g.lo, by rw [kd1_fin]; exact g.hi, ?_⟩
    unfold kd1
    split
    · exact hk
    · exact g.kd
theorem kinded_self {es : List Ev} (h : RtE es) {i : Nat} {e : Ev} (q : es[i]? = some e) : kinded es e.name e.kind = es := by
  unfold kinded
  have : ∀ f ∈ es, kd1 e.name e.kind f = id f := by
    intro f hf
    unfold kd1
    split
    · rename_i c
      obtain ⟨j, hj, ej⟩ := List.mem_iff_getElem.mp hf
      have qj : es[j]? = some f := by rw [List.getElem?_eq_getElem hj, ej]
      have e1 := h.plc qj
      have e2 := h.plc q
      rw [c, e2] at e1
      cases Option.some.inj e1
      rw [q] at qj
      cases Option.some.inj qj
      rfl
    · rfl
  rw [List.map_congr_left this, List.map_id]
theorem kinded_ne {es : List Ev} {i : Nat} {e : Ev} {k : Str} (q : es[i]? = some e) (hk : e.kind ≠ k) : ¬ (kinded es e.name k = es) := by
  intro z
  have e1 := kinded_get (n := e.name) (k := k) q
  rw [z, q] at e1
  have e2 := Option.some.inj e1
  unfold kd1 at e2
  rw [if_pos rfl] at e2
  exact hk (congrArg Ev.kind e2)
section
variable {P : Program} {w : World} {K : PySem.W.Frag} {mg : Str → Option Value} {base : Heap}
theorem mk_order {H : Hp} {p : Addr} {as : List Addr} {evs : List Ev} {Q : VK} {E : XK} (hp : SqL K H p (as.map V.ref) ∨ SqT K H p (as.map V.ref)) (hev : EvsAt K H as evs) (hg : ∀ e ∈ evs, Good e) (hl : evs.length ≤ 12)
    (h : match ordF [] evs with
      | none => ∀ a H', Ext H H' → OrdAt K H' a evs → Q (.ref a) H'
      | some (wh, nm) => ∀ (d : Addr) H', Ext H H' → ErrO H' d wh nm → E (.ref (He.ga K "BadOrder")) (some d) H') :
    ∀ x dx, H x = none → H dx = none → dx ≠ x → spOrdI K (.ref x :: ([V.ref p] ++ [])) (upd (upd H dx (.own x)) x (.ins (He.ga K "Order") dx [])) (fun v H2 => v = .non ∧ Q (.ref x) H2) E := by
  intro x dx hx hdx hne
  have e1 : Ext H (upd (upd H dx (.own x)) x (.ins (He.ga K "Order") dx [])) := by
    intro b o hb
    rw [upd_ne (ne_of_none hb hx), upd_ne (ne_of_none hb hdx)]
    exact hb
  have e2 : ∀ H', Off x (upd (upd H dx (.own x)) x (.ins (He.ga K "Order") dx [])) H' → Ext H H' := fun H' off b o hb => off b o (ne_of_none hb hx) (e1 _ _ hb)
  refine ⟨x, dx, p, as, evs, rfl, upd_same, hp.elim (fun q => .inl (q.ext e1)) (fun q => .inr (q.ext e1)), hev.ext e1, hg, hl, ?_⟩
  cases q : ordF [] evs with
  | none =>
    rw [q] at h
    exact fun H' off ho => ⟨rfl, h x H' (e2 H' off) ho⟩
  | some ab =>
    obtain ⟨wh, nm⟩ := ab
    rw [q] at h
    exact fun d H' off he => h d H' (e2 H' off) he
def rListOf (K : PySem.W.Frag) : List V → Hp → VK → Prop := fun xs H Q => ∃ p ys, xs = [.ref p] ∧ (SqL K H p ys ∨ SqT K H p ys) ∧ ∀ l, H l = none → Q (.ref l) (upd H l (.lst ys))
def spLaw (K : PySem.W.Frag) (Tb : Addr) : Sp := fun vs H Q _ => ∃ (a : Addr) (ns : List Int), vs = [.ref a] ∧ SqL K H a (ns.map V.int) ∧ ns.length ≤ 63 ∧ H Tb = some (.tbl #[]) ∧ ∀ H', Q (.bl true) H'
def oth (k : Str) : Str := if k = "action" then "query" else "action"
theorem oth_kd (k : Str) : oth k = "query" ∨ oth k = "action" := by
  unfold oth
  split
  · exact .inl rfl
  · exact .inr rfl
theorem oth_ne {k : Str} : k ≠ oth k := by
  unfold oth
  split
  · rename_i c
    rw [c]
    decide
  · assumption
def tOth (K : PySem.W.Frag) : TE := fun σ H Q => ∃ (T1 : Addr) (v0 v1 v3 : V) (k : Str), σ[4]? = some (some (.ref T1)) ∧ SqT K H T1 [v0, v1, .str k, v3] ∧ Q (.str (oth k)) H
theorem oth_imp {K : PySem.W.Frag} : ∀ (σ : L2.St) (H : Hp) (Q : VK), tOth K σ H Q → (tIf (tTest (tOp rEq (tOp (rIxT K) (tVar 4) (tC (.int 2))) (tC (.str "action")))) (tC (.str "query")) (tC (.str "action"))) σ H Q := by
  rintro σ H Q ⟨T1, v0, v1, v3, k, hσ, hs, h⟩
  refine ⟨_, hσ, T1, _, _, _, rfl, rfl, hs, atI_nat (j := 2) rfl, rfl, _, rfl, ?_⟩
  unfold oth at h
  by_cases c : k = "action"
  · rw [if_pos c] at h
    refine iteTd (decide_eq_true (by rw [c])) ?_
    exact h
  · rw [if_neg c] at h
    refine iteFd (fun z => c (V.str.inj z)) ?_
    exact h
theorem EvsZ.neT {K : PySem.W.Frag} {H H' : Hp} {l x : Addr} {Ts : List Addr} {es : List Ev} {ps : Array Value} (h : EvsZ K H l Ts es) (hx : H x = some (.tbl ps)) (o : Off x H H') : EvsZ K H' l Ts es :=
  ⟨sqL_ne h.1 hx (fun _ z => by cases z) (fun _ _ z => by cases z) o, h.2.1, fun i T e a b => let ⟨u, h1, h2⟩ := h.2.2 i T e a b; ⟨u, sqT_ne h1 hx (fun _ z => by cases z) (fun _ _ z => by cases z) o, h2.ne hx (fun _ _ z => by cases z) o⟩⟩
def clsL (K : PySem.W.Frag) : List Cl := [⟨.ref (He.ga K "BadOrder"), 8, fun a cls d => tIfS (tOr (tTest (tOp rNe (tXf a cls d (He.ga K "BadOrder") "what" (tVar 8)) (tC (.str "kind")))) (tTest (tOp rNe (tXf a cls d (He.ga K "BadOrder") "name" (tVar 8)) (tOp (rIxT K) (tVar 4) (tC (.int 0)))))) (tRet (tC (.bl false))) tNext⟩]
def tTryL (K : PySem.W.Frag) : TS := fun D σ H => tSeq (tDrop (tMethW (He.ga K "Order") "as_kind" (spKind K) (fun σ => WE (wCls K (fun _ _ _ _ => False) D (clsL K)) σ) (tVar 3) (tCons (tOp (rIxT K) (tVar 4) (tC (.int 0))) (tCons (tC (.str "queries")) tNil)))) (tRet (tC (.bl false))) D σ H
theorem ok_law (T : Tx w K mg) {Tb : Addr} (TB : LamX.TabB base mg (He.cT K ("_law_unknown", none)).1 Tb) {fd : FuncData} (F : FunD K "law" "law" (defArgs s_law) (defBody s_law) (defScope s_law) (d_law.dvs K) [] (He.fAd K d_law.at_) fd) : FnOk P w K mg base CX0 10 (He.fAd K d_law.at_) fd ["script"] (spLaw K Tb) := by
  obtain ⟨fdE, FE, bE⟩ := ok_OrdEqB (P := P) (base := base) T
  have nd := sc_law.nd
  refine F.ok sc_law (fun vs H Q E h => ?_) (fun cdv A outer s H vs Q E hr h => ⟨_, PSs.nox (pss_cons
    (ps_set (i := 1) nd rfl (Or.inl rfl) (pe_dn ((ok_bag T).mono (by decide)) hr rfl pass0 (pa_cons (pv 0) pa_nil))) (pss_cons
    (ps_set (i := 2) nd rfl (Or.inl rfl) (pe_dn ((ok_evs T).mono (by decide)) hr rfl pass0 (pa_cons (pv 1) pa_nil))) (pss_cons
    (ps_set (i := 3) nd rfl (Or.inl rfl) (pe_dc (E := fun _ _ _ => False) ((ok_OrdI T).mono (by decide : 4 ≤ 8)) hr rfl passF (pa_cons
      (pe_lc (own := [("name", 9), ("end", 10), ("kind", 11), ("needs", 12)]) (g := gTup K 4 (gCons (gName 9) (gCons (gName 10) (gCons (gName 11) (gCons (gName 12) gNil))))) (tt := tYes) (te := tMake (He.ga K "Event") (spEvJ K) [] E0 (tCons (tVar 9) (tCons (tVar 10) (tCons (tVar 11) (tCons (tCB (rListOf K) (tCons (tVar 12) tNil)) tNil))))) (by rfl) nd (pi_list (pv 2))
        (blkOk_by (own := [("name", 9), ("end", 10), ("kind", 11), ("needs", 12)]) (N := n_law) (sc := defScope s_law) (by decide +kernel))
        (fun _ _ _ _ _ => pg_tup (by rfl) (pgs_cons (pg_name (i := 9) nd rfl (Or.inl rfl)) (pgs_cons (pg_name (i := 10) nd rfl (Or.inl rfl)) (pgs_cons (pg_name (i := 11) nd rfl (Or.inl rfl)) (pgs_cons (pg_name (i := 12) nd rfl (Or.inl rfl)) pgs_nil))))) (fun _ _ _ _ _ => pts_nil)
        (fun _ _ _ _ _ => pe_dc ((ok_EvJ T).mono (by decide : 1 ≤ 8)) hr rfl pass0 (pa_cons (pv 9) (pa_cons (pv 10) (pa_cons (pv 11) (pa_cons (pe_callTy call_list_of rfl T.b_list (by decide +kernel) (pa_cons (pv 12) pa_nil)) pa_nil)))))) pa_nil))) (pss_cons
    (ps_if (PW.pt (pw_or (pt_not (pt_val (pe_dn ((ok_right T).mono (by decide)) hr rfl pass0 (pa_cons (pv 2) (pa_cons (pv 3) pa_nil))))) (pw_or
      (pt_not (pt_val (pe_dn ((ok_keysR T).mono (by decide)) hr rfl pass0 (pa_cons (pv 1) (pa_cons (pv 2) (pa_cons (pv 3) pa_nil)))))) (pw_or1
      (pt_not (pt_val (pe_dn (ok_unknown T TB) hr rfl pass0 (pa_cons (pv 3) (pa_cons pe_str pa_nil)))))))))
      (pss_one (ps_ret pe_bl)) pss_nil) (pss_cons
    (ps_for PassesOwn.never rfl (pi_list (pv 2)) (pg_name (i := 4) nd rfl (Or.inr rfl)) (pss_cons
      (ps_set (i := 5) nd rfl (Or.inr rfl) (pe_imp (t' := tOth K) (pe_ifExp (pt_cmpR op_eq (pe_ix ix_tup (pv 4) pe_int (fun _ _ => rfl)) pe_str (nomark _)) pe_str pe_str) oth_imp)) (pss_cons
      (ps_setLc (i := 6) (own := [("one", 13)]) (g := gName 13) (tt := tYes) (te := tTup (tCons (tOp (rIxT K) (tVar 13) (tC (.int 0))) (tCons (tOp (rIxT K) (tVar 13) (tC (.int 1))) (tCons (tIf (tTest (tOp rEq (tOp (rIxT K) (tVar 13) (tC (.int 0))) (tOp (rIxT K) (tVar 4) (tC (.int 0))))) (tVar 5) (tOp (rIxT K) (tVar 13) (tC (.int 2)))) (tCons (tOp (rIxT K) (tVar 13) (tC (.int 3))) tNil))))) (by rfl) nd rfl rfl (sw_true rfl rfl rfl (by decide +kernel)) (pi_list (pv 2))
        (blkOk_by (own := [("one", 13)]) (N := n_law) (sc := defScope s_law) (by decide +kernel)) (fun _ _ _ _ _ => pg_name (i := 13) nd rfl (Or.inl rfl)) (fun _ _ _ _ _ => pts_nil)
        (fun _ _ _ _ _ => pe_tup (pa_cons (pe_ix ix_tup (pv 13) pe_int (fun _ _ => rfl)) (pa_cons (pe_ix ix_tup (pv 13) pe_int (fun _ _ => rfl)) (pa_cons
          (pe_ifExp (pt_cmpR op_eq (pe_ix ix_tup (pv 13) pe_int (fun _ _ => rfl)) (pe_ix ix_tup (pv 4) pe_int (fun _ _ => rfl)) (nomark _)) (pv 5) (pe_ix ix_tup (pv 13) pe_int (fun _ _ => rfl))) (pa_cons (pe_ix ix_tup (pv 13) pe_int (fun _ _ => rfl)) pa_nil)))))) (pss_cons
      (ps_set (i := 7) nd rfl (Or.inl rfl) (pe_dm (E := fun _ _ _ => False) ((ok_kind T).mono (by decide)) (pv 3) T.c_Order hr passF (pa_cons (pe_ix ix_tup (pv 4) pe_int (fun _ _ => rfl)) (pa_cons (pv 5) pa_nil)))) (pss_cons
      (ps_if (PW.pt (pw_or (pt_not (pt_val (pe_dn ((ok_right T).mono (by decide)) hr rfl pass0 (pa_cons (pv 6) (pa_cons (pv 7) pa_nil))))) (pw_or
        (pt_cmpR (op_ownEq (E := E0) FE bE pass0 (hr.mono (by decide)) (eqc_of T.ne_Order T.m_Order_eq)) (pv 7) (pv 3) (nomark _)) (pw_or1
        (pt_cmpR (op_ownNe (E := E0) FE bE pass0 (hr.mono (by decide)) (eqc_of T.ne_Order T.m_Order_eq)) (pe_dm (E := fun _ _ _ => False) ((ok_kind T).mono (by decide)) (pv 3) T.c_Order hr passF (pa_cons (pe_ix ix_tup (pv 4) pe_int (fun _ _ => rfl)) (pa_cons (pe_ix ix_tup (pv 4) pe_int (fun _ _ => rfl)) pa_nil))) (pv 3) (nomark _))))))
        (pss_one (ps_ret pe_bl)) pss_nil)
      (pss_one (show PS _ _ (tTryL K) from ps_try_cls (l := clsL K) rfl rfl nd takes0
        (fun W pn xe tk _ => pss_cons (ps_expr (pe_dmW (E := fun σ => WE W σ) ((ok_kind T).mono (by decide)) (pv 3) T.c_Order hr (fun σ => passAt tk σ) (pa_cons (pe_ix ix_tup (pv 4) pe_int (fun _ _ => rfl)) (pa_cons pe_str pa_nil)))) (pss_one (ps_ret pe_bl)))
        (ClsOk.cons ⟨rfl, by decide, .inl T.g_BadOrder⟩ rfl rfl (fun a oe cls d pn hz hf => pss_one (ps_if (PW.pt (pw_or
            (pt_cmpR op_ne (pe_xf T.xf_BadOrder (show PySem.W.findIn K (.ref (He.ga K "BadOrder")) "what" = some none from T.n_BadOrder_what) hz hf (pv 8)) pe_str (nomark _)) (pw_or1
            (pt_cmpR op_ne (pe_xf T.xf_BadOrder (show PySem.W.findIn K (.ref (He.ga K "BadOrder")) "name" = some none from T.n_BadOrder_name) hz hf (pv 8)) (pe_ix ix_tup (pv 4) pe_int (fun _ _ => rfl)) (nomark _))))) (pss_one (ps_ret pe_bl)) pss_nil)) ClsOk.nil)))))))) 
    (pss_one (ps_ret (pe_dn ((ok_right T).mono (by decide)) hr rfl pass0 (pa_cons (pv 2) (pa_cons (pv 3) pa_nil)))))))))), ?_⟩)
  · obtain ⟨a, ns, rfl, _⟩ := h
    rfl
  · obtain ⟨sa, ns, rfl, hs, hn, hTb, h⟩ := h
    refine ⟨_, rfl, sa, ns, rfl, hs, hn, fun b c ms H1 x1 hb0 hB => ?_⟩
    refine ⟨_, rfl, b, c, ms, 0, rfl, hB, by decide, fun l Ts es H2 hlb hlc o2 hl2 hT2 hRt hB2 => ?_⟩
    obtain ⟨_, _, hb1, hc1, _⟩ := id hB
    have hTb1 := x1 _ _ hTb
    have hTbb : Tb ≠ b := fun z => by rw [z, hb1] at hTb1; cases hTb1
    have hTb2 := o2 _ _ hTbb hTb1
    have hz2 : EvsZ K H2 l Ts es := ⟨SqL.of hl2, (hT2.ext ext_del).ext ext_del⟩
    have hR := hRt.rt
    have hlen := hz2.2.1
    have hel := hR.len
    clear hT2
    refine ⟨_, rfl, l, rfl, ⟨_, hz2.1⟩, fun D hD => ?_⟩
    refine lc_acc (walk_list (K := K) (xs := Ts.map V.ref)) hD (fun i acc B => Ext H2 B ∧ ∃ as, acc = as.map V.ref ∧ EvsAt K B as (es.take i)) ⟨Ext.rfl', [], rfl, rfl, fun i a e h1 _ => by cases h1⟩ (fun i acc H4 _ _ q => hz2.1.ext fun b o hb => ext_del _ _ (q.1 b o hb)) ?_ ?_
    · rintro i y H4 H' acc hi hacc hl2' ⟨xB, as, ea, hA⟩ ⟨eH, hy⟩
      subst eH
      rw [List.length_map] at hi
      rw [List.getElem?_map] at hy
      cases qT : Ts[i]? with
      | none => rw [qT] at hy; cases hy
      | some T1 =>
        rw [qT] at hy
        cases Option.some.inj hy
        have x4 : Ext H2 H' := fun b o hb => ext_del _ _ (xB b o hb)
        obtain ⟨e, qe, u, g1, g2⟩ := (hz2.ext x4).at qT
        have htk : es.take (i + 1) = es.take i ++ [e] := by rw [List.take_add_one, qe]; rfl
        have hn3 := hR.n3 e (List.mem_of_getElem? qe)
        refine ⟨T1, _, rfl, g1, rfl, ?_⟩
        refine ⟨_, _, rfl, _, _, rfl, _, _, rfl, _, _, rfl, rfl, rfl, ?_⟩
        refine yes_go (iteT ?_)
        refine ⟨_, rfl, _, rfl, _, rfl, _, rfl, u, _, rfl, .inr g2.sq, fun q hq => ?_⟩
        have xq : Ext H' (upd H' q (.lst (e.needs.map V.str))) := Ext.upd hq
        intro y dy hy hdy hne
        have xy : Ext (upd H' q (.lst (e.needs.map V.str))) (upd (upd (upd H' q (.lst (e.needs.map V.str))) dy (.own y)) y (.ins (He.ga K "Event") dy [])) := fun b o hb => by
          rw [upd_ne (ne_of_none hb hy), upd_ne (ne_of_none hb hdy)]
          exact hb
        refine ⟨y, dy, q, e, rfl, upd_same, .inl (SqL.of (xy _ _ upd_same)), fun H5 off ev => ⟨rfl, ?_⟩⟩
        have hy0 : H' y = none := by
          cases z : H' y with
          | none => rfl
          | some o => rw [xq _ _ z] at hy; cases hy
        have x5 : Ext H' H5 := fun b o hb => off b o (ne_of_none hb hy0) (xy _ _ (xq _ _ hb))
        have hD5 := x5 _ _ hacc
        refine acc_add hD5 hl2' (small (by omega)) ⟨fun b o hb => ext_delD x5 _ _ (xB b o hb), as ++ [y], ?_, ?_⟩
        · rw [ea, List.map_append]
          rfl
        · rw [htk]
          exact (hA.ext (ext_delD x5)).snoc (ev.del hD5)
    rintro H4 acc hacc hl2' ⟨xB, as, ea, hA⟩
    rw [List.length_map, hlen, List.take_length] at hA
    rw [ea] at hacc
    intro a dxo ha0 hdx0 hneo
    have e1 : Ext H4 (upd (upd H4 dxo (.own a)) a (.ins (He.ga K "Order") dxo [])) := fun b o hb => by
      rw [upd_ne (ne_of_none hb ha0), upd_ne (ne_of_none hb hdx0)]
      exact hb
    refine ⟨a, dxo, D, as, es, rfl, upd_same, .inl (SqL.of (e1 _ _ hacc)), (hA.ext ext_del).ext e1, hRt.gd, by omega, ?_⟩
    rw [hRt.ord]
    intro H5 off5 ho
    have x45 : Ext H4 H5 := fun b o hb => off5 b o (ne_of_none hb ha0) (e1 _ _ hb)
    refine ⟨rfl, ?_⟩
    have x25 : Ext H2 H5 := Ext.trans (fun b o hb => ext_del _ _ (xB b o hb)) x45
    have hz5 := hz2.ext x25
    have hB5 := hB2.ext x25
    have hTb5 := x25 _ _ hTb2
    refine ⟨_, rfl, _, rfl, l, a, Ts, es, rfl, hz5, ho, hR, fun H6 x6 => ⟨_, rfl, ?_⟩⟩
    refine iteF ?_
    have hB6 := hB5.ext x6
    obtain ⟨_, _, hb6, _⟩ := id hB6
    refine ⟨_, rfl, _, rfl, _, rfl, b, c, l, a, Ts, es, ms, _, rfl, hB6, by omega, hlb, hz5.ext x6, ho.ext x6, hR, fun H7 o7 hB7 => ⟨_, rfl, ?_⟩⟩
    refine iteF ?_
    have hz7 := (hz5.ext x6).ne hlb hb6 o7
    have ho7 := (ho.ext x6).ne hb6 o7
    have hTb7 := o7 _ _ hTbb (x6 _ _ hTb5)
    have hpn : plc es "nobody" = none := plc_none fun e he z => hRt.no (List.mem_map.mpr ⟨e, he, z⟩)
    refine ⟨_, rfl, a, "nobody", es, rfl, ho7, hR, hRt.ord, hpn, LamX.TabS.nil hTb7, fun H8 o8 => ⟨_, rfl, ?_⟩⟩
    refine iteF ?_
    have hz8 := hz7.neT hTb7 o8
    have ho8 := ho7.neT hTb7 o8
    clear hz7 ho7 hz5 hz2 hb6 hB6 hB7 hB5 hacc
    obtain ⟨dx, t, as2, fs, h1, h2, h3, h4, nu, nh, nq, hno⟩ := id ho8
    refine ⟨_, rfl, l, rfl, ⟨_, hz8.1⟩, ?_⟩
    refine for_it (walk_list (K := K) (xs := Ts.map V.ref)) (fun i σ H' => ∃ s4 s5 s6 s7 : Option V, σ = [some (.ref sa), some (.ref b), some (.ref l), some (.ref a), s4, s5, s6, s7, none, none, none, none, none, none] ∧ Ext H8 H')
      ⟨none, none, none, none, rfl, Ext.rfl'⟩ (fun i σ H' _ ⟨_, _, _, _, _, x⟩ => (hz8.ext x).1) ?_ ?_
    · rintro i y σ H9 H9' hi ⟨s4, s5, s6, s7, rfl, x9⟩ ⟨eH, hy⟩
      subst eH
      rw [List.length_map] at hi
      rw [List.getElem?_map] at hy
      cases qT : Ts[i]? with
      | none => rw [qT] at hy; cases hy
      | some T1 =>
        rw [qT] at hy
        cases Option.some.inj hy
        obtain ⟨e, qe, u, g1, g2⟩ := (hz8.ext x9).at qT
        have he := List.mem_of_getElem? qe
        have hpl := hR.plc qe
        refine ⟨T1, _, _, _, e.kind, rfl, g1, ?_⟩
        refine ⟨_, rfl, l, rfl, ⟨_, (hz8.ext x9).1⟩, fun D2 hD2 => ?_⟩
        refine lc_acc (walk_list (K := K) (xs := Ts.map V.ref)) hD2 (fun j acc B => Ext H9' B ∧ ∃ Tc, acc = Tc.map V.ref ∧ TsT K B Tc ((kinded es e.name (oth e.kind)).take j)) ⟨Ext.rfl', [], rfl, TsT.nil⟩ (fun j acc H4 _ _ q => (hz8.ext (x9.trans fun b o hb => ext_del _ _ (q.1 b o hb))).1) ?_ ?_
        · rintro j y HA HA' acc hj hacc hl3 ⟨xB, Tc, ea, hT⟩ ⟨eH, hy⟩
          subst eH
          rw [List.length_map] at hj
          rw [List.getElem?_map] at hy
          cases qT2 : Ts[j]? with
          | none => rw [qT2] at hy; cases hy
          | some T2 =>
            rw [qT2] at hy
            cases Option.some.inj hy
            have xA : Ext H9' HA' := fun b o hb => ext_del _ _ (xB b o hb)
            obtain ⟨f, qf, v, m1, m2⟩ := (hz8.ext (x9.trans xA)).at qT2
            have g1A := g1.ext xA
            have htk : (kinded es e.name (oth e.kind)).take (j + 1) = (kinded es e.name (oth e.kind)).take j ++ [kd1 e.name (oth e.kind) f] := by rw [List.take_add_one, kinded_get qf]; rfl
            have fin : ∀ k : Str, k = (kd1 e.name (oth e.kind) f).kind → ∀ t, HA' t = none → ∃ acc, (upd HA' t (.tup [.str f.name, .int f.fin, .str k, .ref v])) D2 = some (.lst acc) ∧ acc.length < sizeLine ∧ Pacc (fun j acc B => Ext H9' B ∧ ∃ Tc, acc = Tc.map V.ref ∧ TsT K B Tc ((kinded es e.name (oth e.kind)).take j)) D2 (j + 1) (upd (upd HA' t (.tup [.str f.name, .int f.fin, .str k, .ref v])) D2 (.lst (acc ++ [.ref t]))) := by
              intro k hk t ht
              have xt : Ext HA' (upd HA' t (.tup [.str f.name, .int f.fin, .str k, .ref v])) := Ext.upd ht
              have htD : t ≠ D2 := (ne_of_none hacc ht).symm
              have hvD : v ≠ D2 := fun z => by
                obtain ⟨ob, m3, _⟩ := m2
                rw [z, hacc] at m3
                cases m3
              refine acc_add (xt _ _ hacc) hl3 (small (by omega)) ⟨fun b o hb => ext_delD xt _ _ (xB b o hb), Tc ++ [t], by rw [ea, List.map_append]; rfl, ?_⟩
              rw [htk]
              refine (hT.ext (ext_delD xt)).snoc ⟨v, ?_, ?_⟩
              · refine SqT.of ?_
                rw [del_ne htD, upd_same, kd1_name, kd1_fin, hk]
              · rw [kd1_needs]
                obtain ⟨ob, m3, m4⟩ := m2
                exact ⟨ob, by rw [del_ne hvD]; exact xt _ _ m3, m4⟩
            refine ⟨rfl, ?_⟩
            refine yes_go (iteT ?_)
            refine ⟨_, rfl, T2, _, _, _, rfl, rfl, m1, atI_nat (j := 0) rfl, _, rfl, T2, _, _, _, rfl, rfl, m1, atI_nat (j := 1) rfl, ?_⟩
            refine ⟨_, rfl, T2, _, _, _, rfl, rfl, m1, atI_nat (j := 0) rfl, _, rfl, T1, _, _, _, rfl, rfl, g1A, atI_nat (j := 0) rfl, rfl, _, rfl, ?_⟩
            by_cases cc : f.name = e.name
            · refine iteTd (decide_eq_true (by rw [cc])) ?_
              refine ⟨_, rfl, _, rfl, T2, _, _, _, rfl, rfl, m1, atI_nat (j := 3) rfl, by show 4 ≤ sizeLine; decide, fun t ht => ?_⟩
              exact fin _ (by unfold kd1; rw [if_pos cc]) t ht
            · refine iteFd (fun z => cc (V.str.inj z)) ?_
              refine ⟨_, rfl, T2, _, _, _, rfl, rfl, m1, atI_nat (j := 2) rfl, _, rfl, T2, _, _, _, rfl, rfl, m1, atI_nat (j := 3) rfl, by show 4 ≤ sizeLine; decide, fun t ht => ?_⟩
              exact fin _ (by unfold kd1; rw [if_neg cc]) t ht
        · rintro HA acc hacc hl3 ⟨xB, Tc, ea, hT⟩
          rw [List.length_map, hlen, List.take_of_length_le (by unfold kinded; rw [List.length_map]; exact Nat.le_refl _)] at hT
          rw [ea] at hacc
          have xA : Ext H9' HA := fun b o hb => ext_del _ _ (xB b o hb)
          have x8A := x9.trans xA
          have hzc : EvsZ K HA D2 Tc (kinded es e.name (oth e.kind)) := ⟨SqL.of hacc, hT.ext ext_del⟩
          have hRk := hR.kinded (n := e.name) (oth_kd e.kind)
          -- beside
          refine ⟨_, rfl, a, dx, fs, rfl, x8A _ _ h1, hno _ (by decide) (by decide), _, rfl, T1, _, _, _, rfl, rfl, g1.ext xA, atI_nat (j := 0) rfl, _, rfl, a, e.name, oth e.kind, es, rfl, ho8.ext x8A, by omega, hR.gd, hRt.ord, ?_⟩
          rw [hpl]
          show if oth e.kind = "query" ∨ oth e.kind = "action" then _ else _
          rw [if_pos (oth_kd _)]
          intro b2 HB xB2 hb2
          refine ⟨_, rfl, _, rfl, D2, b2, Tc, _, rfl, hzc.ext xB2, hb2, hRk, fun HC xC => ⟨_, rfl, ?_⟩⟩
          refine iteF ?_
          have x8C := x8A.trans (xB2.trans xC)
          have hoC := ho8.ext x8C
          have hbC := hb2.ext xC
          obtain ⟨dy, ty, asy, gs, q1, _⟩ := id hbC
          have hne : ordEq (kinded es e.name (oth e.kind)) es = false := by
            cases z : ordEq (kinded es e.name (oth e.kind)) es with
            | false => rfl
            | true => exact absurd (ordEq_iff.mp z) (kinded_ne qe oth_ne)
          refine ⟨_, rfl, _, rfl, b2, a, _, _, _, _, _, rfl, rfl, q1, x8C _ _ h1, by simp [PySem.W.notFirst], b2, a, false, rfl, ⟨_, _, hbC, hoC, hne.symm⟩, fun HD xD => ⟨_, rfl, _, rfl, ?_⟩⟩
          refine iteF ?_
          have x8D := x8C.trans xD
          have xAD := xB2.trans (xC.trans xD)
          have g1D := (g1.ext xA).ext xAD
          refine ⟨_, rfl, a, dx, fs, rfl, x8D _ _ h1, hno _ (by decide) (by decide), _, rfl, T1, _, _, _, rfl, rfl, g1D, atI_nat (j := 0) rfl, _, rfl, T1, _, _, _, rfl, rfl, g1D, atI_nat (j := 2) rfl, a, e.name, e.kind, es, rfl, ho8.ext x8D, by omega, hR.gd, hRt.ord, ?_⟩
          rw [hpl]
          show if e.kind = "query" ∨ e.kind = "action" then _ else _
          rw [if_pos (hR.gd e he).kd]
          intro b3 HE xE hb3
          rw [kinded_self hR qe] at hb3
          have x8E := x8D.trans xE
          have hoE := ho8.ext x8E
          obtain ⟨dy3, ty3, asy3, gs3, q3, _⟩ := id hb3
          refine ⟨_, rfl, b3, a, _, _, _, _, _, rfl, rfl, q3, x8E _ _ h1, by simp [PySem.W.notFirst], b3, a, true, rfl, ⟨_, _, hb3, hoE, (ordEq_iff.mpr rfl).symm⟩, fun HF xF => ⟨_, rfl, _, rfl, ?_⟩⟩
          refine iteF ?_
          have x8F := x8E.trans xF
          have g1F := (g1D.ext xE).ext xF
          -- no kind
          refine ⟨_, rfl, a, dx, fs, rfl, x8F _ _ h1, hno _ (by decide) (by decide), _, rfl, T1, _, _, _, rfl, rfl, g1F, atI_nat (j := 0) rfl, a, e.name, "queries", es, rfl, ho8.ext x8F, by omega, hR.gd, hRt.ord, ?_⟩
          rw [hpl]
          show if ("queries" : Str) = "query" ∨ ("queries" : Str) = "action" then _ else _
          rw [if_neg (by decide +kernel)]
          intro d HG xG hd
          obtain ⟨tt, hd⟩ := hd
          refine ⟨true, T.x_BadOrder_BadOrder, fun _ ax hax => ?_, fun z => nomatch z⟩
          refine ⟨_, rfl, rfl, rfl, d, _, _, rfl, hd, rfl, rfl, _, rfl, ?_⟩
          refine iteFd' (by show (!decide (V.str "kind" = V.str "kind")) = false; rw [decide_eq_true rfl]; rfl) ?_
          refine ⟨_, rfl, rfl, rfl, d, _, _, rfl, hd, rfl, _, rfl, T1, _, _, _, rfl, rfl, g1F.ext xG, atI_nat (j := 0) rfl, rfl, _, rfl, ?_⟩
          refine iteFd' (by show (!decide (V.str e.name = V.str e.name)) = false; rw [decide_eq_true rfl]; rfl) ?_
          exact ⟨_, _, _, _, rfl, x8F.trans xG⟩
    · rintro σ H9 ⟨s4, s5, s6, s7, rfl, x9⟩
      exact ⟨_, rfl, _, rfl, l, a, Ts, es, rfl, hz8.ext x9, ho8.ext x9, hR, fun HA xA => h HA⟩
end
end K01
set_option maxHeartbeats 1000000
/-! A head that also tells of the empty code tables of some defs. -/
namespace Ax
open PySem PySem.Spec PyProof.Rows L2 He
def tabB (g : Addr → Option Obj) (K : PySem.W.Frag) (p : Str × Option Str) : Bool := PySem.W.codeHdIn K (cT K p).1 (cT K p).2 && (match g (cT K p).2 with
  | some o => emptyTab o
  | none => false)
def TabAt (h : Heap) (K : PySem.W.Frag) (p : Str × Option Str) : Prop := PySem.W.codeHdIn K (cT K p).1 (cT K p).2 = true ∧ K.lookup (cT K p).2 = none ∧ h.get? (cT K p).2 = some { cls := Value.none, data := Data.fields #[] }
theorem tabB_ok {h : Heap} {as : List Addr} {p : Str × Option Str} (e : tabB h.get? (frT h.get? as) p = true) : TabAt h (frT h.get? as) p := by
  obtain ⟨h1, h2⟩ := Bool.and_eq_true_iff.mp e
  refine ⟨h1, ?_⟩
  cases q : h.get? (cT (frT h.get? as) p).2 with
  | none => rw [q] at h2; cases h2
  | some o =>
    rw [q] at h2
    exact ⟨frT_none q h2, by rw [emptyTab_eq h2]⟩
abbrev AlT : Type := AlD × Bool × Bool × List FnW × Bool
def obsT (n : Nat) (fa : List Fa) (fn : List DefD) (ex : PySem.W.Frag → Bool) (gs : Gs) (tf : List (Str × Option Str)) (g : Addr → Option Obj) : AlT :=
  (obsD fa fn (frT g (asY g n)), ex (frT g (asY g n)), getB (frT g (asY g n)) gs, getW (frT g (asY g n)) gs, tf.all (tabB g (frT g (asY g n))))
def hookT (n : Nat) (fa : List Fa) (fn : List DefD) (ex : PySem.W.Frag → Bool) (gs : Gs) (tf : List (Str × Option Str)) : PySem.W.Hook where
  α := AlT
  obs := fun s => obsT n fa fn ex gs tf s.heap.get?
  val := fun _ => (valD fn, true, true, getV gs, true)
  says := fun _ h => ∃ K : PySem.W.Frag, K.In h ∧ SaysP fa fn ex gs K ∧ ∀ p ∈ tf, TabAt h K p
  of := fun _ s e => ⟨frT s.heap.get? (asY s.heap.get? n), frT_in, ⟨congrArg (fun z : AlT => z.1) e, congrArg (fun z : AlT => z.2.1) e, congrArg (fun z : AlT => z.2.2.1) e, congrArg (fun z : AlT => z.2.2.2.1) e⟩,
    fun p hp => tabB_ok (List.all_eq_true.mp (congrArg (fun z : AlT => z.2.2.2.2) e) p hp)⟩
  keeps := fun _ _ _ ⟨K, hK, c, t⟩ k => ⟨K, PySem.W.Frag.In.keeps hK k, c, fun p hp => let ⟨a, b, d⟩ := t p hp; ⟨a, b, k _ _ d⟩⟩
theorem obsT_eq {n : Nat} {fa : List Fa} {fn : List DefD} {ex : PySem.W.Frag → Bool} {gs : Gs} {tf : List (Str × Option Str)} {g : Addr → Option Obj} {s : Shared} (h : ∀ a, g a = s.heap.get? a) : obsT n fa fn ex gs tf g = (hookT n fa fn ex gs tf).obs s := by
  have e : g = s.heap.get? := funext h
  rw [e] <;> rfl
end Ax
set_option maxHeartbeats 0
namespace K01
open PySem PySem.Spec PyProof.Rows L2
abbrev R : PySem.W.OpenRow := PySem.W.OpenLaw.row PySem.Challenge.rw_askedtrue_k01_whole_forebears_by_own_wal
def tf : List (Str × Option Str) := [(("_law_unknown" : Str), none)]
abbrev hk : PySem.W.Hook := Ax.hookT 5 fa fn exA gs tf
def ob (s : PySem.W.SharedT) : Ax.AlT := Ax.obsT 5 fa fn exA gs tf (HandSHeadRun.getT s)
theorem ob_eq (s : PySem.W.SharedT) : ob s = hk.obs s.abs := Ax.obsT_eq (HandSHeadRun.getT_eq s)
def loose : List Str := [("__name__" : Str), ("AskedError" : Str), ("BadOrder" : Str), ("LETTERS" : Str), ("SIGNS" : Str), ("KINDS" : Str), ("LONGEST_NAME" : Str), ("MOST_EVENTS" : Str), ("MOST_NEEDS" : Str), ("LAST_END" : Str), ("is_whole" : Str), ("is_between" : Str), ("is_name" : Str), ("Event" : Str), ("Order" : Str), ("event_fault" : Str), ("are_needs" : Str), ("_law_bag" : Str), ("_law_draw" : Str), ("_law_drawn_events" : Str), ("_law_event" : Str), ("_law_sorted" : Str), ("_law_loose" : Str), ("_law_chained" : Str), ("_law_behind" : Str), ("_law_right" : Str), ("_law_keys_right" : Str), ("_law_unknown" : Str)]
theorem run (w : World) : HandSHeadRun.RunEq R (PySem.W.view R.prog [30]) hk ob 3000 loose w := by
  intro os
  kernel_rfl
end K01
set_option maxHeartbeats 0
namespace K01
open PySem PySem.Spec PyProof.Rows L2 Ax
theorem facts {l : PySem.W.OpenLaw} {w : World} {h : Heap} {mg : Str → Option Value} {f : Addr} (G : h.Ns mainGlobals mg) (hfa : mg ("law" : Str) = some (.ref f)) (Y : ∃ K : PySem.W.Frag, K.In h ∧ Ax.SaysP fa fn exA gs K ∧ ∀ p ∈ tf, Ax.TabAt h K p) :
    ∃ K : PySem.W.Frag, K.In h ∧ LamX.LawAtS l w K CX0 10 63 "script" mg f h := by
  obtain ⟨K, KX, c, tb⟩ := Y
  have T : Tx w K mg := ⟨h, KX, G, c⟩
  have e := hfa.symm.trans T.g_law
  cases e
  obtain ⟨fd, F⟩ := T.f_law
  have b := FunD.bindsA (ps := ["script"]) F fun _ _ _ _ _ _ us hl => match us, hl with | [_], _ => rfl
  obtain ⟨t1, t2, t3⟩ := tb (("_law_unknown" : Str), none) List.mem_cons_self
  refine ⟨K, KX, fd, [He.cT K ("_law_unknown", none)], spLaw K (He.cT K ("_law_unknown", none)).2, ?_, ?_, ?_, fun s v => b s [v] rfl, ?_, fun base _ _ TB => ok_law T (TB _ List.mem_cons_self) F⟩
  · intro p hp
    rw [List.mem_singleton.mp hp]
    exact t3
  · intro p hp
    rw [List.mem_singleton.mp hp]
    exact t2
  · intro p hp
    rw [List.mem_singleton.mp hp]
    exact PySem.W.codeHd_of_K KX t1
  · intro H a ns hl _ hT hS
    exact ⟨a, ns, rfl, hS, hl, hT _ List.mem_cons_self, fun _ => rfl⟩
end K01
open PySem PySem.W PySem.Calls PyProof.Rows
theorem PySem.Challenge.cw_askedtrue_k01_whole_forebears_by_own_wal_holds : PySem.Challenge.rw_askedtrue_k01_whole_forebears_by_own_wal.Holds := by
  w_on; o_law
  refine HandSHeadRun.head_any (r := OpenLaw.row PySem.Challenge.rw_askedtrue_k01_whole_forebears_by_own_wal) (q := view (OpenLaw.row PySem.Challenge.rw_askedtrue_k01_whole_forebears_by_own_wal).prog [30]) (H := K01.hk) (ob := K01.ob) (M := 3000) (loose := K01.loose) (d := HandSHeadRun.topDef (OpenLaw.row PySem.Challenge.rw_askedtrue_k01_whole_forebears_by_own_wal).prog 30) (kwd := []) K01.ob_eq
    (by kernel_rfl) (fun s => by kernel_rfl) K01.run (by kernel_rfl) (by kernel_rfl) (by kernel_rfl) (by rfl) (by first | assumption | decide +kernel) (by decide +kernel) ⟨rfl, rfl, rfl, rfl, rfl, by decide +kernel⟩ ?hw ?hc
  case hw => w_witness2
  case hc =>
    refine LamX.walk_ofTsE (l := PySem.Challenge.rw_askedtrue_k01_whole_forebears_by_own_wal) (n := 63) (k := 10) (x := "script") (CX := fun _ => L2.CX0) rfl (by decide) (by kernel_rfl) ⟨rfl, by decide, by decide⟩ ?F (fun _ _ _ _ _ z => z)
    intro w mg fa h Y G hmg0
    have hmg : mg ("law" : PySem.Str) = some (.ref fa) := by
      have e : (HandSHeadRun.topDef (OpenLaw.row PySem.Challenge.rw_askedtrue_k01_whole_forebears_by_own_wal).prog 30).name = ("law" : PySem.Str) := by kernel_rfl
      rw [← e]
      exact hmg0
    exact K01.facts G hmg Y
