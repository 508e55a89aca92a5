import PyProof.Rows.All
import Wide.All
import OpenK.AllK
import Wide.FinOn
import KE.KExcSuper
import HandS.ForMost
import HandS.Exc
import HandS.ExcInit
import HandS.Nested
import HandS.FStr
import HandS.ExcField
import HandS.IsInst
import HandS.Property
import KE.KExcIs
import HandS.Defaults
import HandS.Wide
import HandS.TupAny
import HandS.Evl
import HandS.Text
import KE.DataEq
import HandS.Walk
import KE.GoesEnum
import KE.GoesMore
import HandS.HotCalls
import HandS.Star
import HandS.ClsMeth
import HandS.WordsExc
import HandS.ExcOwn
import HandS.CallLocal
import PySem.Challenge.RW_handrounds_k03_invalid_rounds
set_option Elab.async false
set_option linter.all false
set_option maxRecDepth 100000
set_option maxHeartbeats 4000000
namespace Hr
open PySem PySem.Spec PyProof.Rows L2

/-! ### a body at a known activation (for super()) -/
structure PSsAt (X : Cx) (body st : List Stmt) (t : TS) : Prop where
  run : ∀ (pins : List (Addr × Obj)) (s : Shared) (σ : L2.St) (H : Hp) (D : Ends), Inv X pins σ H s → t D σ H →
    _root_.PySem.wpAt (model X.prog X.w) X.A (.func body X.env) (execs st X.env) (SP X pins D) X.xe s
theorem PSsAt.of {X : Cx} {body st : List Stmt} {t : TS} (h : PSs X st t) : PSsAt X body st t :=
  ⟨fun pins s σ H D I q => wpAt_of_wpAny (h.run pins s σ H D I q)⟩

/-- the words of a method that closes over __class__ -/
abbrev nfS (name qual : Str) (params : Arguments) (body : List Stmt) (scope : Scope) (cc cda : Addr) : NdefX.NF := ⟨name, qual, params, body, scope, [("__class__", cc)], cda⟩

theorem fnS_of {CX : CXT} {P : Program} {w : World} {K : PySem.W.Frag} {mg : Str → Option Value} {base : Heap} {k : Nat} {f cc cda D : Addr} {name qual : Str} {params : Arguments} {body : List Stmt} {scope : Scope} {dV kV doc pm ct oc cl : Value} {an od cld : Option Addr}
    {osl csl : Array (Option Value)} {N ps : List Str} {sp : Sp} (lk : K.lookup f = some ⟨oc, od, .func (PySem.W.ksFn name qual params body scope dV kV doc pm an (.ref cda) ct cc), osl⟩) (hcd : PySem.W.codeIn K (.ref cda) qual = true)
    (hcell : K.lookup cc = some ⟨cl, cld, .cell (some (.ref D)), csl⟩) (S : NdefX.NScope N ps ["__class__"] scope)
    (len : ∀ vs H Q E, sp vs H Q E → vs.length = ps.length)
    (hbody : ∀ (A : Around) (outer : List Env) (s : Shared) (H : Hp) (vs : List V) (Q : VK) (E : XK), Room k (A.deeper (NdefX.envF (nfS name qual params body scope cc cda) f s.heap.objs.size)) → sp vs H Q E →
      ∃ t, PSsAt (NdefX.ncx CX P w K mg base N (nfS name qual params body scope cc cda) f A outer s H E) body body t ∧ t { nx := fun _ H' => Q .non H', rt := Q } (NdefX.startF N vs [some (.ref D)]) H) :
    FnOk P w K mg base CX (k + 1) f (PySem.W.ksFn name qual params body scope dV kV doc pm an (.ref cda) ct cc) ps sp := by
  refine ⟨len, fun A outer s H args us vs Q E hr e0 hb r hsp => ?_⟩
  have hl := len _ _ _ _ hsp
  have KX : K.In s.heap := e0.mod.kin.keeps fun b o e => (e0.bs b o e).1
  have lim : s.heap.NoLimit := e0.mod.nolimit.keeps fun b o e => (e0.bs b o e).1
  have hloc : ∀ y ∈ ps.zip us, scope.names.lookup y.1 = some .local := fun ⟨n, v⟩ hy => S.par n (List.of_mem_zip hy).1
  refine ks_codeAny_call_defAt (fd := PySem.W.ksFn name qual params body scope dV kV doc pm an (.ref cda) ct cc) (body := body) (binds := ps.zip us) hr.depth (KX _ _ lk) rfl lim (PySem.W.codeRec_of KX hcd) rfl hb S.nocell hloc (fun h₁ hns kp => ?_) S.co S.gen S.kind
  obtain ⟨t, ht, hq⟩ := hbody A outer s H vs Q E (hr.deeper _) hsp
  have C : NdefX.CellsAt [("__class__", cc)] ["__class__"] [some (V.ref D)] s.heap H := by
    have e1 : base.get? cc = some _ := e0.mod.kin _ _ hcell
    have e2 := e0.bs _ _ e1
    refine ⟨rfl, fun y c e => ?_, fun x y c e1 e2 => ?_, fun i y e => ?_⟩
    · have ec : c = cc := by
        simp only [List.lookup] at e
        split at e
        · exact (Option.some.inj e).symm
        · cases e
      subst ec
      exact ⟨e2.2, _, _, e2.1, rfl⟩
    · have h1 : ∀ {z : Str}, List.lookup z [(("__class__" : Str), cc)] = some c → z = "__class__" := fun {z} e => by
        simp only [List.lookup] at e
        split at e
        · rename_i h
          exact beq_iff_eq.mp h
        · cases e
      rw [h1 e1, h1 e2]
    · cases i with
      | zero =>
        have ey : ("__class__" : Str) = y := Option.some.inj e
        subst ey
        refine ⟨cc, by simp [List.lookup], fun v ev => ?_⟩
        have ev' : V.ref D = v := Option.some.inj (Option.some.inj ev)
        subst ev'
        exact ⟨.ref D, rfl, _, e2.1, rfl⟩
      | succ i => simp at e
  have I := NdefX.inv_startN (CX := CX) (E := E) (f := f) (tk := s.toks + (ps.zip us).length) (F := nfS name qual params body scope cc cda) S hr.hd e0 hl r C hns kp
  refine ks_wpAt_mono (ht.run [] _ _ H _ I hq) (fun fl s' hs => ?_) fun e s' hs => hs
  have fin : ∀ {σ' : L2.St} {H' : Hp} {v : V} {u : Value}, Inv (NdefX.ncx CX P w K mg base N (nfS name qual params body scope cc cda) f A outer s H E) [] σ' H' s' → RelV v u → Q v H' → CE outer P w H s Q u s' :=
    fun {σ' H' v u} J rv q => ⟨v, H', J.os, J.bare, J.base, J.hok, rv, q⟩
  cases fl with
  | ret u =>
    obtain ⟨v, σ', H', J, rv, q⟩ := hs
    exact fin J rv q
  | next =>
    obtain ⟨σ', H', J, q⟩ := hs
    exact fin (v := V.non) (u := Value.none) J rfl q
  | brk =>
    obtain ⟨_, _, _, q⟩ := hs
    exact False.elim q
  | cont =>
    obtain ⟨_, _, _, q⟩ := hs
    exact False.elim q
end Hr

set_option maxHeartbeats 4000000
namespace Hr
open PySem PySem.Spec PyProof.Rows L2

/-- what the written part says of an error's __init__ at fI (class C, its cell cc, its code cda) -/
structure SupC (K : PySem.W.Frag) (mg : Str → Option Value) (prog : Program) (C fI cc cda : Addr) (ar : Str) : Prop where
  oex : OexC K C
  lk : ∃ oc od fd osl, K.lookup fI = some ⟨oc, od, .func fd, osl⟩ ∧ ∃ a : Arg, (fd.params.posonlyargs ++ fd.params.args).head? = some a ∧ a.arg = ar
  code : ∃ ccl cdd vs ccs file tf, K.lookup cda = some ⟨ccl, cdd, .fields vs, ccs⟩ ∧ vs[2]? = some (.str file tf) ∧ ((prog.main.file : Str) == file) = true
  cell : ∃ cl cld csl, K.lookup cc = some ⟨cl, cld, .cell (some (.ref C)), csl⟩
  cls : ∃ cd, PySem.W.clsIn K C = some cd
  mro : PySem.W.mroIn K C (.ref C) = some true
  sup : mg "super" = none
  top : (prog.main.scope.names.lookup ("super" : Str)).isSome = false
  opq : PySem.W.nsIn K cStatics "thirdparty.any" = some none
  ini : PySem.W.ks_superIn K C C "__init__" = some (some (.builtin "ValueError.__init__"))
  sub : PySem.W.subIn K (.ref C) (.type "ValueError") = some true

/-- call of the bound built-in __init__ -/
theorem call_mw {X : Cx} {pins : List (Addr × Obj)} {σ : L2.St} {H : Hp} {s : Shared} {a C u : Addr} {us : List Value} {Q : Value → Shared → Prop} {E : Value → Shared → Prop} (T : OexC X.K C) (I : Inv X pins σ H s) (e : H a = some (exo a C none))
    (hu : s.heap.get? u = some (PySem.W.kxs_mw "ValueError.__init__" a)) (hl : us.length ≤ sizeLine) (h : ∀ s', Inv X pins σ H s' → Q .none s') :
    wpAny (model X.prog X.w) X.A (call (.ref u) us) Q E s := by
  obtain ⟨nm, q, N, bs, bm, sn, sub, ab, col, dd, k0, k1, k2, k3, k5, hC, hbm⟩ := T.cls
  obtain ⟨t1, ho⟩ := exo_at I.hok e
  obtain ⟨hp, g, d, t, os⟩ := s
  have hCl := I.kIn _ _ hC
  refine wpAny_call (codeAny_of_tree ?_)
  show wpAny _ X.A.in1 (callAny (.ref u) ⟨us, []⟩) _ _ _
  simp only [callAny]
  refine wpAny_bind (wpAny_load hu ?_)
  simp only [PySem.W.kxs_mw, show (Value.type "method-wrapper" == Value.type "method" || Value.type "method-wrapper" == Value.type "builtin_function_or_method" || Value.type "method-wrapper" == Value.type "method-wrapper") = true by decide, if_true]
  refine PySem.W.KFB.if_so (by decide) ?_
  refine wpAny_bind (PySem.W.check_bound_init F.excBase_ValueError.toExcCallFacts hCl ho rfl ?_)
  refine wpAny_bind (wpAny_pure (wpAny_pure ?_))
  refine ⟨plainId_quiet F.excBase_ValueError.init.plain _, codeAny_builtin F.excBase_ValueError.initEntry ?_⟩
  refine PySem.W.exc_init_tree (cls := .ref C) (t0 := t1) (dv := none) (c2 := .none) (c3 := .none) (b4 := .bool false) ho hl ?_
  intro h' k hx _
  have J := I.write (t' := t) (x := a) (e := a) (o := exo a C none) (by rw [e]; exact True.intro) (.inl rfl) k ⟨_, hx⟩ (exo_ok hx)
  have eu : upd H a (exo a C none) = H := by
    funext b
    by_cases hb : b = a
    · rw [hb, upd_same, e]
    · rw [upd_ne hb]
  rw [eu] at J
  exact h _ J

/-- super().__init__(e, ..) -/
def tSup (C : Addr) (ta : TA) : TS := fun D σ H => ∃ a, σ[0]? = some (some (V.ref a)) ∧ H a = some (exo a C none) ∧ ta σ H fun vs H1 => vs.length ≤ 1000 ∧ H1 a = some (exo a C none) ∧ D.nx σ H1
theorem pssat_sup {X : Cx} {body rest : List Stmt} {C fI cc cda : Addr} {ar : Str} {e : Expr} {es : List Expr} {ta : TA} {t : TS} {p0 p1 p2 p3 p4 : Pos} {pl : Sem Bool} (T : SupC X.K X.mg X.prog C fI cc cda ar)
    (hks : X.env.kindOf "super" = some .globalImplicit) (hkc : X.env.kindOf "__class__" = some .free) (hka : X.env.kindOf ar = some .local) (hN : X.N[0]? = some ar) (hcl : X.env.cells.lookup ("__class__" : Str) = some cc)
    (hfu : X.env.func = some fI) (hco : X.env.code = .ref cda) (ha : PA X (e :: es) ta) (hr : PSsAt X body rest t) 
    (hi : interactive X.env = false)
    (hs : swapsWith (.Call (.Attribute (.Call (.Name "super" p0) [] [] p1) "__init__" p2) (e :: es) [] p3) none p4.line X.env = pure false := by rfl)
    (he : eval (.Call (.Attribute (.Call (.Name "super" p0) [] [] p1) "__init__" p2) (e :: es) [] p3) X.env = (do
      let ov ← attributeBase (.Call (.Name "super" p0) [] [] p1) "__init__" X.env (eval (.Call (.Name "super" p0) [] [] p1) X.env)
      standAt p2.atName
      let (f, first) ← holding [ov] (getMethod ov "__init__" pl)
      callWith p3 f first (backTo p3 (starEach (e :: es) X.env)) []) := by rfl)
    (hst : starEach (e :: es) X.env = (false, eval e X.env) :: starEach es X.env := by rfl) (hpl : (backTo p3 (starEach es X.env)).any (·.1) = false := by rfl) :
    PSsAt X body (.Expr (.Call (.Attribute (.Call (.Name "super" p0) [] [] p1) "__init__" p2) (e :: es) [] p3) p4 :: rest) (tSeq (tSup C ta) t) := by
  refine ⟨fun pins s σ H D I h => ?_⟩
  obtain ⟨a, h0, ea, h⟩ := h
  obtain ⟨oc, od, fd, osl, lk, arg, hp, hpa⟩ := T.lk
  obtain ⟨ccl, cdd, vs, ccs, file, tf, hcode, hvs, hfile⟩ := T.code
  obtain ⟨cl, cld, csl, hcell⟩ := T.cell
  obtain ⟨cd, hD⟩ := T.cls
  subst hpa
  have KX := I.kIn
  obtain ⟨oD, hD1, hD2⟩ : ∃ oD, s.heap.get? C = some oD ∧ oD.data = .cls cd := by
    unfold PySem.W.clsIn at hD
    split at hD
    · rename_i c d cd' sl ho
      cases hD
      exact ⟨_, KX _ _ ho, rfl⟩
    · cases hD
  obtain ⟨t1, ho⟩ := exo_at I.hok ea
  obtain ⟨m, hn, hlook⟩ := id I.loc
  obtain ⟨u, ru, hlk⟩ := hlook 0 _ _ hN h0 (.inl hka)
  obtain rfl : u = Value.ref a := ru
  have hm : m arg.arg = some (.ref a) := by
    rcases hlk with ⟨_, q⟩ | ⟨q, _⟩
    · exact q
    · rw [hka] at q
      rcases q with q | q <;> cases q
  have hT : PySem.W.InstAt s.heap a _ C none := ⟨ho, rfl, rfl, trivial⟩
  have hne : a ≠ C := PySem.W.ks_ne KX hT hD
  have hIn : PySem.W.Looks (model X.prog X.w) s.heap (isInstance (.ref a) (.type "ValueError")) true := hT.type.andThen (PySem.W.looks_subIn KX T.sub)
  obtain ⟨hh, g, d, tk, os⟩ := s
  refine ks_wpAt_execs_cons (ks_wpAt_Expr_any (ks_wpAt_MethodCall ?_ he) hi hs)
  refine ks_wpAt_super_base hks hkc (by decide) hfu (KX _ _ lk) rfl hp hco (KX _ _ hcode) rfl hvs hfile T.top ?_
  obtain ⟨mb, b1, b2⟩ := I.mod.blt
  refine PySem.W.ks_loadName_global I.ok.kind hks (Calls.loadGlobal_builtin (by rw [I.ok.glob]; exact I.mod.glob.keeps I.bk) T.sup (by rw [I.ok.blt]; exact b1.keeps I.bk) ((b2 "super" (by decide)).trans PyProof.Rows.Boot.«super») ⟨rfl, ?_⟩)
  refine wpAny_loadName_free I.ok.kind hkc hcl ⟨_, KX _ _ hcell, rfl⟩ ?_
  refine wpAny_loadName_local I.ok.kind hka hn hm ?_
  refine ks_wpAny_isType_cls hD1 hD2 ⟨rfl, ?_⟩
  refine ks_wpAny_call_super hD1 hD2 ho rfl (fun c e => by cases e) (PySem.W.looks_mroIn KX T.mro) (fun h' eo k => ?_)
  have I1 : Inv X pins σ H ⟨h', g, d, tk, os⟩ := I.kept (t' := tk) k
  have KX1 := I1.kIn
  have hini := T.ini
  unfold PySem.W.ks_superIn at hini
  rw [hD] at hini
  have hT1 : PySem.W.InstAt h' a _ C none := ⟨k _ _ ho, rfl, rfl, trivial⟩
  have hIn1 : PySem.W.Looks (model X.prog X.w) h' (isInstance (.ref a) (.type "ValueError")) true := hT1.type.andThen (PySem.W.looks_subIn KX1 T.sub)
  refine PySem.W.kxs_getMethod PySem.W.kxs_ValueError eo (PySem.W.looks_opaque KX1 T.opq) (l₀ := cd.mro) (fun A Q E s k q => wpAny_bind ((PySem.W.looks_clsIn KX1 hD) A _ E s k (wpAny_pure q))) rfl KX1 hini hIn1 hne (by decide) ?_
  -- the wrapper at u
  have k2 : ∀ b o, h'.get? b = some o → (h'.push (PySem.W.kxs_mw "ValueError.__init__" a)).get? b = some o := fun b o e => Heap.get?_push_of_some _ e
  have hu : (h'.push (PySem.W.kxs_mw "ValueError.__init__" a)).get? h'.objs.size = some (PySem.W.kxs_mw "ValueError.__init__" a) := Heap.get?_push_at rfl rfl
  have I2 : Inv X pins σ H ⟨h'.push (PySem.W.kxs_mw "ValueError.__init__" a), g, d, tk + 1, os⟩ := I1.kept (t' := tk + 1) k2
  have hnu : H h'.objs.size = none := I1.hok.fresh (Nat.le_refl _)
  have I3 : Inv X ((h'.objs.size, PySem.W.kxs_mw "ValueError.__init__" a) :: pins) σ H ⟨h'.push (PySem.W.kxs_mw "ValueError.__init__" a), g, d, tk + 1, os⟩ := by
    refine ⟨I2.ok, I2.os, I2.bare, I2.base, I2.loc, I2.cell, I2.free, I2.freeC, fun p hp => ?_, I2.hok, I2.len⟩
    rcases List.mem_append.mp hp with hp | hp
    · exact I2.pin p (List.mem_append_left _ hp)
    · rcases List.mem_cons.mp hp with rfl | hp
      · exact ⟨hu, hnu, Nat.ne_of_gt I1.lt, I1.nofs (Nat.le_refl _), fun v z => by cases z⟩
      · exact I2.pin p (List.mem_append_right _ hp)
  show wpAny _ _ (callWith p3 (.ref h'.objs.size) [] (backTo p3 (starEach (e :: es) X.env)) []) _ _ _
  have fin := ha.run p3 _ _ σ H _ I3 h
  rw [hst] at fin ⊢
  refine PySem.W.kxs_callWith (i := "ValueError.__init__") (x := a) (by show (false || (backTo p3 (starEach es X.env)).any (·.1)) = false; rw [hpl]; rfl) ?_
  refine Calls.evalArgs_plain (thn fin fun us s1 hh => ?_)
  obtain ⟨vs', H1, J, rv, hz, ea1, q⟩ := hh
  refine ⟨(J.pin (h'.objs.size, _) (by simp)).1, ?_⟩
  have J0 : Inv X pins σ H1 s1 := by
    refine ⟨J.ok, J.os, J.bare, J.base, J.loc, J.cell, J.free, J.freeC, fun p hp => ?_, J.hok, J.len⟩
    rcases List.mem_append.mp hp with hp | hp
    · exact J.pin p (List.mem_append_left _ hp)
    · exact J.pin p (List.mem_append_right _ (List.mem_cons_of_mem _ hp))
  refine call_mw (us := [] ++ us) T.oex J0 ea1 (J.pin (h'.objs.size, _) (by simp)).1 ?_ fun s' J' => ?_
  · rw [List.nil_append, ← Paired.length rv, sizeLine_eq]
    omega
  · exact hr.run pins s' σ H1 D J' q
end Hr

set_option maxHeartbeats 4000000
/-! A class of errors is called, with keywords or without: the object is born by the built-in maker, which does not look at the keywords, then the class's own __init__ runs with all that was given. -/
namespace Hr
open PySem PySem.W PySem.Calls PyProof.Rows

/-- at C in the heap: a class of the program's own over ValueError, as the top lays it -/
def ErrCl (h : Heap) (C : Addr) (bm : List Value) : Prop :=
  ∃ nm q N bs sn sub ab col dd k0 k1 k2 k3 k5, h.get? C = some (excClassObj nm q C N bs bm true sn sub ab col dd k0 k1 k2 k3 k5 "ValueError.__new__") ∧ PySem.HandSPX.refsVE bm = true
theorem ErrCl.keep {h h' : Heap} {C : Addr} {bm : List Value} (c : ErrCl h C bm) (k : ∀ b o, h.get? b = some o → h'.get? b = some o) : ErrCl h' C bm := by
  obtain ⟨nm, q, N, bs, sn, sub, ab, col, dd, k0, k1, k2, k3, k5, e, r⟩ := c
  exact ⟨nm, q, N, bs, sn, sub, ab, col, dd, k0, k1, k2, k3, k5, k _ _ e, r⟩
/-- which built-in classes stand above such a class -/
theorem above {C : Addr} {bm : List Value} (r : PySem.HandSPX.refsVE bm = true) (T : String) {b : Bool} (hb : [Value.type "ValueError", .type "Exception", .type "BaseException", .type "object"].contains (.type T) = b) : (Value.ref C :: bm).contains (.type T) = b := by
  have z := PySem.HandSPX.refsVE_contains T bm r
  simp only [List.contains_cons, z, show (Value.type T == Value.ref C) = false from rfl, Bool.false_or]
  exact hb

section
variable {prog : Program} {w : World} {A : Around} {E : Value → Shared → Prop} {R : Result → Shared → Prop} {g : Array GenState} {d : Drawn} {t : Nat} {os : OsState} {C : Addr} {bm : List Value}
/-- the object of a new error -/
abbrev newErr (C t : Addr) : Obj := PySem.HandSPX.excO C t
abbrev born (h : Heap) (C : Addr) (rest : List Value) : Heap := (h.push (W.kdv_tup rest)).push (newErr C h.objs.size)
theorem born_keeps {h : Heap} {rest : List Value} : ∀ b o, h.get? b = some o → (born h C rest).get? b = some o := fun b o e => Heap.get?_push_of_some _ (Heap.get?_push_of_some _ e)
theorem born_at {h : Heap} {rest : List Value} : (born h C rest).get? (h.objs.size + 1) = some (newErr C h.objs.size) := by heap_get

/-- the maker may be asked -/
theorem ask_maker {M : Model} {h : Heap} {rest : List Value} {kw : List (Str × Value)} {Q : Unit → Shared → Prop} (c : ErrCl h C bm) (q : Q () ⟨h, g, d, t, os⟩) :
    wpAny M A (checkBuiltinCall "ValueError.__new__" ⟨.ref C :: rest, kw⟩) Q E ⟨h, g, d, t, os⟩ := by
  obtain ⟨nm, qn, N, bs, sn, sub, ab, col, dd, k0, k1, k2, k3, k5, cl, r⟩ := c
  have isV := above (C := C) r "ValueError" (b := true) (by decide +kernel)
  have star := F.excBase_ValueError.noStar
  simp only [checkBuiltinCall, F.excBase_ValueError.newKind, F.excBase_ValueError.newSplit, F.excBase_ValueError.newRow]
  repeat (first
    | refine wpAny_loadPart_at cl ?_
    | (refine wpAny_isSubtype_exc cl ?_; rw [isV])
    | refine wpAny_staticBase_exc cl ?_
    | refine wpAny_madeBy_exc cl ?_
    | simp only [bne_self_eq_false, Bool.false_eq_true, if_false]
    | wp_step)
  exact q

/-- the maker's run: the arguments in a tuple, the object -/
theorem maker_run {h : Heap} {rest : List Value} {kw : List (Str × Value)} (c : ErrCl h C bm) (few : rest.length ≤ sizeLine) (q : R (.ok (.ret (.ref (h.objs.size + 1)))) ⟨born h C rest, g, d, t, os⟩) :
    codeAny (model prog w) A (.builtin "ValueError.__new__" ⟨.ref C :: rest, kw⟩) R ⟨h, g, d, t, os⟩ := by
  obtain ⟨nm, qn, N, bs, sn, sub, ab, col, dd, k0, k1, k2, k3, k5, cl, r⟩ := c
  have fends := F.excBase_ValueError.ends
  have isV := above (C := C) r "ValueError" (b := true) (by decide +kernel)
  have noA := above (C := C) r "AttributeError" (b := false) (by decide +kernel)
  have noN := above (C := C) r "NameError" (b := false) (by decide +kernel)
  refine codeAny_builtinAt F.excBase_ValueError.entry ?_
  unfold Builtin.«BaseException.__new__»
  refine PyProof.Rows.wpAt_bind (show PyProof.Rows.wpAt _ _ _ (stack >>= _) _ _ _ from PyProof.Rows.wpAt_bind (PyProof.Rows.wpAt_stack fun p0 under => PyProof.Rows.wpAt_of_any ?_))
  wp_walk
  refine PyProof.Rows.wpAt_of_any ?_
  rw [F.excBase_ValueError.owner]
  repeat (first
    | with_reducible refine wpAny_madeHere_exc F.excBase_ValueError.canon cl ?_
    | with_reducible refine wpAny_loadPart_at cl ?_
    | (with_reducible refine wpAny_isSubtype_exc cl ?_; first | rw [isV] | rw [noA] | rw [noN])
    | wp_step)
  have e : (h.push (W.kdv_tup rest)).objs.size = h.objs.size + 1 := Heap.size_push _ _
  rw [← e] at q
  exact q

/-- type.__call__ of such a class: the maker, then __init__ at fI -/
theorem call_run {h : Heap} {rest : List Value} {kw : List (Str × Value)} {fI : Addr} {Q : Fin → Shared → Prop} (c : ErrCl h C bm) (ini : W.Looks (model prog w) h (typeLookup (.ref C) "__init__") (some (.ref fI)))
    (bnd : ∀ x, W.Looks (model prog w) h (bindSpecial (.ref fI) x) (.ref fI, [x])) (few : rest.length ≤ sizeLine)
    (run : codeAny (model prog w) A (.call (.ref fI) ⟨.ref (h.objs.size + 1) :: rest, kw⟩)
      (fun | .ok (.ret v), s' => v = .none ∧ Q (.done (.ret (.ref (h.objs.size + 1)))) s' | .ok _, _ => False | .error e, s' => E e s') ⟨born h C rest, g, d, t, os⟩) :
    wpAny (model prog w) A (Builtin.«type.__call__» ⟨.ref C :: rest, kw⟩) Q E ⟨h, g, d, t, os⟩ := by
  have c' := c
  obtain ⟨nm, qn, N, bs, sn, sub, ab, col, dd, k0, k1, k2, k3, k5, cl, r⟩ := c
  have cl2 := born_keeps (rest := rest) (C := C) _ _ cl
  have ob := born_at (h := h) (C := C) (rest := rest)
  have self : (Value.ref C :: bm).contains (.ref C) = true := by rw [List.contains_cons, beq_self_eq_true, Bool.true_or]
  have ini2 := ini.keeps (born_keeps (C := C) (rest := rest))
  have bnd2 := (bnd (.ref (h.objs.size + 1))).keeps (born_keeps (C := C) (rest := rest))
  repeat (first
    | with_reducible refine wpAny_loadPart_at cl ?_
    | with_reducible refine wpAny_madeBy_exc cl ?_
    | wp_step)
  refine codeAny_call_builtin_code (Code.quiet_builtin _ F.excBase_ValueError.quiet) (ask_maker c' (maker_run c' few ?_))
  unfold isInstance
  repeat (first
    | with_reducible refine wpAny_loadPart_at ob ?_
    | (with_reducible refine wpAny_isSubtype_exc cl2 ?_; rw [self])
    | wp_step)
  refine show wpAny _ _ (typeLookup (.ref C) _) _ _ _ from ini2.at (wpAny_holding (wpAny_bind (bnd2.at (wpAny_bind (wpAny_call (codeAny_mono run ?_))))))
  rintro (e | (v | _ | _ | _)) s' z
  case error => exact z
  case ok.ret =>
    obtain ⟨rfl, z⟩ := z
    exact wpAny_pure (wpAny_pure z)
  all_goals exact z.elim
/-- the class called -/
theorem call_err {h : Heap} {rest : List Value} {kw : List (Str × Value)} {fI : Addr} (c : ErrCl h C bm) (ini : W.Looks (model prog w) h (typeLookup (.ref C) "__init__") (some (.ref fI)))
    (bnd : ∀ x, W.Looks (model prog w) h (bindSpecial (.ref fI) x) (.ref fI, [x])) (few : rest.length ≤ sizeLine)
    (run : codeAny (model prog w) (A.under (.builtin "type.__call__" ⟨.ref C :: rest, kw⟩)) (.call (.ref fI) ⟨.ref (h.objs.size + 1) :: rest, kw⟩) (W.InitBack (h.objs.size + 1) R) ⟨born h C rest, g, d, t, os⟩) :
    codeAny (model prog w) A (.call (.ref C) ⟨rest, kw⟩) R ⟨h, g, d, t, os⟩ := by
  have c' := c
  obtain ⟨nm, qn, N, bs, sn, sub, ab, col, dd, k0, k1, k2, k3, k5, cl, r⟩ := c
  have lk := tc_lookup
  have bd := tc_bind (.ref C)
  have ty : (⟨h, g, d, t, os⟩ : Shared).TypeIs (.ref C) "type" := ⟨_, cl, rfl⟩
  refine codeAny_of_tree (show wpAny _ _ (callAny (.ref C) _) _ _ _ from ?_)
  repeat (any_goals (first
    | with_reducible refine wpAny_loadPart_at cl ?_
    | assumption
    | wp_step))
  refine ⟨rfl, codeAny_call_builtin_at (Code.quiet_builtin _ (by decide +kernel)) entry_typeCall (wpAny_check_type_call_sub cl (call_run c' ini bnd few (codeAny_mono run ?_)))⟩
  rintro (e | (v | _ | _ | _)) s' z <;> exact z
end
end Hr

set_option maxHeartbeats 4000000
namespace Hr
open PySem PySem.Spec PyProof.Rows L2

def tMkX (C : Addr) (sp : Sp) (ta : TA) : TE := fun σ H Q => ta σ H fun vs H1 => vs.length ≤ 1000 ∧ ∀ a, H1 a = none → sp (.ref a :: vs) (upd H1 a (exo a C none)) (fun v H2 => v = .non ∧ Q (.ref a) H2) (fun _ _ _ => False)
section
variable {X : Cx} {pins : List (Addr × Obj)} {σ : L2.St} {H : Hp} {s : Shared} {Q : VK} {CX : CXT} {C fI : Addr} {k : Nat} {fd : FuncData} {ps : List Str} {sp : Sp}
/-- the class is called: values us, keywords ks with values ws -/
theorem run_mkX {us ws : List Value} {vs zs : List V} {ks : List Str} (T : OexC X.K C) (iC : PySem.W.findIn X.K (.ref C) "__init__" = some (some (.ref fI))) (tI : PySem.W.typeIn X.K (.ref fI) = some (.type "function"))
    (F1 : FnOk X.prog X.w X.K X.mg X.base CX k fI fd ps sp) (hr : Room (k + 1) X.A) (hx : Passes CX X (fun _ _ _ => False)) (I : Inv X pins σ H s) (r : Vals vs us) (rz : Vals zs ws)
    (hb : ∀ (s : Shared) (self : Value), X.K.In s.heap → (self :: (us ++ ws)).length = ps.length → BindsTo s fd ⟨self :: us, ks.zip ws⟩ (ps.zip (self :: (us ++ ws))))
    (hz : vs.length ≤ 1000) (h : ∀ a, H a = none → sp (.ref a :: (vs ++ zs)) (upd H a (exo a C none)) (fun v H2 => v = .non ∧ Q (.ref a) H2) (fun _ _ _ => False)) :
    wpAny (model X.prog X.w) X.A (call (.ref C) us (ks.zip ws)) (EP X pins σ Q) X.xe s := by
  obtain ⟨nm, q, N, bs, bm, sn, sub, ab, col, dd, k0, k1, k2, k3, k5, hC, hbm⟩ := T.cls
  obtain ⟨hp, g, dr, tk, os⟩ := s
  have hsz : hp.objs.size ≤ hp.objs.size + 1 := Nat.le_succ _
  have hn : H (hp.objs.size + 1) = none := I.hok.fresh hsz
  have hq := h (hp.objs.size + 1) hn
  have kk : ∀ b o, hp.get? b = some o → ((hp.push (PySem.W.kdv_tup us)).push (PySem.HandSPX.excO C hp.objs.size)).get? b = some o := fun b o e => Heap.get?_push_of_some _ (Heap.get?_push_of_some _ e)
  have hget : ((hp.push (PySem.W.kdv_tup us)).push (PySem.HandSPX.excO C hp.objs.size)).get? (hp.objs.size + 1) = some (PySem.HandSPX.excO C hp.objs.size) := by heap_get
  have I2 : Inv X pins σ (upd H (hp.objs.size + 1) (exo (hp.objs.size + 1) C none)) ⟨(hp.push (PySem.W.kdv_tup us)).push (PySem.HandSPX.excO C hp.objs.size), g, dr, tk, os⟩ :=
    I.laid (t' := tk) (a := hp.objs.size + 1) (o := exo (hp.objs.size + 1) C none) (h' := (hp.push (PySem.W.kdv_tup us)).push (PySem.HandSPX.excO C hp.objs.size)) kk hsz (exo_ok hget)
  have r2 : Vals (V.ref (hp.objs.size + 1) :: (vs ++ zs)) (Value.ref (hp.objs.size + 1) :: (us ++ ws)) := .cons rfl (r.append rz)
  have hl : (Value.ref (hp.objs.size + 1) :: (us ++ ws)).length = ps.length := by
    have e := r2.length
    rw [F1.len _ _ _ _ hq] at e
    exact e.symm
  have hus : us.length ≤ sizeLine := by
    rw [← Paired.length r, sizeLine_eq]
    omega
  refine wpAny_call (call_err ⟨nm, q, N, bs, sn, sub, ab, col, dd, k0, k1, k2, k3, k5, I.kIn _ _ hC, hbm⟩ (PySem.W.looks_findIn I.kIn iC) (fun self => PySem.W.bind_fn I.kIn self tI) hus
    (codeAny_mono (F1.run _ X.stack _ _ ⟨Value.ref (hp.objs.size + 1) :: us, ks.zip ws⟩ (Value.ref (hp.objs.size + 1) :: (us ++ ws)) _ _ (fun _ _ _ => False) (hr.make C us (ks.zip ws)) (I2.env0.make C us (ks.zip ws)) (hb _ (Value.ref (hp.objs.size + 1)) I2.kIn hl) r2 hq) fun r s' hq' => ?_))
  cases r with
  | error er => exact hx pins σ _ _ er s' I2 hq'
  | ok fl =>
    cases fl with
    | ret u =>
      obtain ⟨v, H', I3, rv, ev, q3⟩ := I2.after hq'
      subst ev
      exact ⟨rv, ⟨V.ref (hp.objs.size + 1), H', I3, rfl, q3⟩⟩
    | next => exact False.elim hq'
    | brk => exact False.elim hq'
    | cont => exact False.elim hq'
variable {x : Str} {e : Expr} {es : List Expr} {kws : List Keyword} {ta tk : TA} {p pos : Pos} {ks : List Str}
/-- C(e, ..) as a value -/
theorem pe_mkX (T : OexC X.K C) (iC : PySem.W.findIn X.K (.ref C) "__init__" = some (some (.ref fI))) (tI : PySem.W.typeIn X.K (.ref fI) = some (.type "function"))
    (F1 : FnOk X.prog X.w X.K X.mg X.base CX k fI fd ps sp) (hr : Room (k + 1) X.A) (hb : Binds X.K fd ps []) (hx : Passes CX X (fun _ _ _ => False)) (hg : Gl X x) (hm : X.mg x = some (.ref C)) (ha : PA X (e :: es) ta)
    (hdb : (x == ("__debug__" : Str)) = false := by decide) (he : starEach (e :: es) X.env = (false, eval e X.env) :: starEach es X.env := by rfl) (hpl : (backTo pos (starEach es X.env)).any (·.1) = false := by rfl) :
    PE X (.Call (.Name x p) (e :: es) [] pos) (tMkX C sp ta) := by
  refine ⟨fun pins s σ H Q I h => ?_⟩
  refine wpAny_Call_Name_kw (ld_glob I hg hm ?_ hdb)
  refine PySem.W.callWith_K (h₀ := X.base) I.ok.mod.kin T.kC (thn (ha.run pos pins s σ H _ I h) fun us s1 ⟨vs, H1, I1, r1, hz, q1⟩ => ⟨I1.kIn, ?_⟩) he hpl
  show wpAny _ _ (call (.ref C) us) _ _ _
  refine run_mkX (ws := []) (zs := []) (ks := []) T iC tI F1 hr hx I1 r1 .nil (fun s self KX hl => ?_) hz (fun a ha => ?_)
  · rw [List.append_nil] at hl ⊢
    have q := hb s (self :: us) KX (by rw [List.append_nil]; exact hl)
    rw [List.append_nil] at q
    exact q
  · rw [List.append_nil]
    exact q1 a ha
theorem pe_mkX0 (T : OexC X.K C) (iC : PySem.W.findIn X.K (.ref C) "__init__" = some (some (.ref fI))) (tI : PySem.W.typeIn X.K (.ref fI) = some (.type "function"))
    (F1 : FnOk X.prog X.w X.K X.mg X.base CX k fI fd ps sp) (hr : Room (k + 1) X.A) (hb : Binds X.K fd ps []) (hx : Passes CX X (fun _ _ _ => False)) (hg : Gl X x) (hm : X.mg x = some (.ref C))
    (hdb : (x == ("__debug__" : Str)) = false := by decide) : PE X (.Call (.Name x p) [] [] pos) (tMkX C sp tNil) := by
  refine ⟨fun pins s σ H Q I h => ?_⟩
  refine wpAny_Call_Name_kw (ld_glob I hg hm ?_ hdb)
  refine PySem.W.callWith_K0 I.kIn T.kC ?_
  show wpAny _ _ (call (.ref C) []) _ _ _
  refine run_mkX (us := []) (vs := []) (ws := []) (zs := []) (ks := []) T iC tI F1 hr hx I .nil .nil (fun s self KX hl => ?_) h.1 (fun a ha => h.2 a ha)
  exact hb s [self] KX hl
/-- C(f = e) as a value -/
theorem pe_mkXk (T : OexC X.K C) (iC : PySem.W.findIn X.K (.ref C) "__init__" = some (some (.ref fI))) (tI : PySem.W.typeIn X.K (.ref fI) = some (.type "function"))
    (F1 : FnOk X.prog X.w X.K X.mg X.base CX k fI fd ps sp) (hr : Room (k + 1) X.A) (hb : KBn X.K fd ps 1 ks (fun us ws => us ++ ws) (fun vs zs => vs ++ zs)) (hx : Passes CX X (fun _ _ _ => False)) (hg : Gl X x) (hm : X.mg x = some (.ref C)) (hkw : PK X kws tk) (hps : ps.length = ks.length + 1)
    (hdb : (x == ("__debug__" : Str)) = false := by decide) (hall : (backToKw pos (keywordEach kws X.env)).all (·.1.isSome) = true := by rfl) (hks : (backToKw pos (keywordEach kws X.env)).filterMap (·.1) = ks := by rfl)
    (hpl : ((backTo pos (starEach [] X.env)).any (·.1) || (backToKw pos (keywordEach kws X.env)).any (·.1.isNone)) = false := by rfl) :
    PE X (.Call (.Name x p) [] kws pos) (tMkX C sp tk) := by
  refine ⟨fun pins s σ H Q I h => ?_⟩
  refine wpAny_Call_Name_kw (ld_glob I hg hm ?_ hdb)
  refine PySem.W.callWith_KW0 (h₀ := X.base) I.ok.mod.kin T.kC hall (thn (hkw.run pos pins s σ H _ I h) fun ws s1 ⟨zs, H1, I1, r1, hz, q1⟩ => ⟨I1.kIn, ?_⟩) hpl
  rw [hks]
  show wpAny _ _ (call (.ref C) ([] : List Value) _) _ _ _
  refine run_mkX (us := []) (vs := []) T iC tI F1 hr hx I1 .nil r1 (fun s self KX hl => ?_) (Nat.zero_le _) (fun a ha => q1 a ha)
  have l2 : ws.length = ks.length := by
    rw [hps, List.length_cons, List.nil_append] at hl
    omega
  exact hb.to s [self] ws KX rfl l2

/-! ### the field, isinstance -/
/-- what the written part says of an error's class -/
structure ExK (K : PySem.W.Frag) (C : Addr) : Prop where
  ga : PySem.W.findIn K (.ref C) "__getattribute__" = some (some (.builtin "BaseException.__getattribute__"))
  gg : PySem.W.findIn K (.ref C) "__getattr__" = some none
  exC : PySem.W.subIn K (.ref C) (.type "BaseException") = some true
  hdC : PySem.W.hasDictIn K C = true
  ha : PySem.W.findIn K (.ref C) "__class__" = some (some (.builtin "object.__class__"))
  hn : PySem.W.specialIn K (.builtin "object.__class__") "__get__" = some (some (.builtin "getset_descriptor.__get__"))
  ht : PySem.W.takesIn K (.builtin "object.__class__") = some true
  hm : PySem.W.mroIn K C (.type "object") = some true
/-- e.f of an error that is a value -/
def tXv (K : PySem.W.Frag) (f : Str) (te : TE) : TE := fun σ H Q => te σ H fun x H1 => ∃ (a C d : Addr) (fs : List (Str × V)) (v : V), x = .ref a ∧ ExK K C ∧ PySem.W.findIn K (.ref C) f = some none ∧ H1 a = some (exo a C (some d)) ∧ H1 d = some (exd d fs) ∧ fs.lookup f = some v ∧ Q v H1
theorem pe_xv {e : Expr} {te : TE} {f : Str} {pos : Pos} (he : PE X e te) (hb : attributeBase e f X.env (eval e X.env) = eval e X.env := by rfl) : PE X (.Attribute e f pos) (tXv X.K f te) := by
  refine ⟨fun pins s σ H Q I h => ?_⟩
  refine attr_of hb (thn (he.run pins s σ H _ I h) fun u s1 hh => ?_)
  obtain ⟨x, H1, I1, rx, a, C, d, fs, v, ex, T, hno, ea, ed, l, q⟩ := hh
  subst ex
  obtain rfl : u = Value.ref a := rx
  obtain ⟨t1, ho⟩ := exo_at I1.hok ea
  obtain ⟨mA, hns, hr⟩ := exd_at I1.hok ed
  obtain ⟨od, hod, hl⟩ := lookIn_ns hns
  obtain ⟨u, hu, ru⟩ := RelO.some_of (v := v) (o := mA f) (by rw [← l]; exact hr f)
  have J : PySem.W.InstAt s1.heap a _ C (some od) := ⟨ho, rfl, rfl, hod⟩
  exact HandSPX.exc_get I1.kIn J T.ga T.gg T.exC (PySem.W.findObj_own T.hdC hno rfl (by rw [hl, hu])) (handed_of ru) ⟨v, H1, I1.tok _, ru, q⟩
/-- an error at a of the class C: with its dict, or without -/
def XAt (H : Hp) (a C : Addr) : Prop := H a = some (exo a C none) ∨ ∃ d fs, H a = some (exo a C (some d)) ∧ H d = some (exd d fs)
theorem kit_x {K : PySem.W.Frag} {a C : Addr} (T : ExK K C) (od : Option Obj) : PySem.W.KitX K (.ref a) (.ref C) (fun h => ∃ ox, PySem.W.InstAt h a ox C od) := by
  have hcl : (PySem.W.clsIn K C).isSome = true := by
    obtain ⟨cd, hc, _⟩ := PySem.W.any_some T.hdC
    rw [hc]; rfl
  have base := fun ox => PySem.W.kitx_exc (K := K) (x := a) (C := C) (ox := ox) (od := od) hcl T.ga T.gg T.exC T.ha T.hn T.ht T.hm
  exact ⟨fun M h X ⟨ox, I⟩ => (base ox).ty M h X I, fun M h X ⟨ox, I⟩ => (base ox).it M h X I, fun h tp dd its n sl X e => (base default).ne h tp dd its n sl X e, fun X ⟨ox, I⟩ q => (base ox).ca X I q⟩
/-- isinstance(e, c) of such a value -/
def rIsX (K : PySem.W.Frag) : List V → Hp → VK → Prop := fun xs H Q => ∃ (a C : Addr) (c : V) (cv : Value) (b : Bool), xs = [.ref a, c] ∧ XAt H a C ∧ ExK K C ∧ ClsV c cv ∧ PySem.W.kitOne K (.ref C) cv = some b ∧ Q (.bl b) H
theorem call_isX : CallR X (.builtin "isinstance") (rIsX X.K) := by
  intro pins s σ H xs us Q I r h
  obtain ⟨a, C, c, cv, b, rfl, hx, T, kc, e, q⟩ := h
  obtain ⟨u1, u2, rfl, r1, r2⟩ := vals2 r
  have e2 := kc.eq r2
  subst e2
  obtain rfl : u1 = Value.ref a := r1
  rcases hx with ea | ⟨d, fs, ea, ed⟩
  · obtain ⟨t1, ho⟩ := exo_at I.hok ea
    exact PySem.W.kia_one (kit_x T none) I.kIn ⟨_, ho, rfl, rfl, trivial⟩ e (fun z => nomatch z) fun tk => ⟨.bl b, H, I.tok tk, rfl, q⟩
  · obtain ⟨t1, ho⟩ := exo_at I.hok ea
    obtain ⟨mA, hns, hr⟩ := exd_at I.hok ed
    obtain ⟨od, hod, hl⟩ := lookIn_ns hns
    exact PySem.W.kia_one (kit_x T (some od)) I.kIn ⟨_, ho, rfl, rfl, hod⟩ e (fun z => nomatch z) fun tk => ⟨.bl b, H, I.tok tk, rfl, q⟩
end
end Hr

set_option maxHeartbeats 4000000
namespace Hr
open PySem PySem.Spec PyProof.Rows L2
open Evl (Ex)

/-! ### operators whatever their operands are -/
def CPowW (i j : Int) : Prop := 0 ≤ j ∧ j ≤ 64 ∧ i.natAbs.log2 < 1000000
section
variable {X : Cx}
theorem op_powW : OpR X (binaryOp .Pow) (rI CPowW fun i j => .int (i ^ j.toNat)) := opI fun i j _ _ _ _ _ hc q => by
  refine pow_int hc.1 ?_ q
  have h1 : Builtin.Int.intBits i ≤ i.natAbs.log2 + 1 := by
    unfold Builtin.Int.intBits
    split <;> omega
  have h2 := hc.2.1
  have h3 := hc.2.2
  have h4 : (Builtin.Int.intBits i : Int) ≤ 1000000 := by omega
  have h5 : (Builtin.Int.intBits i : Int) * j ≤ 1000000 * 64 := Int.mul_le_mul h4 h2 hc.1 (by decide)
  exact Int.le_trans h5 (by decide)
def rAddU (K : PySem.W.Frag) : R2 := fun x y H Q => rI0 (fun i j => .int (i + j)) x y H Q ∨ (fun x y H Q => ∃ i j, x = V.str i ∧ y = V.str j ∧ i.length + j.length ≤ sizeLine ∧ Q (V.str (i ++ j)) H) x y H Q ∨ rCat x y H Q ∨ rCatA K x y H Q
theorem op_addU : OpR X (binaryOp .Add) (rAddU X.K) := op_add.or (op_add_str.or (op_cat.or op_catA))
def rMulU : R2 := fun x y H Q => rI CMulW (fun i j => .int (i * j)) x y H Q ∨ rRep x y H Q
theorem op_mulU : OpR X (binaryOp .Mult) rMulU := op_mulW.or op_rep
/-- == of scalars, of data at any depth -/
def rEqU (K : PySem.W.Frag) : R2 := fun x y H Q => rEq x y H Q ∨ rEqD K x y H Q
def rNeU (K : PySem.W.Frag) : R2 := fun x y H Q => rNe x y H Q ∨ rNeD K x y H Q
theorem op_eqU {K : PySem.W.Frag} (hK : X.K = K) (hu : X.A.units + 64 < cLine) : OpR X (compareOp .Eq) (rEqU K) := by
  subst hK
  exact op_eq.or (op_eqD hu)
theorem op_neU {K : PySem.W.Frag} (hK : X.K = K) (hu : X.A.units + 64 < cLine) : OpR X (compareOp .NotEq) (rNeU K) := by
  subst hK
  exact op_ne.or (op_neD hu)
/-- slices -/
def rSlU (K : PySem.W.Frag) : V → Option Int → Option Int → Hp → VK → Prop := fun x lo hi H Q => rSlL K x lo hi H Q ∨ rSlA K x lo hi H Q ∨ rSlS x lo hi H Q
theorem sl_U : SlR X (rSlU X.K) := sl_list.or (sl_tupA.or sl_str)
/-- a list or a tuple walked -/
def iSeq (K : PySem.W.Frag) (tl : TE) : TI := fun σ H R => iList K tl σ H R ∨ iTup K tl σ H R
theorem pi_seq {tg l : Expr} {tl : TE} (hl : PE X l tl) : PI X tg l (iSeq X.K tl) := ⟨fun pins s σ H R I h => by
  rcases h with h | h
  · exact (pi_list hl).run pins s σ H R I h
  · exact (pi_tup hl).run pins s σ H R I h⟩
/-- isinstance of an error that is a value, of anything else -/
def rIsU (K : PySem.W.Frag) : List V → Hp → VK → Prop := fun xs H Q => rIsX K xs H Q ∨ rIsi K xs H Q
theorem call_isU : CallR X (.builtin "isinstance") (rIsU X.K) := by
  intro pins s σ H xs us Q I r h
  rcases h with h | h
  · exact call_isX pins s σ H xs us Q I r h
  · exact call_isi pins s σ H xs us Q I r h
/-- an attribute: of an instance, of an error -/
def tFldU (K : PySem.W.Frag) (f : Str) (te : TE) : TE := fun σ H Q => tFld K te f σ H Q ∨ tXv K f te σ H Q
theorem pe_fldU {e : Expr} {te : TE} {f : Str} {pos : Pos} (he : PE X e te) (hb : attributeBase e f X.env (eval e X.env) = eval e X.env := by rfl) : PE X (.Attribute e f pos) (tFldU X.K f te) := ⟨fun pins s σ H Q I h => by
  rcases h with h | h
  · exact (pe_fld he hb).run pins s σ H Q I h
  · exact (pe_xv he hb).run pins s σ H Q I h⟩
end

/-! ### the same with K named (within a comprehension the context's own K is not seen through) -/
section
variable {X : Cx} {K : PySem.W.Frag}
theorem kAdd (hK : X.K = K) : OpR X (binaryOp .Add) (rAddU K) := by
  subst hK
  exact op_addU
theorem kIxU (hK : X.K = K) : IxR X (rIx K) := by
  subst hK
  exact ix_seq
theorem kSlU (hK : X.K = K) : SlR X (rSlU K) := by
  subst hK
  exact sl_U
theorem kSeq {tg l : Expr} {tl : TE} (hK : X.K = K) (hl : PE X l tl) : PI X tg l (iSeq K tl) := by
  subst hK
  exact pi_seq hl
theorem kIs (hK : X.K = K) : CallR X (.builtin "isinstance") (rIsU K) := by
  subst hK
  exact call_isU
def rLenU (K : PySem.W.Frag) : List V → Hp → VK → Prop := fun xs H Q => ∃ x n, xs = [x] ∧ LenV K x H n ∧ Q (.int n) H
theorem kLen (hK : X.K = K) : CallR X (.builtin "len") (rLenU K) := by
  subst hK
  exact call_len
theorem kFld {e : Expr} {te : TE} {f : Str} {pos : Pos} (hK : X.K = K) (he : PE X e te) (hb : attributeBase e f X.env (eval e X.env) = eval e X.env := by rfl) : PE X (.Attribute e f pos) (tFldU K f te) := by
  subst hK
  exact pe_fldU he hb
def rListU (K : PySem.W.Frag) : List V → Hp → VK → Prop := fun xs H Q => ∃ p ys, xs = [.ref p] ∧ (SqL K H p ys ∨ SqT K H p ys) ∧ ∀ l, H l = none → Q (.ref l) (upd H l (.lst ys))
theorem kList (hK : X.K = K) : CallR X (.type "list") (rListU K) := by
  subst hK
  exact call_list_of
def rTupleU (K : PySem.W.Frag) : List V → Hp → VK → Prop := fun xs H Q => ∃ p ys, xs = [.ref p] ∧ ((SqL K H p ys ∧ ∀ l, H l = none → Q (.ref l) (upd H l (.tup ys))) ∨ (SqT K H p ys ∧ Q (.ref p) H))
theorem kTuple (hK : X.K = K) : CallR X (.type "tuple") (rTupleU K) := by
  subst hK
  exact call_tuple_of
theorem kTup {es : List Expr} {k : Nat} {t : TGs} {n : Nat} {pos : Pos} (hK : X.K = K) (hc : X.calm = true) (h : PGs X es t) (hn : (assignEach es X.env).length = n := by rfl) (hst : (assignEach es X.env).findIdx? (·.1) = none := by rfl) : PG X (.Tuple es k pos) (gTup K n t) := by
  subst hK
  exact pg_tup hc h hn hst
def rJoinU (K : PySem.W.Frag) : V → List V → Hp → VK → Prop := fun x xs H Q => ∃ a p, ∃ ys : List Str, x = .str a ∧ xs = [.ref p] ∧ (SqL K H p (ys.map V.str) ∨ SqT K H p (ys.map V.str)) ∧ (ys.map (·.length)).sum + ys.length * a.length ≤ 16777216 ∧ Q (.str (Txt.join a ys)) H
theorem kJoin {o e : Expr} {to te : TE} {apos pos : Pos} (hK : X.K = K) (ho : PE X o to) (he : PE X e te) (hs : starEach [e] X.env = [(false, eval e X.env)] := by rfl) (hbase : attributeBase o "join" X.env (eval o X.env) = eval o X.env := by rfl) (hline : (apos.endLine == pos.line) = true := by rfl) :
    PE X (.Call (.Attribute o "join" apos) [e] [] pos) (tM1 (rJoinU K) to te) := by
  subst hK
  exact pe_join ho he hs hbase hline
theorem kApp {o e : Expr} {to te : TE} {apos cpos : Pos} (hK : X.K = K) (ho : PE X o to) (he : PE X e te)
    (hbase : attributeBase o "append" X.env (eval o X.env) = eval o X.env := by rfl)
    (hfew : ((backTo cpos (starEach (e :: []) X.env)).all (fun x => !x.1) && (backToKw cpos (keywordEach [] X.env)).all (fun x => x.1.isSome)
      && decide ((e :: []).length + ([] : List Keyword).length + (if ([] : List Keyword).isEmpty then 0 else 1) < 30)) = true := by rfl)
    (hline : (apos.endLine == cpos.line) = true := by rfl) (hs : starEach (e :: []) X.env = (false, eval e X.env) :: starEach [] X.env := by rfl) (hplain : (backTo cpos (starEach [] X.env)).any (·.1) = false := by rfl) :
    PE X (.Call (.Attribute o "append" apos) (e :: []) [] cpos) (tBM K "list" rAppend to (tCons te tNil)) := by
  subst hK
  exact pe_bm PySem.F.plainAttrs_list PySem.F.slot_list_append PySem.F.type_list_append mt_append ho (pa_cons he pa_nil hs) hbase hfew hline hs hplain
end

/-! ### the draws: a list of three ints that a draw changes -/
/-- the source at s, n draws so far at most -/
def Src (H : Hp) (s : Addr) (n : Nat) : Prop := ∃ a b c : Int, H s = some (.lst [.int a, .int b, .int c]) ∧ 0 ≤ b ∧ b < 2 ^ 200 ∧ 0 ≤ c ∧ c ≤ n
theorem Src.mono {H : Hp} {s : Addr} {n m : Nat} (h : Src H s n) (l : n ≤ m) : Src H s m := by
  obtain ⟨a, b, c, h1, h2, h3, h4, h5⟩ := h
  exact ⟨a, b, c, h1, h2, h3, h4, by omega⟩
/-- all but the source is kept -/
def Kp (s : Addr) (H H' : Hp) : Prop := ∀ a o, a ≠ s → H a = some o → H' a = some o
theorem Kp.refl (s : Addr) (H : Hp) : Kp s H H := fun _ _ _ h => h
theorem Kp.trans {s : Addr} {H H1 H2 : Hp} (a : Kp s H H1) (b : Kp s H1 H2) : Kp s H H2 := fun x o n h => b x o n (a x o n h)
theorem Kp.of {s : Addr} {H H' : Hp} (h : Ex H H') : Kp s H H' := fun a o _ e => h a o e
theorem Kp.src {s : Addr} {H : Hp} {o : HO} : Kp s H (upd H s o) := fun a u n e => by rw [upd_ne n]; exact e
theorem Kp.new {s p : Addr} {H H' : Hp} {o : HO} (h : Kp s H H') (n : H' p = none) : Kp s H (upd H' p o) := fun a u m e => by
  have e' := h a u m e
  rw [upd_ne (ne_of_none e' n)]
  exact e'
/-- an object that H does not know changes -/
theorem Kp.mut {s p : Addr} {H H' : Hp} {o : HO} (h : Kp s H H') (n : H p = none) : Kp s H (upd H' p o) := fun a u m e => by
  rw [upd_ne (ne_of_none e n)]
  exact h a u m e
theorem Src.at {H : Hp} {s : Addr} {n : Nat} (h : Src H s n) : ∃ xs, H s = some (.lst xs) := by
  obtain ⟨a, b, c, e, _⟩ := h
  exact ⟨_, e⟩
theorem Src.ne {H : Hp} {s p : Addr} {n : Nat} (h : Src H s n) (e : H p = none) : s ≠ p := by
  obtain ⟨xs, q⟩ := h.at
  exact ne_of_none q e
theorem Src.upd {H : Hp} {s p : Addr} {n : Nat} {o : HO} (h : Src H s n) (e : s ≠ p) : Src (L2.upd H p o) s n := by
  obtain ⟨a, b, c, q, r⟩ := h
  exact ⟨a, b, c, by rw [upd_ne e]; exact q, r⟩
theorem log2_lt_of {i : Int} {n : Nat} (h0 : 0 < n) (h : i.natAbs < 2 ^ n) : i.natAbs.log2 < n := PySem.Flt.log2_lt_of h0 h
/-- what a draw from a source gives -/
def spDraw : Sp := fun vs H Q _ => ∃ (s : Addr) (k : Int) (n : Nat), vs = [.ref s, .int k] ∧ 0 < k ∧ k < 2 ^ 2000 ∧ Src H s n ∧ n ≤ 1000000 ∧
  ∀ (d : Int) (H' : Hp), 0 ≤ d → d < k → Kp s H H' → Src H' s (n + 1) → Q (.int d) H'
/-- a source is made of a cell of the script -/
def spSource (K : PySem.W.Frag) : Sp := fun vs H Q _ => ∃ (a : Addr) (ns : List Int) (i : Nat), vs = [.ref a, .int i] ∧ SqL K H a (ns.map V.int) ∧ i ≤ 1000 ∧
  ∀ (s : Addr) (H' : Hp), H s = none → Ex H H' → Src H' s 0 → Q (.ref s) H'
theorem cpow_lit {i j : Int} (h1 : 0 ≤ j) (h2 : j ≤ 64) (h3 : i.natAbs.log2 < 1000000) : CPowW i j := ⟨h1, h2, h3⟩
theorem cmul_of {i j : Int} {a b : Nat} (ha : i.natAbs < 2 ^ a) (hb : j.natAbs < 2 ^ b) (h0 : 0 < a := by decide) (h1 : 0 < b := by decide) (h : a + b ≤ 1000000 := by decide) : CMulW i j := wide_mul ha hb h0 h1 h
theorem at_nat {xs : List V} {j : Nat} {v : V} (h : xs[j]? = some v) : atI xs (j : Int) = some v := atI_nat h
theorem Src.kp {s : Addr} {H : Hp} {n : Nat} (a b c : Int) (h1 : 0 ≤ b) (h2 : b < 2 ^ 200) (h3 : 0 ≤ c) (h4 : c ≤ n) : Src (L2.upd H s (.lst [.int a, .int b, .int c])) s n := ⟨a, b, c, upd_same, h1, h2, h3, h4⟩
end Hr

set_option maxHeartbeats 4000000
namespace Hr
open PySem PySem.Spec PyProof.Rows L2

/-- all that the top has written of an own error's class: at C, its __init__ at fI (fd), the cell of __class__ at cc, the code at cda -/
structure ErrT (K : PySem.W.Frag) (mg : Str → Option Value) (prog : Program) (name qual : Str) (ps : List Str) (st : Stmt) (C fI cc cda : Addr) (fd : FuncData) : Prop where
  sup : SupC K mg prog C fI cc cda "self"
  ex : ExK K C
  gC : mg name = some (.ref C)
  iC : PySem.W.findIn K (.ref C) "__init__" = some (some (.ref fI))
  tI : PySem.W.typeIn K (.ref fI) = some (.type "function")
  fn : ∃ (oc : Value) (od : Option Addr) (kV doc pm : Value) (an : Option Addr) (ct : Value) (osl : Array (Option Value)),
    fd = PySem.W.ksFn "__init__" qual (defArgs st) (defBody st) (defScope st) .none kV doc pm an (.ref cda) ct cc ∧ K.lookup fI = some ⟨oc, od, .func fd, osl⟩ ∧ PySem.W.codeIn K (.ref cda) qual = true
  noF : ∀ f ∈ ps.drop 1, PySem.W.findIn K (.ref C) f = some none
theorem ErrT.oex {K mg prog name qual ps st C fI cc cda fd} (E : ErrT K mg prog name qual ps st C fI cc cda fd) : OexC K C := E.sup.oex
/-- a value that an f-string shows -/
def FmtOk (y : V) : Prop := (∃ z : Str, y = .str z ∧ z.length ≤ 1000) ∨ ∃ i : Int, y = .int i ∧ i.natAbs.log2 < 1920
/-- C(y): its own __init__ stores y as f -/
def spErr (C : Addr) (f : Str) : Sp := fun vs H Q _ => ∃ (a : Addr) (y : V), vs = [.ref a, y] ∧ FmtOk y ∧ H a = some (exo a C none) ∧
  ∀ dx, H dx = none → dx ≠ a → Q .non (upd (upd H dx (exd dx [(f, y)])) a (exo a C (some dx)))
def spErr0 (C : Addr) : Sp := fun vs H Q _ => ∃ a : Addr, vs = [.ref a] ∧ H a = some (exo a C none) ∧ Q .non H
theorem str_len {i : Int} (h : i.natAbs.log2 < 1920) : (Str.ofString (toString i)).length ≤ 2000 := by
  have e := int_text_length_le (k := 1920) (by decide) h
  rw [PySem.ofString_length]; omega
theorem fmt_reads {σ : L2.St} {H : Hp} {Q : VK} {te : TE} {y : V} (h : FmtOk y) (ht : ∀ R : VK, R y H → te σ H R) (q : ∀ z : Str, z.length ≤ 2000 → Q (.str z) H) : tFmt te σ H Q := by
  refine ht _ ?_
  rcases h with ⟨z, rfl, hz⟩ | ⟨i, rfl, hi⟩
  · exact .inl ⟨z, rfl, by rw [sizeLine_eq]; omega, q z (by omega)⟩
  · exact .inr ⟨i, rfl, hi, q _ (str_len hi)⟩
theorem rd_err1 {K : PySem.W.Frag} {C a : Addr} {f lit : Str} {y : V} {H : Hp} {Q : VK} {rest : L2.St} (T : OexC K C) (hno : PySem.W.findIn K (.ref C) f = some none) (hlit : lit.length ≤ 1000) (hy : FmtOk y) (ha : H a = some (exo a C none))
    (k : ∀ dx, H dx = none → dx ≠ a → Q .non (upd (upd H dx (exd dx [(f, y)])) a (exo a C (some dx)))) :
    tSeq (tSup C (tCons (fun σ H Q => tJs [tC (.str lit), tFmt (tVar 1)] Str.empty σ H fun out H1 => Q (.str out) H1) tNil)) (tOst K f (tVar 0) (tVar 1)) { nx := fun _ H' => Q .non H', rt := Q } (some (.ref a) :: some y :: rest) H := by
  refine ⟨a, rfl, ha, ?_⟩
  refine ⟨lit, rfl, ?_, fmt_reads hy (fun R r => ⟨y, rfl, r⟩) fun z hz => ⟨z, rfl, ?_, ?_⟩⟩
  · show (Str.empty ++ lit).length ≤ sizeLine
    rw [Str.length_append, sizeLine_eq]
    show 0 + lit.length ≤ _
    omega
  · show (Str.empty ++ lit ++ z).length ≤ sizeLine
    rw [Str.length_append, Str.length_append, sizeLine_eq]
    show 0 + lit.length + z.length ≤ _
    omega
  · refine ⟨by show 1 ≤ 1000; decide, ha, ?_⟩
    exact ⟨y, rfl, .ref a, rfl, a, C, rfl, T, hno, .inl ⟨ha, fun dx n1 n2 => k dx n1 n2⟩⟩
theorem emod_lt_200 (z : Int) (i : Nat) (hi : i ≤ 1000) : 0 ≤ z % (10 ^ 37 + 43) + 1299709 * (i : Int) ∧ z % (10 ^ 37 + 43) + 1299709 * (i : Int) < 2 ^ 200 := by
  have h1 := Int.emod_nonneg z (show (10 ^ 37 + 43 : Int) ≠ 0 by decide)
  have h2 := Int.emod_lt_of_pos z (show (0 : Int) < 10 ^ 37 + 43 by decide)
  have h3 : (10 ^ 37 + 43 : Int) + 1299709 * 1000 < 2 ^ 200 := by decide
  omega
theorem source_end {H : Hp} {Q : VK} {x z : Int} {i : Nat} (k : ∀ (s : Addr) (H' : Hp), H s = none → Evl.Ex H H' → Src H' s 0 → Q (.ref s) H') (hi : i ≤ 1000) :
    [V.int x, V.int (z % (10 ^ (37 : Int).toNat + 43) + 1299709 * (i : Int)), V.int 0].length ≤ sizeLine ∧ ∀ p, H p = none → Q (.ref p) (upd H p (.lst [V.int x, V.int (z % (10 ^ (37 : Int).toNat + 43) + 1299709 * (i : Int)), V.int 0])) :=
  ⟨by show 3 ≤ sizeLine; decide, fun p hp => k p _ hp (Evl.Ex.new hp) (Src.kp _ _ _ (emod_lt_200 z i hi).1 (emod_lt_200 z i hi).2 (Int.le_refl 0) (Int.le_refl 0))⟩
theorem natAbs_lt {k : Int} {n : Nat} (h0 : 0 < k) (h : k < 2 ^ n) : k.natAbs < 2 ^ n := by
  have e : ((k.natAbs : Nat) : Int) = k := Int.natAbs_of_nonneg (by omega)
  have h2 : ((k.natAbs : Nat) : Int) < ((2 ^ n : Nat) : Int) := by
    rw [e]
    simpa using h
  exact Int.ofNat_lt.mp h2
theorem natAbs_lt64 {k : Int} (h0 : 0 ≤ k) (h : k < 2 ^ 64) : k.natAbs < 2 ^ 64 := by omega
theorem cpow_of {i j : Int} {n : Nat} (h1 : 0 ≤ j) (h2 : j ≤ 64) (h : i.natAbs < 2 ^ n) (h0 : 0 < n) (hn : n ≤ 1000000) : CPowW i j := ⟨h1, h2, Nat.lt_of_lt_of_le (log2_lt_of h0 h) hn⟩
theorem draw_b {b c : Int} (b0 : 0 ≤ b) (b1 : b < 2 ^ 200) (c0 : 0 ≤ c) (c1 : c ≤ 1000000) : (b + 15485863 * (c + 1)).natAbs < 2 ^ 201 := by
  have h : (2 : Int) ^ 200 + 15485863 * 1000001 < 2 ^ 201 := by decide
  have h2 : b + 15485863 * (c + 1) < 2 ^ 201 := by omega
  have h3 : 0 ≤ b + 15485863 * (c + 1) := by omega
  have e : (((b + 15485863 * (c + 1)).natAbs : Nat) : Int) = b + 15485863 * (c + 1) := Int.natAbs_of_nonneg h3
  have q : (((b + 15485863 * (c + 1)).natAbs : Nat) : Int) < ((2 ^ 201 : Nat) : Int) := by
    rw [e]
    simpa using h2
  exact Int.ofNat_lt.mp q
theorem draw_m {m c : Int} (b0 : 0 ≤ m) (b1 : m < 10 ^ (35 : Int).toNat + 69) (c0 : 0 ≤ c) (c1 : c ≤ 1000000) : (m + 32452843 * (c + 1)).natAbs < 2 ^ 201 := by
  have h : ((10 : Int) ^ (35 : Int).toNat + 69) + 32452843 * 1000001 < 2 ^ 201 := by decide
  have h2 : m + 32452843 * (c + 1) < 2 ^ 201 := by omega
  have h3 : 0 ≤ m + 32452843 * (c + 1) := by omega
  have e : (((m + 32452843 * (c + 1)).natAbs : Nat) : Int) = m + 32452843 * (c + 1) := Int.natAbs_of_nonneg h3
  have q : (((m + 32452843 * (c + 1)).natAbs : Nat) : Int) < ((2 ^ 201 : Nat) : Int) := by
    rw [e]
    simpa using h2
  exact Int.ofNat_lt.mp q
theorem rd_err0 {C a : Addr} {lit : Str} {H : Hp} {Q : VK} {rest : L2.St} (ha : H a = some (exo a C none)) (k : Q .non H) :
    tSeq (tSup C (tCons (tC (.str lit)) tNil)) tNext { nx := fun _ H' => Q .non H', rt := Q } (some (.ref a) :: rest) H :=
  ⟨a, rfl, ha, by show 1 ≤ 1000; decide, ha, k⟩
end Hr

set_option maxHeartbeats 4000000
/-! data within the heap, comprehensions that make data -/
namespace Hr
open PySem PySem.Spec PyProof.Rows L2
open Evl (Ex)

mutual
theorem dp_ex {K : PySem.W.Frag} {H H' : Hp} (e : Ex H H') : ∀ (d : PyData) (v : V), Dp K H v d → Dp K H' v d
  | .none, _, h => by cases h; exact .non
  | .bool b, _, h => by cases h; exact .bl b
  | .int i, _, h => by cases h; exact .int i
  | .str x, _, h => by cases h; exact .str x
  | .list ds, _, h => by
    cases h with
    | lst h1 h2 => exact .lst (Evl.ex_l e h1) (dpAll_ex e ds _ h2)
  | .tuple ds, _, h => by
    cases h with
    | tup h1 h2 => exact .tup (Evl.ex_t e h1) (dpAll_ex e ds _ h2)
  | .dict _, _, h => by cases h
theorem dpAll_ex {K : PySem.W.Frag} {H H' : Hp} (e : Ex H H') : ∀ (ds : List PyData) (vs : List V), DpAll K H vs ds → DpAll K H' vs ds
  | [], _, h => by cases h; exact .nil
  | d :: ds, _, h => by
    cases h with
    | cons h1 h2 => exact .cons (dp_ex e d _ h1) (dpAll_ex e ds _ h2)
end
theorem _root_.L2.Dp.ex' {K : PySem.W.Frag} {H H' : Hp} {d : PyData} {v : V} (h : Dp K H v d) (e : Ex H H') : Dp K H' v d := dp_ex e d v h
theorem _root_.L2.DpAll.ex' {K : PySem.W.Frag} {H H' : Hp} {ds : List PyData} {vs : List V} (h : DpAll K H vs ds) (e : Ex H H') : DpAll K H' vs ds := dpAll_ex e ds vs h
theorem _root_.L2.DpAll.snoc {K : PySem.W.Frag} {H : Hp} {v : V} {d : PyData} : ∀ {vs : List V} {ds : List PyData}, DpAll K H vs ds → Dp K H v d → DpAll K H (vs ++ [v]) (ds ++ [d])
  | _, _, .nil, h => .cons h .nil
  | _, _, .cons h1 h2, h => .cons h1 (L2.DpAll.snoc h2 h)
theorem _root_.L2.DpAll.len {K : PySem.W.Frag} {H : Hp} : ∀ {vs : List V} {ds : List PyData}, DpAll K H vs ds → vs.length = ds.length
  | _, _, .nil => rfl
  | _, _, .cons _ h => congrArg Nat.succ (L2.DpAll.len h)
theorem _root_.L2.DpAll.get {K : PySem.W.Frag} {H : Hp} : ∀ {vs : List V} {ds : List PyData} {i : Nat} {d : PyData}, DpAll K H vs ds → ds[i]? = some d → ∃ v, vs[i]? = some v ∧ Dp K H v d
  | _, _, _, _, .nil, e => by simp at e
  | _, _, 0, d, .cons (v := v) h _, e => by
    have e' := Option.some.inj e
    subst e'
    exact ⟨v, rfl, h⟩
  | _, _, i + 1, d, .cons _ h, e => by
    obtain ⟨v, h1, h2⟩ := L2.DpAll.get (i := i) h (by simpa using e)
    exact ⟨v, by simpa using h1, h2⟩
theorem _root_.L2.DpAll.getV {K : PySem.W.Frag} {H : Hp} {vs : List V} {ds : List PyData} {i : Nat} {v : V} (h : DpAll K H vs ds) (e : vs[i]? = some v) : ∃ d, ds[i]? = some d ∧ Dp K H v d := by
  have hi : i < ds.length := by
    rw [← h.len]
    exact (List.getElem?_eq_some_iff.mp e).1
  obtain ⟨v', h1, h2⟩ := h.get (List.getElem?_eq_getElem hi)
  rw [e] at h1
  cases h1
  exact ⟨_, List.getElem?_eq_getElem hi, h2⟩
/-- ints, texts, truth values as data -/
theorem dpAll_int {K : PySem.W.Frag} {H : Hp} : ∀ ns : List Int, DpAll K H (ns.map V.int) (ns.map PyData.int)
  | [] => .nil
  | n :: r => .cons (.int n) (dpAll_int r)
theorem dpAll_str {K : PySem.W.Frag} {H : Hp} : ∀ ns : List Str, DpAll K H (ns.map V.str) (ns.map PyData.str)
  | [] => .nil
  | n :: r => .cons (.str n) (dpAll_str r)
theorem dpAll_bl {K : PySem.W.Frag} {H : Hp} : ∀ ns : List Bool, DpAll K H (ns.map V.bl) (ns.map PyData.bool)
  | [] => .nil
  | n :: r => .cons (.bl n) (dpAll_bl r)

/-- the heap without what stands at D -/
def msk (H : Hp) (D : Addr) : Hp := fun a => if a = D then none else H a
theorem msk_same {H : Hp} {D : Addr} : msk H D D = none := if_pos rfl
theorem msk_ne {H : Hp} {D a : Addr} (h : a ≠ D) : msk H D a = H a := if_neg h
theorem msk_ex {H : Hp} {D : Addr} : Ex (msk H D) H := fun a o e => by
  by_cases h : a = D
  · rw [h, msk_same] at e
    cases e
  · rw [msk_ne h] at e
    exact e
theorem ex_msk {H H' : Hp} {D : Addr} (e : ∀ a o, a ≠ D → H a = some o → H' a = some o) : Ex (msk H D) (msk H' D) := fun a o h => by
  by_cases q : a = D
  · rw [q, msk_same] at h
    cases h
  · rw [msk_ne q] at h ⊢
    exact e a o q h
theorem ex_to_msk {H H' : Hp} {D : Addr} (e : Ex H H') (n : H D = none) : Ex H (msk H' D) := fun a o h => by
  rw [msk_ne (ne_of_none h n)]
  exact e a o h
theorem Ex.kpD {H H' : Hp} (e : Ex H H') (D : Addr) : ∀ a o, a ≠ D → H a = some o → H' a = some o := fun a o _ h => e a o h

section
variable {K : PySem.W.Frag} {lo : Int} {n j : Nat} {te : TE} {vs : List Nat} {σ : L2.St} {H1 : Hp} {D : Addr} {Qd : Hp → Prop}
/-- [te for x in range(..)], nothing changed by te: f i tells the data of the i-th -/
theorem lcD_range (f : Nat → PyData → Prop) (nD : H1 D = none) (hn : n < sizeLine) (hw : ∀ v, wipe ((wipe σ vs).set j (some v)) vs = wipe σ vs)
    (hs : ∀ i H (R : VK), i < n → Ex H1 H → H D ≠ none → (∀ v d H2, f i d → Ex H H2 → Dp K (msk H2 D) v d → R v H2) → te ((wipe σ vs).set j (some (.int (lo + i)))) H R)
    (hd : ∀ H xs ds, Ex H1 H → H D = some (.lst xs) → DpAll K (msk H D) xs ds → ds.length = n → (∀ i d, ds[i]? = some d → f i d) → Qd H) :
    ∃ W : Nat → Nat → Hp → Prop, (∃ m, W 0 m (upd H1 D (.lst []))) ∧ ∀ i m H, W i m H →
      ((Itr lo n).stop i H ∧ Qd H) ∨ ((Itr lo n).go i H ∧ ∃ Nx : Hp → Prop, (∀ H', Nx H' → ∃ m', m' < m ∧ W (i + 1) m' H') ∧ ∀ x H', (Itr lo n).yld i H x H' → gName j x (wipe σ vs) H' fun σ2 H2 => wipe σ2 vs = wipe σ vs ∧ tYes σ2 H2 fun b H3 =>
        if b = true then te σ2 H3 fun y H4 => ∃ acc, H4 D = some (.lst acc) ∧ acc.length < sizeLine ∧ Nx (upd H4 D (.lst (acc ++ [y]))) else Nx H3) := by
  refine lc_range (lo := lo) (n := n) (fun i H => i ≤ n ∧ Ex H1 H ∧ ∃ xs ds, H D = some (.lst xs) ∧ DpAll K (msk H D) xs ds ∧ ds.length = i ∧ ∀ k d, ds[k]? = some d → f k d) ⟨Nat.zero_le _, Ex.new nD, [], [], upd_same, .nil, rfl, fun k d e => by simp at e⟩ ?_ ?_
  · rintro i H hi ⟨_, e, xs, ds, hD, ha, hl, hf⟩
    refine ⟨hw _, ?_⟩
    refine show te (List.set (wipe σ vs) j (some (V.int (lo + ↑i)))) H _ from (hs i H _ hi e (by rw [hD]; exact fun z => nomatch z) fun v d H2 fd e2 hv => ?_)
    refine ⟨xs, e2 _ _ hD, by rw [ha.len, hl]; omega, hi, fun a o h => ?_, xs ++ [v], ds ++ [d], upd_same, ?_, ?_, fun k d' hk => ?_⟩
    · rw [upd_ne (ne_of_none h nD)]
      exact e2 _ _ (e _ _ h)
    · have q : Ex (msk H2 D) (msk (upd H2 D (.lst (xs ++ [v]))) D) := ex_msk fun a o na h => by rw [upd_ne na]; exact h
      exact ((ha.ex' (ex_msk fun a o na h => e2 a o h)).ex' q).snoc (hv.ex' q)
    · rw [List.length_append, hl]; rfl
    · by_cases hk2 : k < ds.length
      · rw [List.getElem?_append_left hk2] at hk
        exact hf k d' hk
      · rw [List.getElem?_append_right (by omega)] at hk
        have hk3 : k - ds.length = 0 := by
          by_cases z : k - ds.length = 0
          · exact z
          · rw [List.getElem?_eq_none (by show 1 ≤ _; omega)] at hk
            cases hk
        rw [hk3] at hk
        have hk4 : d = d' := Option.some.inj hk
        subst hk4
        have : k = i := by omega
        rw [this]
        exact fd
  · rintro H ⟨_, e, xs, ds, hD, ha, hl, hf⟩
    exact hd H xs ds e hD ha hl hf
/-- .. drawing: at most m draws a turn -/
theorem lcS_range {s : Addr} {N m : Nat} (f : Nat → PyData → Prop) (nD : H1 D = none) (hn : n < sizeLine) (hS : Src H1 s N) (hw : ∀ v, wipe ((wipe σ vs).set j (some v)) vs = wipe σ vs)
    (hs : ∀ i H (R : VK), i < n → Kp s H1 H → Src H s (N + m * i) → H D ≠ none → s ≠ D → (∀ v d H2, f i d → Kp s H H2 → Src H2 s (N + m * i + m) → Dp K (msk (msk H2 s) D) v d → R v H2) → te ((wipe σ vs).set j (some (.int (lo + i)))) H R)
    (hd : ∀ H xs ds, Kp s H1 H → Src H s (N + m * n) → H D = some (.lst xs) → DpAll K (msk (msk H s) D) xs ds → s ≠ D → ds.length = n → (∀ i d, ds[i]? = some d → f i d) → Qd H) :
    ∃ W : Nat → Nat → Hp → Prop, (∃ m, W 0 m (upd H1 D (.lst []))) ∧ ∀ i m H, W i m H →
      ((Itr lo n).stop i H ∧ Qd H) ∨ ((Itr lo n).go i H ∧ ∃ Nx : Hp → Prop, (∀ H', Nx H' → ∃ m', m' < m ∧ W (i + 1) m' H') ∧ ∀ x H', (Itr lo n).yld i H x H' → gName j x (wipe σ vs) H' fun σ2 H2 => wipe σ2 vs = wipe σ vs ∧ tYes σ2 H2 fun b H3 =>
        if b = true then te σ2 H3 fun y H4 => ∃ acc, H4 D = some (.lst acc) ∧ acc.length < sizeLine ∧ Nx (upd H4 D (.lst (acc ++ [y]))) else Nx H3) := by
  have nsD : s ≠ D := hS.ne nD
  refine lc_range (lo := lo) (n := n) (fun i H => i ≤ n ∧ Kp s H1 H ∧ Src H s (N + m * i) ∧ ∃ xs ds, H D = some (.lst xs) ∧ DpAll K (msk (msk H s) D) xs ds ∧ ds.length = i ∧ ∀ k d, ds[k]? = some d → f k d)
    ⟨Nat.zero_le _, Kp.of (Ex.new nD), (hS.upd nsD).mono (by omega), [], [], upd_same, .nil, rfl, fun k d e => by simp at e⟩ ?_ ?_
  · rintro i H hi ⟨_, e, hSi, xs, ds, hD, ha, hl, hf⟩
    refine ⟨hw _, ?_⟩
    refine show te (List.set (wipe σ vs) j (some (V.int (lo + ↑i)))) H _ from (hs i H _ hi e hSi (by rw [hD]; exact fun z => nomatch z) nsD fun v d H2 fd e2 hS2 hv => ?_)
    have hD2 : H2 D = some (.lst xs) := e2 _ _ nsD.symm hD
    refine ⟨xs, hD2, by rw [ha.len, hl]; omega, hi, fun a o na h => ?_, ?_, xs ++ [v], ds ++ [d], upd_same, ?_, ?_, fun k d' hk => ?_⟩
    · rw [upd_ne (ne_of_none h nD)]
      exact e2 _ _ na (e _ _ na h)
    · have q := hS2.upd (o := .lst (xs ++ [v])) nsD
      rw [show N + m * (i + 1) = N + m * i + m by rw [Nat.mul_succ]; omega]
      exact q
    · have q : Ex (msk (msk H2 s) D) (msk (msk (upd H2 D (.lst (xs ++ [v]))) s) D) := ex_msk fun a o na h => by
        by_cases z : a = s
        · rw [z, msk_same] at h
          cases h
        · rw [msk_ne z] at h ⊢
          rw [upd_ne na]
          exact h
      exact ((ha.ex' (ex_msk fun a o na h => by
        by_cases z : a = s
        · rw [z, msk_same] at h
          cases h
        · rw [msk_ne z] at h ⊢
          exact e2 a o z h)).ex' q).snoc (hv.ex' q)
    · rw [List.length_append, hl]; rfl
    · by_cases hk2 : k < ds.length
      · rw [List.getElem?_append_left hk2] at hk
        exact hf k d' hk
      · rw [List.getElem?_append_right (by omega)] at hk
        have hk3 : k - ds.length = 0 := by
          by_cases z : k - ds.length = 0
          · exact z
          · rw [List.getElem?_eq_none (by show 1 ≤ _; omega)] at hk
            cases hk
        rw [hk3] at hk
        have hk4 : d = d' := Option.some.inj hk
        subst hk4
        have : k = i := by omega
        rw [this]
        exact fd
  · rintro H ⟨_, e, hSn, xs, ds, hD, ha, hl, hf⟩
    exact hd H xs ds e hSn hD ha nsD hl hf
/-- [te for x in xs], xs a list that stands -/
theorem lcD_list {a : Addr} {ys : List V} (f : Nat → PyData → Prop) (nD : H1 D = none) (hL : SqL K H1 a ys) (hn : ys.length < sizeLine) (hw : ∀ v, wipe ((wipe σ vs).set j (some v)) vs = wipe σ vs)
    (hs : ∀ i x H (R : VK), ys[i]? = some x → Ex H1 H → H D ≠ none → (∀ v d H2, f i d → Ex H H2 → Dp K (msk H2 D) v d → R v H2) → te ((wipe σ vs).set j (some x)) H R)
    (hd : ∀ H xs ds, Ex H1 H → H D = some (.lst xs) → DpAll K (msk H D) xs ds → ds.length = ys.length → (∀ i d, ds[i]? = some d → f i d) → Qd H) :
    ∃ W : Nat → Nat → Hp → Prop, (∃ m, W 0 m (upd H1 D (.lst []))) ∧ ∀ i m H, W i m H →
      ((Itl K a).stop i H ∧ Qd H) ∨ ((Itl K a).go i H ∧ ∃ Nx : Hp → Prop, (∀ H', Nx H' → ∃ m', m' < m ∧ W (i + 1) m' H') ∧ ∀ x H', (Itl K a).yld i H x H' → gName j x (wipe σ vs) H' fun σ2 H2 => wipe σ2 vs = wipe σ vs ∧ tYes σ2 H2 fun b H3 =>
        if b = true then te σ2 H3 fun y H4 => ∃ acc, H4 D = some (.lst acc) ∧ acc.length < sizeLine ∧ Nx (upd H4 D (.lst (acc ++ [y]))) else Nx H3) := by
  refine lc_list (K := K) (a := a) (xs := ys) (fun i H => i ≤ ys.length ∧ Ex H1 H ∧ ∃ xs ds, H D = some (.lst xs) ∧ DpAll K (msk H D) xs ds ∧ ds.length = i ∧ ∀ k d, ds[k]? = some d → f k d) ⟨Nat.zero_le _, Ex.new nD, [], [], upd_same, .nil, rfl, fun k d e => by simp at e⟩ (fun i H _ h => Evl.ex_l h.2.1 hL) ?_ ?_
  · rintro i x H hx ⟨_, e, xs, ds, hD, ha, hl, hf⟩
    have hi : i < ys.length := (List.getElem?_eq_some_iff.mp hx).1
    refine ⟨hw _, ?_⟩
    refine show te (List.set (wipe σ vs) j (some x)) H _ from (hs i x H _ hx e (by rw [hD]; exact fun z => nomatch z) fun v d H2 fd e2 hv => ?_)
    refine ⟨xs, e2 _ _ hD, by rw [ha.len, hl]; omega, hi, fun a o h => ?_, xs ++ [v], ds ++ [d], upd_same, ?_, ?_, fun k d' hk => ?_⟩
    · rw [upd_ne (ne_of_none h nD)]
      exact e2 _ _ (e _ _ h)
    · have q : Ex (msk H2 D) (msk (upd H2 D (.lst (xs ++ [v]))) D) := ex_msk fun a o na h => by rw [upd_ne na]; exact h
      exact ((ha.ex' (ex_msk fun a o na h => e2 a o h)).ex' q).snoc (hv.ex' q)
    · rw [List.length_append, hl]; rfl
    · by_cases hk2 : k < ds.length
      · rw [List.getElem?_append_left hk2] at hk
        exact hf k d' hk
      · rw [List.getElem?_append_right (by omega)] at hk
        have hk3 : k - ds.length = 0 := by
          by_cases z : k - ds.length = 0
          · exact z
          · rw [List.getElem?_eq_none (by show 1 ≤ _; omega)] at hk
            cases hk
        rw [hk3] at hk
        have hk4 : d = d' := Option.some.inj hk
        subst hk4
        have : k = i := by omega
        rw [this]
        exact fd
  · rintro H ⟨_, e, xs, ds, hD, ha, hl, hf⟩
    exact hd H xs ds e hD ha hl hf
end
/-- plain items stand in every heap -/
def flatD : PyData → Bool
  | .none | .bool _ | .int _ | .str _ => true
  | _ => false
theorem dp_flat {K : PySem.W.Frag} {H H' : Hp} {d : PyData} {v : V} (h : Dp K H v d) (f : flatD d = true) : Dp K H' v d := by
  cases h with
  | non => exact .non
  | bl b => exact .bl b
  | int i => exact .int i
  | str x => exact .str x
  | lst _ _ => cases f
  | tup _ _ => cases f
theorem dpAll_flat {K : PySem.W.Frag} {H H' : Hp} : ∀ {vs : List V} {ds : List PyData}, DpAll K H vs ds → (∀ d ∈ ds, flatD d = true) → DpAll K H' vs ds
  | _, _, .nil, _ => .nil
  | _, _, .cons h1 h2, f => .cons (dp_flat h1 (f _ List.mem_cons_self)) (dpAll_flat h2 fun d m => f d (List.mem_cons_of_mem _ m))
theorem strs_of {K : PySem.W.Frag} {H : Hp} {Pz : Str → Prop} : ∀ {vs : List V} {ds : List PyData}, DpAll K H vs ds → (∀ (i : Nat) (d : PyData), ds[i]? = some d → ∃ z : Str, d = PyData.str z ∧ Pz z) → ∃ ys : List Str, vs = ys.map V.str ∧ ys.length = ds.length ∧ ∀ z ∈ ys, Pz z
  | _, _, .nil, _ => ⟨[], rfl, rfl, fun z h => by cases h⟩
  | _, _, .cons h1 h2, f => by
    obtain ⟨z, e, pz⟩ := f 0 _ rfl
    subst e
    cases h1
    obtain ⟨ys, rfl, hl, ha⟩ := strs_of h2 fun i d e => f (i + 1) d (by simpa using e)
    exact ⟨z :: ys, rfl, congrArg Nat.succ hl, fun w hw => by
      rcases List.mem_cons.mp hw with rfl | hw
      · exact pz
      · exact ha w hw⟩
theorem sum_len1 : ∀ ys : List Str, (∀ z ∈ ys, z.length = 1) → (ys.map (·.length)).sum = ys.length
  | [], _ => rfl
  | y :: r, h => by
    rw [List.map_cons, List.sum_cons, h y List.mem_cons_self, sum_len1 r fun z m => h z (List.mem_cons_of_mem _ m), List.length_cons]
    omega
theorem join_len (ys : List Str) (h : ∀ z ∈ ys, z.length = 1) : (Txt.join Str.empty ys).length ≤ ys.length := by
  have q := StrLaws.join_length_le Str.empty ys
  rw [sum_len1 ys h] at q
  rw [TL.join_eq]
  have z : (Str.empty : Str).length = 0 := rfl
  rw [z, Nat.mul_zero] at q
  exact q
theorem strOk_append (a b : Str) : PyData.strOk (a ++ b) = (PyData.strOk a && PyData.strOk b) := by
  show (a.cps ++ b.cps).all (· < 0x110000) = _
  rw [Array.all_append]
  rfl
theorem strOk_join {sep : Str} (hs : PyData.strOk sep = true) : ∀ ys : List Str, (∀ z ∈ ys, PyData.strOk z = true) → PyData.strOk (Txt.join sep ys) = true := by
  intro ys h
  rw [TL.join_eq]
  induction ys with
  | nil =>
    show PyData.strOk Str.empty = true
    decide +kernel
  | cons x r ih =>
    cases r with
    | nil => exact h x List.mem_cons_self
    | cons y r =>
      show PyData.strOk (x ++ sep ++ Str.join sep (y :: r)) = true
      rw [strOk_append, strOk_append, h x List.mem_cons_self, hs, ih fun z m => h z (List.mem_cons_of_mem _ m)]
      rfl
/-- what is told of each place is told of the whole -/
theorem list_of {α : Type} {ds : List α} {n : Nat} {F : Nat → α} (hl : ds.length = n) (h : ∀ i d, ds[i]? = some d → d = F i) : ds = (List.range n).map F := by
  apply List.ext_getElem?
  intro i
  by_cases hi : i < ds.length
  · rw [List.getElem?_eq_getElem hi, List.getElem?_map, List.getElem?_range (by omega)]
    rw [h i _ (List.getElem?_eq_getElem hi)]
    rfl
  · rw [List.getElem?_eq_none (by omega), List.getElem?_eq_none (by rw [List.length_map, List.length_range]; omega)]

/-! ### one reading from its head -/
section
variable {D : Ends} {σ : L2.St} {H : Hp} {t u : TS} {te : TE} {ta : TA} {tt : TT} {g : TG} {i : Nat} {Q : VK} {QA : List V → Hp → Prop} {QT : Bool → Hp → Prop} {r : R2} {ta' tb' : TE}
theorem hSeq (h : t { D with nx := u D } σ H) : tSeq t u D σ H := h
theorem hAsg (h : te σ H fun x H1 => D.nx (σ.set i (some x)) H1) : tAsg te (gName i) D σ H := h
theorem hGN {v : V} {QQ : L2.St → Hp → Prop} (h : QQ (σ.set i (some v)) H) : gName i v σ H QQ := h
theorem hLst (h : ta σ H fun xs H1 => xs.length ≤ sizeLine ∧ ∀ p, H1 p = none → Q (.ref p) (upd H1 p (.lst xs))) : tLst ta σ H Q := h
theorem hTup (h : ta σ H fun xs H1 => xs.length ≤ sizeLine ∧ ∀ p, H1 p = none → Q (.ref p) (upd H1 p (.tup xs))) : tTup ta σ H Q := h
theorem hCons (h : te σ H fun x H1 => ta σ H1 fun xs H2 => QA (x :: xs) H2) : tCons te ta σ H QA := h
theorem hNil (h : QA [] H) : tNil σ H QA := h
theorem hOp (h : ta' σ H fun x H1 => tb' σ H1 fun y H2 => r x y H2 Q) : tOp r ta' tb' σ H Q := h
theorem hVar {v : V} (e : σ[i]? = some (some v)) (h : Q v H) : tVar i σ H Q := ⟨v, e, h⟩
theorem hIf (h : tt σ H fun b H1 => if b = true then t D σ H1 else u D σ H1) : tIfS tt t u D σ H := h
theorem hTest (h : te σ H fun x H' => ∃ k, x = .bl k ∧ QT k H') : tTest te σ H QT := h
theorem hRet (h : te σ H D.rt) : tRet te D σ H := h
theorem hNext (h : D.nx σ H) : tNext D σ H := h
end

/-! ### errors that are values -/
def ErrAt (H : Hp) (a C : Addr) (f : Str) (y : V) : Prop := ∃ d, H a = some (exo a C (some d)) ∧ H d = some (exd d [(f, y)])
theorem ErrAt.ex {H H' : Hp} {a C : Addr} {f : Str} {y : V} (h : ErrAt H a C f y) (e : Ex H H') : ErrAt H' a C f y := by
  obtain ⟨d, h1, h2⟩ := h
  exact ⟨d, e _ _ h1, e _ _ h2⟩
theorem ErrAt.xat {H : Hp} {a C : Addr} {f : Str} {y : V} (h : ErrAt H a C f y) : XAt H a C := by
  obtain ⟨d, h1, h2⟩ := h
  exact .inr ⟨d, _, h1, h2⟩
theorem XAt.ex {H H' : Hp} {a C : Addr} (h : XAt H a C) (e : Ex H H') : XAt H' a C := by
  rcases h with h | ⟨d, fs, h1, h2⟩
  · exact .inl (e _ _ h)
  · exact .inr ⟨d, fs, e _ _ h1, e _ _ h2⟩
theorem mkX_reads {C : Addr} {f : Str} {y : V} {σ : L2.St} {H : Hp} {Q : VK} {ta : TA} (hy : FmtOk y) (ht : ∀ R : List V → Hp → Prop, R [y] H → ta σ H R)
    (k : ∀ a H', H a = none → Ex H H' → ErrAt H' a C f y → Q (.ref a) H') : tMkX C (spErr C f) ta σ H Q := by
  refine ht _ ⟨by show 1 ≤ 1000; decide, fun a ha => ⟨a, y, rfl, hy, upd_same, fun dx m1 m2 => ⟨rfl, k a _ ha ?_ ?_⟩⟩⟩
  · intro b o e
    have n1 : b ≠ a := ne_of_none e ha
    have n2 : b ≠ dx := fun z => by
      rw [← z, upd_ne n1, e] at m1
      cases m1
    rw [upd_ne n1, upd_ne n2, upd_ne n1]
    exact e
  · refine ⟨dx, upd_same, ?_⟩
    rw [upd_ne m2, upd_same]
theorem mkX0_reads {C : Addr} {σ : L2.St} {H : Hp} {Q : VK} (k : ∀ a H', H a = none → Ex H H' → H' a = some (exo a C none) → Q (.ref a) H') : tMkX C (spErr0 C) tNil σ H Q :=
  ⟨Nat.zero_le _, fun a ha => ⟨a, rfl, upd_same, rfl, k a _ ha (Ex.new ha) upd_same⟩⟩
theorem xv_reads {K : PySem.W.Frag} {C a : Addr} {f : Str} {y : V} {σ : L2.St} {H : Hp} {Q : VK} {te : TE} (hE : ExK K C) (hno : PySem.W.findIn K (.ref C) f = some none) (hx : ErrAt H a C f y) (ht : ∀ R : VK, R (.ref a) H → te σ H R) (q : Q y H) : tFldU K f te σ H Q := by
  obtain ⟨d, h1, h2⟩ := hx
  exact .inr (ht _ ⟨a, C, d, _, y, rfl, hE, hno, h1, h2, by simp [List.lookup], q⟩)
/-- C(y).f -/
theorem xvm_reads {K : PySem.W.Frag} {C : Addr} {f : Str} {y : V} {σ : L2.St} {H : Hp} {Q : VK} {ta : TA} (hE : ExK K C) (hno : PySem.W.findIn K (.ref C) f = some none) (hy : FmtOk y) (ht : ∀ R : List V → Hp → Prop, R [y] H → ta σ H R) (q : ∀ H', Ex H H' → Q y H') :
    tFldU K f (tMkX C (spErr C f) ta) σ H Q :=
  .inr (mkX_reads hy ht fun a H' _ e ⟨d, h1, h2⟩ => ⟨a, C, d, _, y, rfl, hE, hno, h1, h2, by simp [List.lookup], q H' e⟩)
/-- which of the classes Ds the class C is one of -/
def flagB (K : PySem.W.Frag) (C : Addr) : List Addr → List Bool → Bool
  | [], [] => true
  | D :: Ds, b :: bs => (PySem.W.kitOne K (.ref C) (.ref D) == some b) && flagB K C Ds bs
  | _, _ => false
theorem flagB_cons {K : PySem.W.Frag} {C D : Addr} {Ds : List Addr} {b : Bool} {bs : List Bool} (h : flagB K C (D :: Ds) (b :: bs) = true) : PySem.W.kitOne K (.ref C) (.ref D) = some b ∧ flagB K C Ds bs = true := by
  unfold flagB at h
  rw [Bool.and_eq_true] at h
  exact ⟨eq_of_beq h.1, h.2⟩
theorem XAt.new {H : Hp} {a C p : Addr} {o : HO} (h : XAt H a C) (n : H p = none) : XAt (upd H p o) a C := h.ex (Ex.new n)
end Hr

set_option maxHeartbeats 4000000
namespace Hr
open PySem PySem.Spec PyProof.Rows L2

/-! ### enumerate over a tuple -/
/-- what begins gives an enumerate: its two new cells -/
abbrev enCell (it : Addr) : Obj := { cls := .type "enumerate", data := .fields #[.none, .bool false, .ref it, rawInt 0, .none, .none] }
theorem begun {v : Value} {o : Obj} {G : Heap → Prop} (B : Begins v o G) : Meets (Builtin.«enumerate.__new__» ⟨[.type "enumerate", v], []⟩)
    (fun _ R s => G s.heap ∧ R (.ok (.ret (.ref (s.heap.push o).objs.size))) { s with heap := (s.heap.push o).push (enCell s.heap.objs.size) }) := by
  refine .of_wp fun prog w A R s hs => ?_
  obtain ⟨h0, gn, dr, tk, os⟩ := s
  obtain ⟨hG, hR⟩ := hs
  have isub := sub_enumerate
  have go : ∀ {A' : Around} {E Q : Value → Shared → Prop}, Q (.ref h0.objs.size) ⟨h0.push o, gn, dr, tk, os⟩ → wpAny (model prog w) A' (pyIter v) Q E ⟨h0, gn, dr, tk, os⟩ := fun z => B.iter prog w _ _ _ _ hG z
  wp_walk using go
  refine wpAny_stack_any fun _ => wpAny_pure ?_
  split
  · rename_i c _ _ _ _ _
    by_cases z : (c == Value.type "enumerate") = true <;> (first | rw [z] | rw [Bool.not_eq_true _ |>.mp z]) <;> (wp_walk using go) <;> exact ⟨_, rfl, hR⟩
  · wp_walk using go
    exact ⟨_, rfl, hR⟩
theorem call_en {prog : Program} {w : World} {A : Around} {E Q : Value → Shared → Prop} {s : Shared} {v : Value} {o : Obj} {G : Heap → Prop} (B : Begins v o G) (hG : G s.heap)
    (h : ∀ h' : Heap, h' = (s.heap.push o).push (enCell s.heap.objs.size) → Q (.ref (s.heap.objs.size + 1)) { s with heap := h' }) : wpAny (model prog w) A (call (.type "enumerate") [v]) Q E s := by
  have z : (s.heap.push o).objs.size = s.heap.objs.size + 1 := Heap.size_push ..
  refine callType_new F.called_enumerate (by decide) (F.typeCall_enumerate_1 _) (F.newCall_enumerate_1 _) (fun obj => F.args_object_init_2 obj _) F.entry_enumerate_new (begun B) ⟨hG, ?_⟩
  rw [z]
  have at_ : ((s.heap.push o).push (enCell s.heap.objs.size)).get? (s.heap.objs.size + 1) = some (enCell s.heap.objs.size) := by
    rw [← z]
    exact Heap.get?_push_size _ rfl
  exact ⟨⟨_, at_, rfl⟩, h _ rfl⟩

/-- the tuple at a: at each turn a new pair of the number and the item -/
def Itu (K : PySem.W.Frag) (a : Addr) : It where
  go := fun i H => ∃ (xs : List V) (x : V), SqT K H a xs ∧ xs[i]? = some x
  yld := fun i H v H' => ∃ T x, v = .ref T ∧ H T = none ∧ H' = upd H T (.tup [.int (i : Nat), x]) ∧ ∀ xs, SqT K H a xs → xs[i]? = some x
  stop := fun i H => ∃ xs : List V, SqT K H a xs ∧ xs.length ≤ i
/-- its iterator's state -/
def EnSt (a e it : Addr) (i : Nat) (h : Heap) : Prop := (∃ old, IsEnum h e it ((i : Nat) : Int) old) ∧ h.IsTupleIter it a i ∧ e ≠ it
section
variable {X : Cx} {pins : List (Addr × Obj)} {σ : L2.St} {H : Hp} {s : Shared} {a e it : Addr} {i : Nat} {xs : List V}
theorem en_walks (hc : X.calm = true) (I : Inv X pins σ H s) (st : EnSt a e it i s.heap) (hq : SqT X.K H a xs) : ∃ its : List Value, Vals xs its ∧ s.heap.IsTuple a its.toArray ∧
    WalksT X.prog X.w X.A e (e :: [it, a]) [e, it] its.toArray.size (fun j vals => ∃ t x, its.toArray[j]? = some x ∧ vals = #[.int j t, x]) (fun j h => (∃ old, IsEnum h e it j old) ∧ (h.IsTupleIter it a j ∧ h.IsTuple a its.toArray))
      (fun j T h => (∃ x, IsEnumOut h e it ((j : Int) + 1) x T) ∧ (h.IsTupleIter it a (j + 1) ∧ h.IsTuple a its.toArray) ∧ T ≠ e ∧ T ≠ it) := by
  obtain ⟨⟨old, he⟩, ⟨o, ho, c1, d1⟩, hne⟩ := st
  obtain ⟨its, rv, p, _⟩ := I.tuple hq
  have hT : s.heap.IsTuple a its.toArray := p
  obtain ⟨o2, ho2, c2, d2⟩ := id hT
  have n1 : a ≠ it := fun z => by
    rw [z, ho] at ho2
    have e2 := Option.some.inj ho2
    rw [e2] at c1
    exact absurd (Value.type.inj (c1.symm.trans c2)) (by decide)
  have n2 : e ≠ a := fun z => by
    rw [← z, he] at ho2
    have e2 := Option.some.inj ho2
    rw [← e2] at c2
    exact absurd (Value.type.inj c2) (by decide)
  exact ⟨its, rv, hT, .enumerateD (Draws.tuple (A := X.A.in1) (I.ok.hd hc) it a n1 its.toArray) e hne (by simp [hne, n2]) (by simp)⟩
end
theorem turn_en {P : Program} {w : World} {K : PySem.W.Frag} {elts : List Expr} {kk : Nat} {tpos : Pos} (a e it : Addr) : Turn P w K (.Tuple elts kk tpos) (Itu K a) [e, it] e (EnSt a e it) where
  mem := List.mem_cons_self
  obj := by
    rintro i h ⟨⟨old, he⟩, ⟨o, ho, _, hd⟩, _⟩ b hb
    rcases List.mem_cons.mp hb with rfl | hb
    · exact ⟨_, he, fun v q => by cases q⟩
    · rw [List.mem_singleton.mp hb]
      refine ⟨o, ho, fun v q => ?_⟩
      rw [hd] at q
      cases q
  keep := by
    rintro i h h' ⟨⟨old, he⟩, hi, hne⟩ k
    exact ⟨⟨old, k e List.mem_cons_self _ he⟩, hi.at fun o q => k it (List.mem_cons_of_mem _ List.mem_cons_self) o q, hne⟩
  item := by
    rintro X rfl rfl rfl hc i pins s σ H E I hf st ⟨xs, x, hq, hx⟩
    obtain ⟨its, rv, hT, W⟩ := en_walks hc I st hq
    obtain ⟨u, hu, ru⟩ := rv.get hx
    refine W.item i s _ _ (by simpa using (List.getElem?_eq_some_iff.mp hu).1) ⟨st.1, st.2.1, hT⟩ fun T vals h' tk ⟨t, u', hu', ev⟩ hsz hT' hM hk => ⟨_, rfl, ?_⟩
    subst ev
    obtain rfl : u = u' := Option.some.inj (hu.symm.trans (by simpa using hu'))
    have nT := W.apart _ _ _ hM
    refine W.go _ _ _ i T { s with heap := h', toks := tk } _ _ hM fun h2 ⟨en, it2, _⟩ hk2 => ?_
    have hT2 : h2.IsTuple T #[.int i t, u] := hT'.at fun o q => hk2 T o nT q
    refine ⟨.ref T, _, I.turnedNew (t' := tk) (ch := [e, it]) (fun b ob hb q => hk2 b ob hb (hk b ob hb q)) hf hsz (ob := .tup [.int (i : Nat), x]) ⟨by show 2 ≤ sizeLine; decide, [.int i t, u], .cons ⟨_, rfl⟩ (.cons ru .nil), hT2⟩,
      rfl, ⟨T, x, rfl, I.hok.fresh hsz, rfl, fun ys hy => by rw [I.tuple_inj hy hq]; exact hx⟩, ⟨en, it2, st.2.2⟩, fun b hb => ?_⟩
    rw [upd_ne (show b ≠ T from fun z => nT (by rw [← z]; exact hb))]
    exact (hf b hb).1
  done := by
    rintro X rfl rfl rfl hc i pins s σ H E I hf st ⟨xs, hq, hx⟩
    obtain ⟨⟨old, he⟩, hit, hne⟩ := id st
    obtain ⟨its, rv, p, _⟩ := I.tuple hq
    have hT : s.heap.IsTuple a its.toArray := p
    have nx : its.toArray[i]? = none := by
      have := rv.length
      simp only [List.getElem?_toArray, List.getElem?_eq_none_iff]
      omega
    have cls : s.TypeIs (.ref e) "enumerate" := ⟨_, he, rfl⟩
    unfold pyNext
    refine wpAny_bind (wpAny_attempt (wpAny_callSpecial?_slot (name := Str.ofString "__next__") cls F.slot_enumerate_next (wpAny_call_entry F.slot_enumerate_next cls F.entry_enumerate_next ?_ (F.args_enumerate_next_1 _))))
    show wpAny _ _ (field (.ref e) 2 >>= fun it => Builtin.SmallTypes.nextOf it >>= _) _ _ s
    refine wpAny_bind (wpAny_field he rfl (x := .ref it) rfl (wpAny_bind (wpAny_nextOf_tuple_end (I.ok.hd hc) hit hT nx ?_)))
    rintro h' x he' hx'
    obtain ⟨o, ho, hco⟩ := hx'
    exact wpAny_bind (wpAny_isInstance (T := "StopIteration") (b := true) (show ∃ o, _ from ⟨o, ho, hco⟩) isSubtype_stop (wpAny_pure ⟨rfl, I.turnedL (t' := s.toks) (ch := [it]) (fun b o hb q => he' b o (fun z => hb (by rw [z]; exact List.mem_cons_self)) q) fun b hb => hf b (List.mem_cons_of_mem _ hb)⟩))
  self := by
    rintro A i s Q E ⟨⟨_, he⟩, _⟩ h
    exact wpAny_pyIter_enum he h
def iEnT (K : PySem.W.Frag) (ta : TA) : TI := fun σ H R => ta σ H fun vs H1 => ∃ a xs, vs = [.ref a] ∧ SqT K H1 a xs ∧ R (Itu K a) H1
theorem pi_enT {X : Cx} {e : Expr} {ta : TA} {p pos tpos : Pos} {elts : List Expr} {kk : Nat} (hg : Gl X "enumerate") (hm : X.mg "enumerate" = none) (ha : PA X [e] ta) (hs : starEach [e] X.env = [(false, eval e X.env)] := by rfl) :
    PI X (.Tuple elts kk tpos) (.Call (.Name "enumerate" p) [e] [] pos) (iEnT X.K ta) := by
  constructor
  intro pins s σ H R I h
  refine Call_ (ld_blt I hg hm boot_enumerate (PyProof.Rows.callWith_type1 (thn (ha.run pos pins s σ H _ I h) ?_) hs rfl))
  rintro us s1 ⟨vs, H1, I1, r1, a, xs, rfl, hq, q⟩
  obtain ⟨u, rfl, ru⟩ : ∃ u, us = [u] ∧ RelV (.ref a) u := by
    cases r1 with
    | cons r rr =>
      cases rr
      exact ⟨_, rfl, r⟩
  cases ru
  obtain ⟨its, _, tup, _⟩ := I1.tuple hq
  refine call_en (begins_tuple a its.toArray) tup fun h' eh => ?_
  have kept : ∀ b o, s1.heap.get? b = some o → h'.get? b = some o := fun b o z => by
    rw [eh]
    exact Heap.get?_push_of_some _ (Heap.get?_push_of_some _ z)
  have hn : IsEnum h' (s1.heap.objs.size + 1) s1.heap.objs.size 0 .none := by
    have z : (s1.heap.push { cls := .type "tuple_iterator", data := .fields #[.ref a, .int 0 0] }).objs.size = s1.heap.objs.size + 1 := Heap.size_push ..
    rw [eh, ← z]
    exact Heap.get?_push_size _ rfl
  have hi : h'.IsTupleIter s1.heap.objs.size a 0 := ⟨_, by rw [eh]; exact Heap.get?_push_of_some _ (Heap.get?_push_size _ rfl), rfl, rfl⟩
  refine wpAny_pyIter_enum hn ⟨_, [s1.heap.objs.size + 1, s1.heap.objs.size], _, _, H1, rfl, I1.kept (t' := s1.toks) kept, turn_en a _ s1.heap.objs.size, ⟨⟨_, hn⟩, hi, Nat.succ_ne_self _⟩, fun b hb => ?_, q⟩
  have le : s1.heap.objs.size ≤ b := by
    rcases List.mem_cons.mp hb with z | z
    · exact z ▸ Nat.le_succ _
    · exact (List.mem_singleton.mp z) ▸ Nat.le_refl _
  exact I1.fpOk le (I1.hok.fresh le)
end Hr

set_option maxHeartbeats 4000000
namespace Hr
open PySem PySem.Spec PyProof.Rows L2
open Evl (Ex)

/-! ### calls by positional promises, what is raised told of the slots -/
section
variable {X : Cx} {pins : List (Addr × Obj)} {σ : L2.St} {H : Hp} {s : Shared} {CX : CXT} {k : Nat} {f C : Addr} {sp : Sp} {E : L2.St → XK} {Q : VK} {us : List Value} {vs : List V}
/-- what a call leaves: a value, or what the context wishes of an error -/
def Left (X : Cx) (pins : List (Addr × Obj)) (σ : L2.St) (Q : VK) (r : Result) (s' : Shared) : Prop := (∃ u, r = .ok (.ret u) ∧ EP X pins σ Q u s') ∨ ∃ e, r = .error e ∧ X.xe e s'
theorem left_of {E' : XK} {r : Result} {s' : Shared} (I : Inv X pins σ H s) (hx : ∀ e, CX X.stack H s E' e s' → X.xe e s') (h : CR CX X.stack X.prog X.w H s Q E' r s') : Left X pins σ Q r s' := by
  rcases r with e | (_ | _ | _ | u)
  · exact .inr ⟨e, rfl, hx e h⟩
  all_goals first | exact .inl ⟨_, rfl, I.after h⟩ | exact (show False from h).elim
theorem run_left {fn : Addr} (h : codeAny (model X.prog X.w) X.A (.call (.ref fn) ⟨us, []⟩) (Left X pins σ Q) s) : wpAny (model X.prog X.w) X.A (call (.ref fn) us) (EP X pins σ Q) X.xe s := by
  refine wpAny_call (codeAny_mono h fun r s' q => ?_)
  rcases q with ⟨u, rfl, q⟩ | ⟨e, rfl, q⟩ <;> exact q
theorem run_fnRS (F : FnR X.prog X.w X.K X.mg X.base CX k f sp) (hr : Room k X.A) (hx : PassesAt CX X σ (E σ)) (I : Inv X pins σ H s) (r : Vals vs us) (h : sp vs H Q (E σ)) : codeAny (model X.prog X.w) X.A (.call (.ref f) ⟨us, []⟩) (Left X pins σ Q) s :=
  codeAny_mono (F X.A X.stack s H us vs Q (E σ) hr I.env0 r h) fun _ s' hq => left_of I (fun e z => hx pins H s e s' I z) hq
theorem run_makeRS (M : Mk X.K C f) (F : FnR X.prog X.w X.K X.mg X.base CX k f sp) (hr : Room (k + 1) X.A) (hx : PassesAt CX X σ (E σ)) (I : Inv X pins σ H s) (r : Vals vs us)
    (h : ∀ x dx, H x = none → H dx = none → dx ≠ x → sp (V.ref x :: vs) (upd (upd H dx (.own x)) x (.ins C dx [])) (fun v H2 => v = .non ∧ Q (.ref x) H2) (E σ)) (hup : StX.CXUp CX) :
    wpAny (model X.prog X.w) X.A (call (.ref C) us) (EP X pins σ Q) X.xe s := by
  have J := Inv.made (C := C) I
  have free : ∀ j, H (s.heap.objs.size + j) = none := fun j => I.hok.fresh (Nat.le_add_right _ _)
  have run := F (X.A.under (.builtin "type.__call__" ⟨.ref C :: us, []⟩)) X.stack _ _ (.ref (s.heap.objs.size + 1) :: us) (.ref (s.heap.objs.size + 1) :: vs) _ (E σ) (hr.make C us []) (J.env0.make C us []) (.cons rfl r) (h _ _ (free 1) (free 0) (Nat.ne_of_lt (Nat.lt_succ_self _)))
  refine wpAny_call (make_map (f := f) I.kIn M.makes M.init (beq_iff_eq.mp M.fn) (codeAny_mono run fun r' s' z => ?_))
  rcases r' with e | (_ | _ | _ | u)
  · exact hx pins _ _ e s' J z
  all_goals first
    | exact (show False from z).elim
    | (obtain ⟨v, H3, I3, rv, rfl, q⟩ := J.after z
       exact ⟨rv, V.ref _, H3, I3, rfl, q⟩)
end
/-- C(e, ..) -/
def tMkS (C : Addr) (sp : Sp) (E : L2.St → XK) (t : TA) : TE := fun σ H Q => t σ H fun vs H1 => ∀ x dx, H1 x = none → H1 dx = none → dx ≠ x →
  sp (V.ref x :: vs) (upd (upd H1 dx (.own x)) x (.ins C dx [])) (fun v H2 => v = .non ∧ Q (.ref x) H2) (E σ)
/-- c(e, .., *y), the slot i holding the class at C -/
def tMkL (i : Nat) (C : Addr) (sp : Sp) (E : L2.St → XK) (t : TA) : TE := fun σ H Q => σ[i]? = some (some (.ref C)) ∧ tMkS C sp E t σ H Q
def tCmS (C : Addr) (sp : Sp) (E : L2.St → XK) (ta : TE) (t : TA) : TE := fun σ H Q => ta σ H fun x H1 => x = .ref C ∧ t σ H1 fun vs H2 => sp (.ref C :: vs) H2 Q (E σ)
section
variable {X : Cx} {CX : CXT} {k i : Nat} {f C p' g : Addr} {mc : Value} {sp : Sp} {E : L2.St → XK} {x m : Str} {e o : Expr} {es : List Expr} {ta : TE} {t : TA} {p pos apos : Pos} {pl : Sem Bool}
theorem pe_mkS (M : Mk X.K C f) (F : FnR X.prog X.w X.K X.mg X.base CX k f sp) (hr : Room (k + 1) X.A) (hg : Gl X x) (hm : X.mg x = some (.ref C)) (hx : ∀ σ, PassesAt CX X σ (E σ)) (hup : StX.CXUp CX) (ha : PA X (e :: es) t) (hdb : (x == ("__debug__" : Str)) = false := by decide)
    (he : starEach (e :: es) X.env = (false, eval e X.env) :: starEach es X.env := by rfl) (hpl : (backTo pos (starEach es X.env)).any (·.1) = false := by rfl) : PE X (.Call (.Name x p) (e :: es) [] pos) (tMkS C sp E t) := by
  refine ⟨fun pins s σ H Q I h => ?_⟩
  refine wpAny_Call_Name_kw (ld_glob I hg hm ?_ hdb)
  refine PySem.W.callWith_K (h₀ := X.base) I.ok.mod.kin M.kp (thn (ha.run pos pins s σ H _ I h) fun us s1 ⟨vs, H1, I1, r, q⟩ => ⟨I1.kIn, ?_⟩) he hpl
  exact run_makeRS M F hr (hx σ) I1 r q hup
theorem pe_mkL (M : Mk X.K C f) (F : FnR X.prog X.w X.K X.mg X.base CX k f sp) (hr : Room (k + 1) X.A) (hN : X.N[i]? = some x) (hv : Vis X.env.scope x) (hx : ∀ σ, PassesAt CX X σ (E σ)) (hup : StX.CXUp CX) (ha : PA X (e :: es) t) (hdb : (x == ("__debug__" : Str)) = false := by decide)
    (hcd : (x == ("__classdict__" : Str)) = false := by decide) (he : starEach (e :: es) X.env = (false, eval e X.env) :: starEach es X.env := by rfl) (hst : (backTo pos (starEach es X.env)).any (·.1) = true := by rfl) :
    PE X (.Call (.Name x p) (e :: es) [] pos) (tMkL i C sp E t) := by
  refine ⟨fun pins s σ H Q I h => ?_⟩
  obtain ⟨hs, ht⟩ := h
  refine wpAny_Call_Name_kw (thn ((pe_var (pos := p) hN hv hdb hcd).run pins s σ H (fun v H1 => v = .ref C ∧ H1 = H) I ⟨.ref C, hs, rfl, rfl⟩) fun u s1 ⟨v, H1, I1, r1, q1⟩ => ?_)
  obtain ⟨rfl, rfl⟩ := q1
  cases r1
  refine PySem.W.callWith_S2 (h₀ := X.base) I1.ok.mod.kin M.kp (thn (ha.run pos pins s1 σ _ _ I1 ht) fun us s2 ⟨vs, H2, I2, r, q⟩ => ⟨I2.kIn, ?_⟩) he hst
  exact run_makeRS M F hr (hx σ) I2 r q hup
theorem pe_cmS (he : PE X o ta) (r : ClX.CRead X.K C mc) (c : ClX.CMet X.K C mc m p' g) (F : FnR X.prog X.w X.K X.mg X.base CX k g sp) (hr : Room k X.A) (hx : ∀ σ, PassesAt CX X σ (E σ)) (ha : PA X (e :: es) t)
    (hst : starEach (e :: es) X.env = (false, eval e X.env) :: starEach es X.env := by rfl) (hpl : (backTo pos (starEach es X.env)).any (·.1) = false := by rfl)
    (ht : eval (.Call (.Attribute o m apos) (e :: es) [] pos) X.env = (do
      let ov ← eval o X.env
      standAt apos.atName
      let (f, first) ← holding [ov] (getMethod ov m pl)
      callWith pos f first (backTo pos (starEach (e :: es) X.env)) (backToKw pos (keywordEach [] X.env))) := by rfl) :
    PE X (.Call (.Attribute o m apos) (e :: es) [] pos) (tCmS C sp E ta t) := by
  refine ⟨fun pins s σ H Q I h => ?_⟩
  refine PySem.W.methodCall_KW (pl := pl) (thn (he.run pins s σ H _ I h) fun u s1 ⟨x, H1, I1, rx, ex, q⟩ => ?_) ht
  subst ex
  obtain rfl : u = Value.ref C := rx
  refine ClX.getmethcm_ok I1 r c fun s2 I2 => ?_
  refine ClX.callwith_cm I2 (ClX.base_none I1 (Nat.le_refl _)) c.fi (thn (ha.run pos _ s2 σ H1 _ I2 q) fun us s3 ⟨vs, H2, I3, rv, q2⟩ => ⟨⟨ClX.pin_at I3, I3.kIn⟩, ?_⟩) hst hpl
  have z : wpAny (model X.prog X.w) X.A (call (.ref s1.heap.objs.size) us) (EP X ((s1.heap.objs.size, PySem.W.methodObj (.ref g) (.ref C)) :: pins) σ Q) X.xe s3 := by
    refine wpAny_call (PySem.W.method_call (ClX.pin_at I3) (codeAny_mono (run_fnRS (us := .ref C :: us) (vs := .ref C :: vs) F hr (hx σ) I3 (.cons rfl rv) q2) fun r s' y => ?_))
    rcases y with ⟨u, rfl, y⟩ | ⟨e, rfl, y⟩ <;> exact y
  exact thn z fun _ _ y => ClX.unpinE y
end

/-! ### a def that is called in an except suite, with the exception that was caught (its address, its class, its dict) -/
structure FnP (P : Program) (w : World) (K : PySem.W.Frag) (mg : Str → Option Value) (base : Heap) (CX : CXT) (k : Nat) (f : Addr) (fd : FuncData) (ps : List Str) (sp : Addr → Value → Option Addr → Sp) : Prop where
  len : ∀ a cls d vs H Q E, sp a cls d vs H Q E → vs.length = ps.length
  run : ∀ (A : Around) (outer : List Env) (s : Shared) (H : Hp) (args : Args) (us : List Value) (vs : List V) (Q : VK) (E : XK) (p : Addr × Obj) (cls : Value) (d : Option Addr), L2H.RoomH k A → Zc cls d p.2 → (∃ vs, p.2.data = .fields vs) → L2H.PinOk outer H s p → Env0 P w K mg base A outer s H →
    BindsTo s fd args (ps.zip us) → Vals vs us → sp p.1 cls d vs H Q E → codeAny (model P w) A (.call (.ref f) args) (CR CX outer P w H s Q E) s
theorem fnP_of {CX : CXT} {P : Program} {w : World} {K : PySem.W.Frag} {mg : Str → Option Value} {base : Heap} {k : Nat} {f : Addr} {x qual : Str} {st : Stmt} {fd : FuncData} {N ps : List Str} {sp : Addr → Value → Option Addr → Sp} (F : Fun K x qual st f fd) (S : FnScope N ps (defScope st))
    (len : ∀ a cls d vs H Q E, sp a cls d vs H Q E → vs.length = ps.length)
    (hbody : ∀ (cdv : Value) (A : Around) (outer : List Env) (s : Shared) (H : Hp) (vs : List V) (Q : VK) (E : XK) (p : Addr × Obj) (cls : Value) (d : Option Addr), Zc cls d p.2 → (∃ vs, p.2.data = .fields vs) → L2H.RoomH k (A.deeper (envOfC qual (defScope st) s.heap.objs.size f cdv)) → sp p.1 cls d vs H Q E →
      ∃ t, PSs (L2H.cxH CX P w K mg base N qual (defScope st) f cdv A outer s H E p) (defBody st) t ∧ t { nx := fun _ H' => Q .non H', rt := Q } (L2.start N vs) H) :
    FnP P w K mg base CX (k + 1) f fd ps sp := by
  obtain ⟨oc, od, kV, dc, pm, an, cdv, ct, osl, hfd, lk, hcd⟩ := F.ex
  subst hfd
  refine ⟨len, ?_⟩
  intro A outer s H args us vs Q E p cls d hr hz hot hpin e0 hb r hsp
  have low : ∀ b o, base.get? b = some o → s.heap.get? b = some o := fun b o z => (e0.bs b o z).1
  have inK := e0.mod.kin.keeps low
  have kinds : ∀ y ∈ ps.zip us, (defScope st).names.lookup y.1 = some .local ∨ ((defScope st).names.lookup y.1 = some .cell ∧ ((cellsFrom (s.heap.objs.size + 1) (defScope st).names []).lookup y.1).isSome = true) := by
    rintro ⟨n, v⟩ hy
    exact (S.par n (List.of_mem_zip hy).1).imp id fun q => ⟨q, PySem.W.cellsFrom_some _ _ _ (.inl q)⟩
  refine codeAny_call_function hr.depth (inK _ _ lk) rfl S.co S.gen rfl (PySem.W.codeRec_of inK hcd) (hb _ _ _ _ (wpAny_newFunctionEnv_cells S.kind kinds ?_))
  rintro _ rfl s1 x
  obtain ⟨t, ht, hq⟩ := hbody cdv A outer s H vs Q E p cls d hz hot (hr.deeper _) hsp
  have J := ht.run [] s1 (L2.start N vs) H _ (L2H.inv_startH S hpin e0 (len _ _ _ _ _ _ _ hsp) r x) hq
  refine ⟨(e0.mod.nolimit.keeps low).keeps x.toInCall.keep, codeAny_func (wpAny_mono J ?_ fun _ _ z => z)⟩
  rintro (_ | _ | _ | u) s' z
  · obtain ⟨σ', H', G, q⟩ := z
    exact ⟨.non, H', G.os, G.bare, G.base, G.hok, rfl, q⟩
  · obtain ⟨_, _, _, q⟩ := z
    exact q.elim
  · obtain ⟨_, _, _, q⟩ := z
    exact q.elim
  · obtain ⟨v, σ', H', G, rv, q⟩ := z
    exact ⟨v, H', G.os, G.bare, G.base, G.hok, rv, q⟩
section
variable {X : Cx} {CX : CXT} {k : Nat} {f : Addr} {fd : FuncData} {ps : List Str} {sp : Addr → Value → Option Addr → Sp} {x : Str} {q pos : Pos} {e : Expr} {es : List Expr} {t : TA} {a : Addr} {oe : Obj} {cls : Value} {d : Option Addr}
theorem pe_callP (F : FnP X.prog X.w X.K X.mg X.base CX k f fd ps sp) (hr : L2H.RoomH k X.A) (hp : (a, oe) ∈ X.pn) (hz : Zc cls d oe) (hf : ∃ vs, oe.data = .fields vs) (hg : Gl X x) (hm : X.mg x = some (.ref f)) (hk : PySem.W.keepIn X.K (.ref f) = true) (hb : Binds X.K fd ps []) (hx : Passes CX X (fun _ _ _ => False))
    (ha : PA X (e :: es) t) (hdb : (x == ("__debug__" : Str)) = false := by decide) (he : starEach (e :: es) X.env = (false, eval e X.env) :: starEach es X.env := by rfl) (hpl : (backTo pos (starEach es X.env)).any (·.1) = false := by rfl) :
    PE X (.Call (.Name x q) (e :: es) [] pos) (fun σ H Q => t σ H fun vs H1 => sp a cls d vs H1 Q (fun _ _ _ => False)) := by
  refine ⟨fun pins s σ H Q I h => ?_⟩
  refine wpAny_Call_Name_kw (ld_glob I hg hm ?_ hdb)
  refine PySem.W.callWith_K (h₀ := X.base) I.ok.mod.kin hk (thn (ha.run pos pins s σ H _ I h) fun us s1 ⟨vs, H1, I1, r, q⟩ => ⟨I1.kIn, ?_⟩) he hpl
  have b := hb s1 us I1.kIn (by rw [List.append_nil, ← r.length]; exact F.len _ _ _ _ _ _ _ q)
  rw [List.append_nil] at b
  obtain ⟨p1, p2, p3, p4, p5⟩ := I1.pin (a, oe) (List.mem_append_left _ hp)
  have pin : L2H.PinOk X.stack H1 s1 (a, oe) := ⟨p1, p2, fun hm => by
    rcases List.mem_cons.mp (I1.stkSub a hm) with z | z
    · exact p3 z
    · exact p4 z, p5⟩
  exact run_left (codeAny_mono (F.run X.A X.stack s1 H1 ⟨us, []⟩ us vs Q (fun _ _ _ => False) (a, oe) cls d hr hz hf pin I1.env0 b r q) fun _ s' z => left_of I1 (fun e y => hx pins σ H1 s1 e s' I1 y) z)
end

/-! ### the exception that is pinned: its class, its field -/
def PinAt (K : PySem.W.Frag) (cls : Value) (d : Option Addr) (H : Hp) (C : Addr) (fs : List (Str × V)) : Prop := cls = .ref C ∧ ∃ dd : Addr, d = some dd ∧ H dd = some (.xd fs) ∧ ExK K C
theorem PinAt.ex {K : PySem.W.Frag} {cls : Value} {d : Option Addr} {H H' : Hp} {C : Addr} {fs : List (Str × V)} (h : PinAt K cls d H C fs) (e : Ex H H') : PinAt K cls d H' C fs := let ⟨z, dd, hd, hx, k⟩ := h; ⟨z, dd, hd, e _ _ hx, k⟩
section
variable {X : Cx} {pins : List (Addr × Obj)} {σ : L2.St} {H : Hp} {s : Shared} {a : Addr} {oe : Obj} {cls : Value} {d : Option Addr}
theorem pin_inst {C : Addr} {fs : List (Str × V)} (I : Inv X pins σ H s) (hp : (a, oe) ∈ X.pn) (hz : Zc cls d oe) (hf : ∃ vs, oe.data = .fields vs) (h : PinAt X.K cls d H C fs) :
    ∃ (od : Obj) (mA : Str → Option Value), PySem.W.InstAt s.heap a oe C (some od) ∧ (∀ f, PySem.W.lookIn f od = some (mA f)) ∧ ∀ f, RelO (fs.lookup f) (mA f) := by
  obtain ⟨rfl, d, rfl, hd, T⟩ := h
  have ha := (I.pin (a, oe) (List.mem_append_left _ hp)).1
  obtain ⟨vs, hv⟩ := hf
  have hx : ObjOk X.prog X.w H s.heap d (.xd fs) := I.hok d _ hd
  obtain ⟨mA, hns, hr⟩ := hx
  obtain ⟨od, ho, hl⟩ := lookIn_ns hns
  exact ⟨od, mA, ⟨ha, hz.1, by unfold PySem.W.notCls; rw [hv] <;> rfl, by rw [hz.2]; exact ho⟩, hl, hr⟩
def rIsP (K : PySem.W.Frag) (a : Addr) (cls : Value) (d : Option Addr) : List V → Hp → VK → Prop := fun xs H Q => ∃ (C : Addr) (fs : List (Str × V)), PinAt K cls d H C fs ∧
  ((∃ (c : V) (cv : Value) (b : Bool), xs = [.ref a, c] ∧ ClsV c cv ∧ PySem.W.kitOne K (.ref C) cv = some b ∧ Q (.bl b) H) ∨
    ∃ (tp : Addr) (cs : List V) (ws : List Value) (b : Bool), xs = [.ref a, .ref tp] ∧ H tp = some (.tup cs) ∧ Paired ClsV cs ws ∧ PySem.W.kitAny K (.ref C) ws = some b ∧ Q (.bl b) H)
theorem call_isP {K : PySem.W.Frag} (hK : X.K = K) (hp : (a, oe) ∈ X.pn) (hz : Zc cls d oe) (hf : ∃ vs, oe.data = .fields vs) : CallR X (.builtin "isinstance") (rIsP K a cls d) := by
  subst hK
  intro pins s σ H xs us Q I r h
  obtain ⟨C, fs, hP, h⟩ := h
  obtain ⟨od, mA, J, _, _⟩ := pin_inst I hp hz hf hP
  obtain ⟨_, _, _, _, T⟩ := hP
  rcases h with ⟨c, cv, b, rfl, kc, e, q⟩ | ⟨tp, cs, ws, b, rfl, hT, k, e, q⟩
  · obtain ⟨u1, u2, rfl, r1, r2⟩ := vals2 r
    have e2 := kc.eq r2
    subst e2
    obtain rfl : u1 = Value.ref a := r1
    exact PySem.W.kia_one (kit_x T (some od)) I.kIn ⟨_, J⟩ e (fun z => nomatch z) fun tk => ⟨.bl b, H, I.tok tk, rfl, q⟩
  · obtain ⟨u1, u2, rfl, r1, r2⟩ := vals2 r
    obtain rfl : u2 = Value.ref tp := r2
    obtain rfl : u1 = Value.ref a := r1
    have ob : ObjOk X.prog X.w H s.heap tp (.tup cs) := I.hok tp _ hT
    obtain ⟨_, its, rv, ⟨oc, od', dt, sl⟩, h1, h2, n, h3⟩ := ob
    obtain rfl := ClsV.all k rv
    obtain rfl : oc = .type "tuple" := h2
    obtain rfl : dt = .seq its.toArray n := h3
    exact PySem.W.kia_tup (kit_x T (some od)) I.kIn ⟨_, J⟩ h1 e (fun z => nomatch z) fun tk => ⟨.bl b, H, I.tok tk, rfl, q⟩
def tXp (K : PySem.W.Frag) (a : Addr) (cls : Value) (d : Option Addr) (f : Str) (te : TE) : TE := fun σ H Q => te σ H fun x H1 => ∃ (C : Addr) (fs : List (Str × V)) (v : V), x = .ref a ∧ PinAt K cls d H1 C fs ∧ PySem.W.findIn K (.ref C) f = some none ∧ fs.lookup f = some v ∧ Q v H1
theorem pe_xp {K : PySem.W.Frag} {e : Expr} {te : TE} {f : Str} {pos : Pos} (hK : X.K = K) (hp : (a, oe) ∈ X.pn) (hz : Zc cls d oe) (hf : ∃ vs, oe.data = .fields vs) (he : PE X e te) (hb : attributeBase e f X.env (eval e X.env) = eval e X.env := by rfl) :
    PE X (.Attribute e f pos) (tXp K a cls d f te) := by
  subst hK
  refine ⟨fun pins s σ H Q I h => ?_⟩
  refine attr_of hb (thn (he.run pins s σ H _ I h) fun u s1 hh => ?_)
  obtain ⟨x, H1, I1, rx, C, fs, v, ex, hP, hno, l, q⟩ := hh
  subst ex
  obtain rfl : u = Value.ref a := rx
  obtain ⟨od, mA, J, hl, hr⟩ := pin_inst I1 hp hz hf hP
  obtain ⟨_, _, _, _, T⟩ := hP
  obtain ⟨u, hu, ru⟩ := RelO.some_of (v := v) (o := mA f) (by rw [← l]; exact hr f)
  exact HandSPX.exc_get I1.kIn J T.ga T.gg T.exC (PySem.W.findObj_own T.hdC hno rfl (by rw [hl, hu])) (handed_of ru) ⟨v, H1, I1.tok _, ru, q⟩
end

/-! ### C(y) raised, its own __init__ storing y -/
theorem mkO_reads {C : Addr} {f : Str} {y : V} {H1 : Hp} {Q : XK} {E : XK} (hy : FmtOk y) (q : ∀ d H', H1 d = none → Ex H1 H' → H' d = some (.xd [(f, y)]) → Q (.ref C) (some d) H') :
    [y].length ≤ 1000 ∧ ∀ a, H1 a = none → spErr C f (.ref a :: ([y] ++ [])) (upd H1 a (exo a C none))
      (fun v H2 => v = .non ∧ ∃ (d : Addr) (fs : List (Str × V)), H2 a = some (exo a C (some d)) ∧ H2 d = some (exd d fs) ∧ H1 d = none ∧ Q (.ref C) (some d) (upd (del H2 a) d (.xd fs))) E := by
  refine ⟨by show 1 ≤ 1000; decide, fun a ha => ⟨a, y, rfl, hy, upd_same, fun dx n1 n2 => ⟨rfl, dx, [(f, y)], upd_same, (by rw [upd_ne n2, upd_same]), (by rw [upd_ne n2] at n1; exact n1), ?_⟩⟩⟩
  have nd : H1 dx = none := by
    rw [upd_ne n2] at n1
    exact n1
  refine q dx _ nd (fun b o h => ?_) upd_same
  have h1 : b ≠ dx := ne_of_none h nd
  have h2 : b ≠ a := ne_of_none h ha
  rw [upd_ne h1, del_ne h2, upd_ne h2, upd_ne h1, upd_ne h2]
  exact h
end Hr

set_option maxHeartbeats 4000000
namespace Hr
open PySem PySem.Spec PyProof.Rows L2
open Evl (Ex)
section
variable {X : Cx} {K : PySem.W.Frag}
theorem kCon {e : Expr} {te : TE} {f : Str} {pos : Pos} (hK : X.K = K) (he : PE X e te) (hb : attributeBase e f X.env (eval e X.env) = eval e X.env := by rfl) : PE X (.Attribute e f pos) (tCon K te f) := by
  subst hK
  exact pe_con he hb
theorem kSFld {o value : Expr} {f : Str} {pos pos' : Pos} {ta tv : TE} (hK : X.K = K) (ha : PE X o ta) (hv : PE X value tv) (hs : swapsWith value (some (.Attribute o f pos')) pos.line X.env = pure false := by rfl) : PS X (.Assign [.Attribute o f pos'] value pos) (sFld K ta tv f) := by
  subst hK
  exact ps_fld ha hv hs
theorem kAll (hK : X.K = K) (hc : X.calm = true) : CallR X (.builtin "all") (rAll K) := by
  subst hK
  exact cr_all hc
theorem kEnT {e : Expr} {ta : TA} {p pos tpos : Pos} {elts : List Expr} {kk : Nat} (hK : X.K = K) (hg : Gl X "enumerate") (hm : X.mg "enumerate" = none) (ha : PA X [e] ta) (hs : starEach [e] X.env = [(false, eval e X.env)] := by rfl) :
    PI X (.Tuple elts kk tpos) (.Call (.Name "enumerate" p) [e] [] pos) (iEnT K ta) := by
  subst hK
  exact pi_enT hg hm ha hs
theorem kStar {e : Expr} {es : List Expr} {te : TE} {t : TA} {p : Pos} (hK : X.K = K) (he : PE X e te) (hr : PA X es t) (hs : starEach (.Starred e p :: es) X.env = (true, eval e X.env) :: starEach es X.env := by rfl) : PA X (.Starred e p :: es) (StX.tStar K te t) := by
  subst hK
  exact StX.pa_star he hr hs
end
theorem roomM {k : Nat} {A : Around} (r : Room k A) (h : Option Value) : L2H.RoomH k (A.mark h) := ⟨r.dp, r.un⟩

/-! ### names -/
def okC (c : Nat) : Bool := decide (97 ≤ c) && decide (c ≤ 122)
def nameOk (s : Str) : Bool := decide (1 ≤ s.length) && decide (s.length ≤ 12) && s.cps.toList.all okC
/-! ### stops -/
def pairD (s : Int × Str) : PyData := .tuple [.int s.1, .str s.2]
def perOk (p : Int) : Bool := decide (1 ≤ p) && decide (p ≤ 1000000000)
/-- the first wrong one -/
def bad (period : Int) : Nat → Int → List (Int × Str) → Option Nat
  | _, _, [] => none
  | i, before, (t, p) :: r => if 8 ≤ i ∨ ¬ (before < t ∧ t < period) ∨ nameOk p = false then some i else bad period (i + 1) t r
def due (period : Int) (ss : List (Int × Str)) : V := if perOk period = true then (match bad period 0 (-1) ss with | none => .non | some i => .int i) else .str "period"
theorem pair_cases {K : PySem.W.Frag} {H : Hp} {v : V} {s : Int × Str} (h : Dp K H v (pairD s)) : ∃ a, v = .ref a ∧ SqT K H a [.int s.1, .str s.2] := by
  unfold pairD at h
  cases h with
  | tup h1 h2 =>
    cases h2 with
    | cons h3 h4 =>
      cases h3
      cases h4 with
      | cons h5 h6 =>
        cases h5
        cases h6
        exact ⟨_, rfl, h1⟩
theorem tup_cases {K : PySem.W.Frag} {H : Hp} {v : V} {ds : List PyData} (h : Dp K H v (.tuple ds)) : ∃ a vs, v = .ref a ∧ SqT K H a vs ∧ DpAll K H vs ds := by
  cases h with
  | tup h1 h2 => exact ⟨_, _, rfl, h1, h2⟩
end Hr
namespace Hr
open PySem PySem.Spec PyProof.Rows L2
open Evl (Ex)
section
variable {K : PySem.W.Frag} {a C D D1 D2 D3 D4 : Addr} {cls : Value} {d : Option Addr} {fs : List (Str × V)} {σ : L2.St} {H : Hp} {QT : Bool → Hp → Prop} {u : TT}
theorem isP_no (hP : PinAt K cls d H C fs) (k1 : PySem.W.kitOne K (.ref C) (.ref D) = some false) (h0 : σ[0]? = some (some (.ref a))) (q : QT false H) : tAnd (tB (tCB (rIsP K a cls d) (tCons (tVar 0) (tCons (tC (.ref D)) tNil)))) u σ H QT :=
  ⟨_, h0, C, fs, hP, .inl ⟨_, _, _, rfl, .own _, k1, _, rfl, iteF q⟩⟩
theorem isP_yes (hP : PinAt K cls d H C fs) (k1 : PySem.W.kitOne K (.ref C) (.ref D) = some true) (k2 : PySem.W.kitAny K (.ref C) [.ref D1, .ref D2, .ref D3, .ref D4] = some false) (h0 : σ[0]? = some (some (.ref a))) (q : ∀ H', Ex H H' → QT true H') :
    tAnd (tB (tCB (rIsP K a cls d) (tCons (tVar 0) (tCons (tC (.ref D)) tNil)))) (tNot (tB (tCB (rIsP K a cls d) (tCons (tVar 0) (tCons (tTup (tCons (tC (.ref D1)) (tCons (tC (.ref D2)) (tCons (tC (.ref D3)) (tCons (tC (.ref D4)) tNil))))) tNil))))) σ H QT :=
  ⟨_, h0, C, fs, hP, .inl ⟨_, _, _, rfl, .own _, k1, _, rfl, iteT ⟨_, h0, by show 4 ≤ sizeLine; decide, fun p np => ⟨C, fs, hP.ex (Ex.new np), .inr ⟨p, _, _, _, rfl, upd_same, .cons (.own _) (.cons (.own _) (.cons (.own _) (.cons (.own _) .nil))), k2, _, rfl, q _ (Ex.new np)⟩⟩⟩⟩⟩
end
theorem name_lt {s : Str} (h : s.length ≤ 1000) : s.cps.size < sizeLine := Nat.lt_of_le_of_lt h (by decide)
end Hr
namespace Hr
open PySem PySem.Spec PyProof.Rows L2
open Evl (Ex)
/-! ### comprehensions over a text -/
theorem lt1 (a b : Nat) : ([a] < [b]) ↔ a < b := by
  rw [List.cons_lt_cons_iff]
  constructor
  · rintro (h | ⟨_, h⟩)
    · exact h
    · cases h
  · exact .inl
section
variable {z : Str} {te : TE} {tt : TT} {vs : List Nat} {σ : L2.St} {H : Hp} {Q : VK} {f : Nat → Bool} {i j : Nat}
theorem take_succ {α : Type} {l : List α} {i : Nat} {x : α} (h : l[i]? = some x) : l.take (i + 1) = l.take i ++ [x] := by
  rw [List.take_add_one, h]
  rfl
theorem cps_at {z : Str} {i c : Nat} (h : z.cps[i]? = some c) : z.cps.toList[i]? = some c := by
  rw [Array.getElem?_toList]
  exact h
/-- [te for sign in text], te a truth value of the sign -/
theorem lcB_str (hv : σ[i]? = some (some (.str z))) (hz : z.cps.size < sizeLine) (hw : ∀ v, wipe ((wipe σ vs).set j (some v)) vs = wipe σ vs) (hj : ∀ v : V, ((wipe σ vs).set j (some v))[j]? = some (some v)) (hs : ∀ c (σ' : L2.St) H (R : VK), σ'[j]? = some (some (.str ⟨#[c]⟩)) → R (.bl (f c)) H → te σ' H R)
    (q : ∀ D H', H D = none → Ex H H' → H' D = some (.lst ((z.cps.toList.map f).map V.bl)) → Q (.ref D) H') : tLc (iStr (tVar i)) (gName j) tYes te vs σ H Q := by
  refine ⟨_, hv, z, rfl, fun D nD => ?_⟩
  refine lc_it (walk_str (z := z)) (fun k G => Ex H G ∧ G D = some (.lst (((z.cps.toList.take k).map f).map V.bl))) ⟨Ex.new nD, by rw [upd_same]; rfl⟩ (fun _ _ _ _ => True.intro) (fun k x G G' hk p y => ?_) (fun G p => q D G nD p.1 (by
      rw [p.2, show z.cps.size = z.cps.toList.length by simp, List.take_length]))
  obtain ⟨rfl, c, hc, rfl⟩ := y
  refine ⟨hw _, ?_⟩
  refine show te (List.set (wipe σ vs) j (some (V.str ⟨#[c]⟩))) G' _ from (hs c _ G' _ (hj _) ⟨_, p.2, ?_, ?_, ?_⟩)
  · rw [List.length_map, List.length_map, List.length_take]
    have : z.cps.toList.length = z.cps.size := by simp
    omega
  · intro a o h
    rw [upd_ne (ne_of_none h nD)]
    exact p.1 a o h
  · rw [upd_same, take_succ (cps_at hc), List.map_append, List.map_append]
    rfl
/-- [sign for sign in text if tt] -/
theorem lcF_str (hv : σ[i]? = some (some (.str z))) (hz : z.cps.size < sizeLine) (hw : ∀ v, wipe ((wipe σ vs).set j (some v)) vs = wipe σ vs) (hj : ∀ v : V, ((wipe σ vs).set j (some v))[j]? = some (some v)) (hs : ∀ c H (R : Bool → Hp → Prop), R (f c) H → tt ((wipe σ vs).set j (some (.str ⟨#[c]⟩))) H R)
    (q : ∀ D H', H D = none → Ex H H' → H' D = some (.lst (((z.cps.toList.filter f).map fun c => (⟨#[c]⟩ : Str)).map V.str)) → Q (.ref D) H') : tLc (iStr (tVar i)) (gName j) tt (tVar j) vs σ H Q := by
  refine ⟨_, hv, z, rfl, fun D nD => ?_⟩
  refine lc_it (walk_str (z := z)) (fun k G => Ex H G ∧ G D = some (.lst ((((z.cps.toList.take k).filter f).map fun c => (⟨#[c]⟩ : Str)).map V.str))) ⟨Ex.new nD, by rw [upd_same]; rfl⟩ (fun _ _ _ _ => True.intro) (fun k x G G' hk p y => ?_) (fun G p => q D G nD p.1 (by
      rw [p.2, show z.cps.size = z.cps.toList.length by simp, List.take_length]))
  obtain ⟨rfl, c, hc, rfl⟩ := y
  refine ⟨hw _, hs c G' _ ?_⟩
  have e1 := take_succ (cps_at hc)
  cases hf : f c with
  | true =>
    refine iteT ⟨_, hj _, _, p.2, ?_, ?_, ?_⟩
    · rw [List.length_map, List.length_map]
      have h1 := List.length_filter_le f (z.cps.toList.take k)
      rw [List.length_take] at h1
      have : z.cps.toList.length = z.cps.size := by simp
      omega
    · intro a o h
      rw [upd_ne (ne_of_none h nD)]
      exact p.1 a o h
    · rw [upd_same, e1, List.filter_append, List.map_append, List.map_append]
      simp [List.filter, hf]
  | false =>
    refine iteF ⟨p.1, ?_⟩
    rw [p.2, e1, List.filter_append]
    simp [List.filter, hf]
end
theorem nameOk_of {z : Str} (c1 : decide (1 ≤ (z.length : Int)) = true) (c2 : decide ((z.length : Int) ≤ 12) = true) : nameOk z = z.cps.toList.all okC := by
  have h1 := of_decide_eq_true c1
  have h2 := of_decide_eq_true c2
  unfold nameOk
  rw [decide_eq_true (show 1 ≤ z.length by omega), decide_eq_true (show z.length ≤ 12 by omega)]
  rfl
theorem nameOk_1 {z : Str} (c1 : ¬ decide (1 ≤ (z.length : Int)) = true) : nameOk z = false := by
  have h1 : ¬ (1 ≤ z.length) := fun h => c1 (decide_eq_true (by omega))
  unfold nameOk
  rw [decide_eq_false h1]
  rfl
theorem nameOk_2 {z : Str} (c2 : ¬ decide ((z.length : Int) ≤ 12) = true) : nameOk z = false := by
  have h1 : ¬ (z.length ≤ 12) := fun h => c2 (decide_eq_true (by omega))
  unfold nameOk
  rw [decide_eq_false h1, Bool.and_false]
  rfl
theorem all_map_id {l : List Nat} {f : Nat → Bool} : (l.map f).all id = l.all f := by
  induction l with
  | nil => rfl
  | cons x r ih => rw [List.map_cons, List.all_cons, List.all_cons, ih]; rfl
/-- 'a' <= sign <= 'z' -/
theorem sign_chain {c : Nat} {H : Hp} {R : VK} {σ : L2.St} {j : Nat} (hj : σ[j]? = some (some (.str ⟨#[c]⟩))) (q : R (.bl (okC c)) H) :
    tChain (fun x y H Q => ∃ i j, x = V.str i ∧ y = V.str j ∧ Q (V.bl (!decide (j.cps.toList < i.cps.toList))) H) (fun x y H Q => ∃ i j, x = V.str i ∧ y = V.str j ∧ Q (V.bl (!decide (j.cps.toList < i.cps.toList))) H) (tC (V.str "a")) (tVar j) (tC (V.str "z")) σ H R := by
  have ha : (Str.ofString "a").cps.toList = [97] := by decide +kernel
  have hzz : (Str.ofString "z").cps.toList = [122] := by decide +kernel
  refine ⟨_, hj, _, _, rfl, rfl, _, rfl, ?_⟩
  show if (!decide ([c] < (Str.ofString "a").cps.toList)) = true then _ else _
  rw [ha]
  by_cases h : c < 97
  · rw [if_neg (by rw [decide_eq_true ((lt1 _ _).mpr h)]; decide)]
    have e : okC c = false := by
      unfold okC
      rw [decide_eq_false (by omega)]
      rfl
    rw [← e]
    exact q
  · rw [if_pos (by rw [decide_eq_false (fun z => h ((lt1 _ _).mp z))]; rfl)]
    refine ⟨_, _, rfl, rfl, ?_⟩
    show R (V.bl (!decide ((Str.ofString "z").cps.toList < [c]))) H
    rw [hzz]
    have e : (!decide (([122] : List Nat) < [c])) = okC c := by
      unfold okC
      rw [decide_eq_true (show 97 ≤ c by omega)]
      by_cases h2 : c ≤ 122
      · rw [decide_eq_true h2, decide_eq_false (fun z => by have := (lt1 _ _).mp z; omega)]
        rfl
      · rw [decide_eq_false h2, decide_eq_true ((lt1 _ _).mpr (by omega))]
        rfl
    rw [e]
    exact q
theorem alpha_mem (c : Nat) : (decide (c ∈ (Str.ofString "abcdefghijklmnopqrstuvwxyz").cps.toList)) = okC c := by
  have e : (Str.ofString "abcdefghijklmnopqrstuvwxyz").cps.toList = [97, 98, 99, 100, 101, 102, 103, 104, 105, 106, 107, 108, 109, 110, 111, 112, 113, 114, 115, 116, 117, 118, 119, 120, 121, 122] := by decide +kernel
  rw [e, Bool.eq_iff_iff]
  unfold okC
  simp only [List.mem_cons, List.not_mem_nil, or_false, decide_eq_true_eq, Bool.and_eq_true]
  omega
theorem filter_none {l : List Nat} : (l.filter fun c => !okC c) = [] ↔ l.all okC = true := by
  rw [List.filter_eq_nil_iff, List.all_eq_true]
  constructor
  · intro h x hx
    have := h x hx
    simpa using this
  · intro h x hx
    simp [h x hx]
end Hr
namespace Hr
open PySem PySem.Spec PyProof.Rows L2
open Evl (Ex)
/-- a text of at most 1000 signs -/
def strG (z : Str) : Prop := z.length ≤ 1000 ∧ PyData.strOk z = true
theorem canLay_strs : ∀ ys : List Str, (∀ y ∈ ys, PyData.strOk y = true) → PyData.canLayAll0 (ys.map PyData.str) = true
  | [], _ => by simp [PyData.canLayAll0]
  | y :: r, h => by
    rw [List.map_cons]
    simp only [PyData.canLayAll0, PyData.canLay0, Bool.and_eq_true]
    exact ⟨h y List.mem_cons_self, canLay_strs r fun z m => h z (List.mem_cons_of_mem _ m)⟩
theorem depth_strs : ∀ ys : List Str, PyData.depthAll (ys.map PyData.str) = 0
  | [] => by simp [PyData.depthAll]
  | y :: r => by
    rw [List.map_cons]
    simp only [PyData.depthAll, PyData.depth, depth_strs r]
    rfl
theorem shaped_strs {ys : List Str} (h : ∀ y ∈ ys, PyData.strOk y = true) : SeqAt.shaped (.list (ys.map PyData.str)) = true := by
  unfold SeqAt.shaped
  simp only [PyData.canLay0, PyData.depth, canLay_strs ys h, depth_strs]
  rfl
theorem strOk_sign {z : Str} (h : PyData.strOk z = true) {c : Nat} (m : c ∈ z.cps.toList) : PyData.strOk (⟨#[c]⟩ : Str) = true := by
  have h2 : z.cps.all (· < 0x110000) = true := h
  rw [← Array.all_toList, List.all_eq_true] at h2
  have h3 := h2 c m
  show (#[c] : Array Nat).all (· < 0x110000) = true
  rw [← Array.all_toList]
  simpa using h3
theorem eqv_nil {α : Type} {f : α → PyData} (l : List α) : PyData.eqv (.list (l.map f)) (.list []) = decide (l = []) := by
  cases l with
  | nil => simp [PyData.eqv, PyData.eqvAll]
  | cons x r => simp [PyData.eqv, PyData.eqvAll]
end Hr
namespace Hr
open PySem PySem.Spec PyProof.Rows L2
theorem hCB {ta : TA} {r : List V → Hp → VK → Prop} {σ : L2.St} {H : Hp} {Q : VK} (h : ta σ H fun vs H1 => r vs H1 Q) : tCB r ta σ H Q := h
end Hr
namespace Hr
open PySem PySem.Spec PyProof.Rows L2
open Evl (Ex)
theorem walk_enT {K : PySem.W.Frag} {a : Addr} {xs : List V} : Walk (Itu K a) xs.length (fun H => SqT K H a xs) (YPair (fun i => some (.int (i : Nat))) (fun i => xs[i]?)) := by
  refine ⟨fun i _ hi q => ⟨xs, xs[i], q, by simp [hi]⟩, fun _ q => ⟨xs, q, Nat.le_refl _⟩, fun i H v H' _ q y => ?_⟩
  obtain ⟨T, x, h1, h2, h3, h4⟩ := y
  exact ⟨T, .int (i : Nat), x, h1, h2, h3, rfl, h4 xs q⟩
theorem fmt_nat {i : Nat} (h : i ≤ 1000) : FmtOk (.int (i : Nat)) := by
  refine .inr ⟨_, rfl, ?_⟩
  rw [Int.natAbs_natCast]
  have h1 : i.log2 < 10 := by
    by_cases z : i = 0
    · rw [z]; decide
    · exact (Nat.log2_lt z).mpr (by omega)
  omega
theorem bad_none {period before : Int} {i : Nat} : bad period i before [] = none := by unfold bad; rfl
theorem bad_here {period before t : Int} {i : Nat} {p : Str} {r : List (Int × Str)} (h : 8 ≤ i ∨ ¬ (before < t ∧ t < period) ∨ nameOk p = false) : bad period i before ((t, p) :: r) = some i := by
  rw [bad]
  exact if_pos h
theorem bad_next {period before t : Int} {i : Nat} {p : Str} {r : List (Int × Str)} (h1 : ¬ 8 ≤ i) (h2 : before < t) (h3 : t < period) (h4 : nameOk p = true) : bad period i before ((t, p) :: r) = bad period (i + 1) t r := by
  rw [bad]
  refine if_neg fun h => ?_
  rcases h with h | h | h
  · exact h1 h
  · exact h ⟨h2, h3⟩
  · rw [h4] at h
    cases h
theorem perOk_t {p : Int} (h1 : 1 ≤ p) (h2 : p ≤ 1000000000) : perOk p = true := by
  unfold perOk
  rw [decide_eq_true h1, decide_eq_true h2]
  rfl
theorem perOk_f {p : Int} (h : ¬ (1 ≤ p ∧ p ≤ 1000000000)) : perOk p = false := by
  unfold perOk
  by_cases h1 : 1 ≤ p
  · rw [decide_eq_false (fun z => h ⟨h1, z⟩), Bool.and_false]
  · rw [decide_eq_false h1]
    rfl
theorem drop_cons {α : Type} {l : List α} {i : Nat} {x : α} (h : l[i]? = some x) : l.drop i = x :: l.drop (i + 1) := by
  obtain ⟨hi, e⟩ := List.getElem?_eq_some_iff.mp h
  rw [List.drop_eq_getElem_cons hi, e]
/-- the i-th pair -/
theorem pair_at {K : PySem.W.Frag} {H : Hp} {xs : List V} {ss : List (Int × Str)} {i : Nat} {v : V} (ha : DpAll K H xs (ss.map pairD)) (h : xs[i]? = some v) : ∃ s a, ss[i]? = some s ∧ v = .ref a ∧ SqT K H a [.int s.1, .str s.2] := by
  obtain ⟨d, hd, hv⟩ := ha.getV h
  rw [List.getElem?_map] at hd
  cases e : ss[i]? with
  | none =>
    rw [e] at hd
    cases hd
  | some s =>
    rw [e] at hd
    have ed := Option.some.inj hd
    rw [← ed] at hv
    obtain ⟨a, rfl, hq⟩ := pair_cases hv
    exact ⟨s, a, rfl, rfl, hq⟩
theorem hNot {tt : TT} {σ : L2.St} {H : Hp} {Q : Bool → Hp → Prop} (h : tt σ H fun c H1 => Q (!c) H1) : tNot tt σ H Q := h
theorem hOr {t u : TT} {σ : L2.St} {H : Hp} {Q : Bool → Hp → Prop} (h : t σ H fun c H1 => if c = true then Q true H1 else u σ H1 Q) : tOr t u σ H Q := h
end Hr

set_option maxHeartbeats 4000000
namespace Hr
open PySem PySem.Spec PyProof.Rows L2
open Evl (Ex)
theorem Src.ex {H H' : Hp} {s : Addr} {n : Nat} (h : Src H s n) (e : Ex H H') : Src H' s n := by
  obtain ⟨a, b, c, q, r⟩ := h
  exact ⟨a, b, c, e _ _ q, r⟩
theorem dp_kp {K : PySem.W.Frag} {G G' : Hp} {s : Addr} {v : V} {d : PyData} (h : Dp K (msk G s) v d) (k : Kp s G G') : Dp K (msk G' s) v d := h.ex' (ex_msk k)
theorem dp_um {K : PySem.W.Frag} {G : Hp} {s : Addr} {v : V} {d : PyData} (h : Dp K (msk G s) v d) : Dp K G v d := h.ex' msk_ex
theorem dpAll_kp {K : PySem.W.Frag} {G G' : Hp} {s : Addr} {v : List V} {d : List PyData} (h : DpAll K (msk G s) v d) (k : Kp s G G') : DpAll K (msk G' s) v d := h.ex' (ex_msk k)
theorem dpAll_take {K : PySem.W.Frag} {H : Hp} : ∀ {xs : List V} {ds : List PyData} (n : Nat), DpAll K H xs ds → DpAll K H (xs.take n) (ds.take n)
  | _, _, 0, _ => by rw [List.take_zero, List.take_zero]; exact .nil
  | _, _, n + 1, .nil => by rw [List.take_nil, List.take_nil]; exact .nil
  | _, _, n + 1, .cons h r => .cons h (dpAll_take n r)
theorem dpAll_drop {K : PySem.W.Frag} {H : Hp} : ∀ {xs : List V} {ds : List PyData} (n : Nat), DpAll K H xs ds → DpAll K H (xs.drop n) (ds.drop n)
  | _, _, 0, h => h
  | _, _, n + 1, .nil => by rw [List.drop_nil, List.drop_nil]; exact .nil
  | _, _, n + 1, .cons h r => dpAll_drop n r
theorem dpAll_app {K : PySem.W.Frag} {H : Hp} : ∀ {xs ys : List V} {ds es : List PyData}, DpAll K H xs ds → DpAll K H ys es → DpAll K H (xs ++ ys) (ds ++ es)
  | _, _, _, _, .nil, h2 => h2
  | _, _, _, _, .cons h r, h2 => .cons h (dpAll_app r h2)
section
variable {K : PySem.W.Frag} {G : Hp} {s : Addr} {n : Nat} {v w : V} {ds es : List PyData} {Q : VK}
/-- a tuple that is new -/
theorem dp_new {p : Addr} {xs : List V} (np : G p = none) (hs : Src G s n) (ha : DpAll K (msk G s) xs ds) : Dp K (msk (upd G p (.tup xs)) s) (.ref p) (.tuple ds) :=
  .tup (SqT.of (by rw [msk_ne (hs.ne np).symm]; exact upd_same)) (ha.ex' (ex_msk fun a o _ h => Ex.new np a o h))
/-- v[:m] -/
theorem sl_take {m : Nat} (hv : Dp K (msk G s) v (.tuple ds)) (hs : Src G s n) (q : ∀ v' G', Ex G G' → Dp K (msk G' s) v' (.tuple (ds.take m)) → Q v' G') : rSlU K v none (some (m : Int)) G Q := by
  obtain ⟨a, xs, rfl, ht, ha⟩ := tup_cases hv
  have ht' := Evl.ex_t msk_ex ht
  refine .inr (.inl ⟨a, xs, rfl, ht', fun h => ?_, fun h p np => ?_⟩)
  · rw [HT.sIx_nat] at h
    refine q _ G (Ex.refl G) ?_
    rw [List.take_of_length_le (by rw [← ha.len]; omega)]
    exact hv
  · refine q _ _ (Ex.new np) (dp_new np hs ?_)
    have e : cutV xs none (some (m : Int)) = xs.take m := by
      unfold cutV
      rw [HT.sIx_nat, HT.sIx_none, List.drop_zero, Nat.sub_zero]
      by_cases hm : m ≤ xs.length
      · rw [Nat.min_eq_left hm]
      · rw [Nat.min_eq_right (by omega), List.take_length, List.take_of_length_le (by omega)]
    rw [e]
    exact dpAll_take m ha
/-- v[m:] -/
theorem sl_drop {m : Nat} (hv : Dp K (msk G s) v (.tuple ds)) (hs : Src G s n) (q : ∀ v' G', Ex G G' → Dp K (msk G' s) v' (.tuple (ds.drop m)) → Q v' G') : rSlU K v (some (m : Int)) none G Q := by
  obtain ⟨a, xs, rfl, ht, ha⟩ := tup_cases hv
  have ht' := Evl.ex_t msk_ex ht
  refine .inr (.inl ⟨a, xs, rfl, ht', fun h => ?_, fun h p np => ?_⟩)
  · rw [HT.sIx_nat] at h
    refine q _ G (Ex.refl G) ?_
    have e : ds.drop m = ds := by
      by_cases hm : m = 0
      · rw [hm, List.drop_zero]
      · have : ds.length = 0 := by rw [← ha.len]; omega
        rw [List.length_eq_zero_iff.mp this, List.drop_nil]
    rw [e]
    exact hv
  · refine q _ _ (Ex.new np) (dp_new np hs ?_)
    have e : cutV xs (some (m : Int)) none = xs.drop m := by
      unfold cutV
      rw [HT.sIx_nat, HT.sIx_none]
      by_cases hm : m ≤ xs.length
      · rw [Nat.min_eq_left hm, List.take_of_length_le (by rw [List.length_drop]; omega)]
      · rw [Nat.min_eq_right (by omega), Nat.sub_self, List.take_zero, List.drop_eq_nil_of_le (by omega)]
    rw [e]
    exact dpAll_drop m ha
/-- v + w -/
theorem cat_reads (hv : Dp K (msk G s) v (.tuple ds)) (hw : Dp K (msk G s) w (.tuple es)) (hs : Src G s n) (hz : ds.length + es.length ≤ 100000) (q : ∀ v' G', Ex G G' → Dp K (msk G' s) v' (.tuple (ds ++ es)) → Q v' G') : rAddU K v w G Q := by
  obtain ⟨a, xs, rfl, ht, ha⟩ := tup_cases hv
  obtain ⟨b, ys, rfl, hu, hb⟩ := tup_cases hw
  refine .inr (.inr (.inr ⟨a, b, xs, ys, rfl, rfl, Evl.ex_t msk_ex ht, Evl.ex_t msk_ex hu, by rw [ha.len, hb.len]; exact Evl.sz_of hz, fun h => ?_, fun h h2 => ?_, fun _ _ p np => ?_⟩))
  · subst h
    cases ha
    exact q _ G (Ex.refl G) hw
  · subst h2
    cases hb
    rw [List.append_nil] at q
    exact q _ G (Ex.refl G) hv
  · exact q _ _ (Ex.new np) (dp_new np hs (dpAll_app ha hb))
end
theorem hCall {sp : Sp} {dvs : List V} {E : XK} {ta : TA} {σ : L2.St} {H : Hp} {Q : VK} (h : ta σ H fun vs H1 => sp (vs ++ dvs) H1 Q E) : tCall sp dvs E ta σ H Q := h
theorem hSl {r : V → Option Int → Option Int → Hp → VK → Prop} {te : TE} {tl th : TO} {σ : L2.St} {H : Hp} {Q : VK} (h : te σ H fun x H1 => tl σ H1 fun l H2 => th σ H2 fun u H3 => r x l u H3 Q) : tSl r te tl th σ H Q := h
theorem hC {v : V} {σ : L2.St} {H : Hp} {Q : VK} (h : Q v H) : tC v σ H Q := h
theorem hAnd {t u : TT} {σ : L2.St} {H : Hp} {Q : Bool → Hp → Prop} (h : t σ H fun c H1 => if c = true then u σ H1 Q else Q false H1) : tAnd t u σ H Q := h
theorem shaped_pair {z : Str} (ok : PyData.strOk z = true) : SeqAt.shaped (.tuple [.str "name", .str z]) = true := by
  have h : PyData.strOk (Str.ofString "name") = true := by decide +kernel
  simp [SeqAt.shaped, PyData.canLay0, PyData.canLayAll0, PyData.depth, PyData.depthAll, ok, h]
theorem scal_due {p : Int} {ss : List (Int × Str)} : scal (due p ss) (due p ss) = true := by
  unfold due
  split
  · split <;> rfl
  · rfl
end Hr
namespace Hr
open PySem PySem.Spec PyProof.Rows L2
open Evl (Ex)
theorem sqT_msk {K : PySem.W.Frag} {H : Hp} {s a : Addr} {xs ys : List V} (h : SqT K H a xs) (hs : H s = some (.lst ys)) : SqT K (msk H s) a xs := by
  rcases h with (h | ⟨o, h⟩) | h
  · have n : a ≠ s := fun z => by
      rw [z, hs] at h
      cases h
    exact .inl (.inl (by rw [msk_ne n]; exact h))
  · have n : a ≠ s := fun z => by
      rw [z, hs] at h
      cases h
    exact .inl (.inr ⟨o, by rw [msk_ne n]; exact h⟩)
  · exact .inr h
theorem dp_pair_msk {K : PySem.W.Frag} {H : Hp} {s : Addr} {v : V} {ys : List V} {z : Int × Str} (h : Dp K H v (pairD z)) (hs : H s = some (.lst ys)) : Dp K (msk H s) v (pairD z) := by
  obtain ⟨a, rfl, ht⟩ := pair_cases h
  exact .tup (sqT_msk ht hs) (.cons (.int _) (.cons (.str _) .nil))
theorem dpAll_pair_msk {K : PySem.W.Frag} {H : Hp} {s : Addr} {ys : List V} (hs : H s = some (.lst ys)) : ∀ {xs : List V} {ss : List (Int × Str)}, DpAll K H xs (ss.map pairD) → DpAll K (msk H s) xs (ss.map pairD)
  | [], [], _ => .nil
  | _ :: _, z :: r, h => by
    rw [List.map_cons] at h ⊢
    cases h with
    | cons h1 h2 => exact .cons (dp_pair_msk h1 hs) (dpAll_pair_msk hs h2)
  | [], _ :: _, h => by
    rw [List.map_cons] at h
    cases h
  | _ :: _, [], h => by
    rw [List.map_nil] at h
    cases h
theorem list_pairs {ds : List PyData} {n : Nat} {F : Nat → Int × Str} (hl : ds.length = n) (h : ∀ i d, ds[i]? = some d → d = pairD (F i)) : ds = ((List.range n).map F).map pairD := by
  rw [List.map_map]
  exact list_of (F := fun i => pairD (F i)) hl h
end Hr

set_option maxHeartbeats 8000000
namespace Hr
open PySem PySem.Spec PyProof.Rows L2
open Evl (Ex)

def top (i : Nat) : Stmt := PySem.Challenge.pw_handrounds_k03_invalid_rounds.main.body.getD i (.Pass ⟨0, 0, 0, 0⟩)
abbrev s_BadName_init : Stmt := inClass (top 3) 0
abbrev s_BadRound_init : Stmt := inClass (top 4) 0
abbrev s_BadStop_init : Stmt := inClass (top 5) 0
abbrev s_law_source : Stmt := top 18
theorem sc_law_source : FnScope ["script", "index", "cell"] ["script", "index"] (defScope s_law_source) := ⟨rfl, rfl, rfl, by decide +kernel, rfl, by decide +kernel, by decide +kernel⟩
abbrev s_law_draw : Stmt := top 19
theorem sc_law_draw : FnScope ["source", "bound", "digit", "mixed"] ["source", "bound"] (defScope s_law_draw) := ⟨rfl, rfl, rfl, by decide +kernel, rfl, by decide +kernel, by decide +kernel⟩
abbrev s_is_name : Stmt := top 10
theorem sc_is_name : FnScope ["text", "sign"] ["text"] (defScope s_is_name) := ⟨rfl, rfl, rfl, by decide +kernel, rfl, by decide +kernel, by decide +kernel⟩
abbrev s_Round_init : Stmt := inClass (top 14) 1
theorem sc_Round_init : FnScope ["self", "period", "stops", "before", "index", "tick", "place"] ["self", "period", "stops"] (defScope s_Round_init) := ⟨rfl, rfl, rfl, by decide +kernel, rfl, by decide +kernel, by decide +kernel⟩
abbrev s_Round_of : Stmt := inClass (top 14) 2
theorem sc_Round_of : FnScope ["cls", "period", "stops"] ["cls", "period", "stops"] (defScope s_Round_of) := ⟨rfl, rfl, rfl, by decide +kernel, rfl, by decide +kernel, by decide +kernel⟩
abbrev s_Courier_init : Stmt := inClass (top 16) 0
theorem sc_Courier_init : FnScope ["self", "name", "way", "start", "since"] ["self", "name", "way", "start", "since"] (defScope s_Courier_init) := ⟨rfl, rfl, rfl, by decide +kernel, rfl, by decide +kernel, by decide +kernel⟩
abbrev s_law_word : Stmt := top 21
theorem sc_law_word : FnScope ["e", "found"] ["e"] (defScope s_law_word) := ⟨rfl, rfl, rfl, by decide +kernel, rfl, by decide +kernel, by decide +kernel⟩
abbrev s_law_told : Stmt := top 22
theorem sc_law_told : FnScope ["period", "stops", "way", "found", "e"] ["period", "stops", "way"] (defScope s_law_told) := ⟨rfl, rfl, rfl, by decide +kernel, rfl, by decide +kernel, by decide +kernel⟩
abbrev s_law_named : Stmt := top 23
theorem sc_law_named : FnScope ["name", "found", "e"] ["name"] (defScope s_law_named) := ⟨rfl, rfl, rfl, by decide +kernel, rfl, by decide +kernel, by decide +kernel⟩
abbrev s_law_is_name : Stmt := top 24
theorem sc_law_is_name : FnScope ["text", "sign"] ["text"] (defScope s_law_is_name) := ⟨rfl, rfl, rfl, by decide +kernel, rfl, by decide +kernel, by decide +kernel⟩
abbrev s_law_due : Stmt := top 25
theorem sc_law_due : FnScope ["period", "stops", "spot", "tick", "place", "before"] ["period", "stops"] (defScope s_law_due) := ⟨rfl, rfl, rfl, by decide +kernel, rfl, by decide +kernel, by decide +kernel⟩
abbrev s_law : Stmt := top 26
theorem sc_law : FnScope ["script", "names", "turn", "source", "period", "stops", "case", "right", "odd", "some", "spot", "length", "name", "number"] ["script"] (defScope s_law) := ⟨rfl, rfl, rfl, by decide +kernel, rfl, by decide +kernel, by decide +kernel⟩
structure Ads where
  f_BadName_init : Addr
  d_BadName_init : FuncData
  cc_BadName_init : Addr
  cda_BadName_init : Addr
  f_BadRound_init : Addr
  d_BadRound_init : FuncData
  cc_BadRound_init : Addr
  cda_BadRound_init : Addr
  f_BadStop_init : Addr
  d_BadStop_init : FuncData
  cc_BadStop_init : Addr
  cda_BadStop_init : Addr
  f_law_source : Addr
  d_law_source : FuncData
  f_law_draw : Addr
  d_law_draw : FuncData
  f_is_name : Addr
  d_is_name : FuncData
  f_Round_init : Addr
  d_Round_init : FuncData
  f_Round_of : Addr
  d_Round_of : FuncData
  f_Courier_init : Addr
  d_Courier_init : FuncData
  f_law_word : Addr
  d_law_word : FuncData
  f_law_told : Addr
  d_law_told : FuncData
  f_law_named : Addr
  d_law_named : FuncData
  f_law_is_name : Addr
  d_law_is_name : FuncData
  f_law_due : Addr
  d_law_due : FuncData
  f_law : Addr
  d_law : FuncData
  c_RoundError : Addr
  c_BadName : Addr
  c_BadRound : Addr
  c_BadStop : Addr
  c_BadNet : Addr
  c_UnknownNode : Addr
  c_Round : Addr
  c_Courier : Addr
  t_MOST_LETTERS : Tok
  t_LONGEST_PERIOD : Tok
  r_Round_of : Addr
structure Txt (P : Program) (K : PySem.W.Frag) (mg : Str → Option Value) (Z : Ads) : Prop where
  F_law_source : Fun K "_law_source" "_law_source" s_law_source Z.f_law_source Z.d_law_source
  g_law_source : mg "_law_source" = some (.ref Z.f_law_source)
  b_law_source : Binds K Z.d_law_source ["script", "index"] []
  F_law_draw : Fun K "_law_draw" "_law_draw" s_law_draw Z.f_law_draw Z.d_law_draw
  g_law_draw : mg "_law_draw" = some (.ref Z.f_law_draw)
  b_law_draw : Binds K Z.d_law_draw ["source", "bound"] []
  F_is_name : Fun K "is_name" "is_name" s_is_name Z.f_is_name Z.d_is_name
  g_is_name : mg "is_name" = some (.ref Z.f_is_name)
  b_is_name : Binds K Z.d_is_name ["text"] []
  F_Round_init : Fun K "__init__" "Round.__init__" s_Round_init Z.f_Round_init Z.d_Round_init
  F_Round_of : Fun K "of" "Round.of" s_Round_of Z.f_Round_of Z.d_Round_of
  b_Round_of : Binds K Z.d_Round_of ["cls", "period", "stops"] []
  F_Courier_init : Fun K "__init__" "Courier.__init__" s_Courier_init Z.f_Courier_init Z.d_Courier_init
  b_Courier_init : Binds K Z.d_Courier_init ["self", "name", "way", "start", "since"] []
  F_law_word : Fun K "_law_word" "_law_word" s_law_word Z.f_law_word Z.d_law_word
  g_law_word : mg "_law_word" = some (.ref Z.f_law_word)
  b_law_word : Binds K Z.d_law_word ["e"] []
  F_law_told : Fun K "_law_told" "_law_told" s_law_told Z.f_law_told Z.d_law_told
  g_law_told : mg "_law_told" = some (.ref Z.f_law_told)
  b_law_told : Binds K Z.d_law_told ["period", "stops", "way"] []
  F_law_named : Fun K "_law_named" "_law_named" s_law_named Z.f_law_named Z.d_law_named
  g_law_named : mg "_law_named" = some (.ref Z.f_law_named)
  b_law_named : Binds K Z.d_law_named ["name"] []
  F_law_is_name : Fun K "_law_is_name" "_law_is_name" s_law_is_name Z.f_law_is_name Z.d_law_is_name
  g_law_is_name : mg "_law_is_name" = some (.ref Z.f_law_is_name)
  b_law_is_name : Binds K Z.d_law_is_name ["text"] []
  F_law_due : Fun K "_law_due" "_law_due" s_law_due Z.f_law_due Z.d_law_due
  g_law_due : mg "_law_due" = some (.ref Z.f_law_due)
  b_law_due : Binds K Z.d_law_due ["period", "stops"] []
  F_law : Fun K "law" "law" s_law Z.f_law Z.d_law
  g_law : mg "law" = some (.ref Z.f_law)
  b_law : Binds K Z.d_law ["script"] []
  E_BadName : ErrT K mg P "BadName" "BadName.__init__" ["self", "name"] s_BadName_init Z.c_BadName Z.f_BadName_init Z.cc_BadName_init Z.cda_BadName_init Z.d_BadName_init
  b_BadName_init : Binds K Z.d_BadName_init ["self", "name"] []
  x_BadName : PySem.W.exmOne K (.ref Z.c_BadName) (.ref Z.c_RoundError) = some true
  E_BadRound : ErrT K mg P "BadRound" "BadRound.__init__" ["self", "part"] s_BadRound_init Z.c_BadRound Z.f_BadRound_init Z.cc_BadRound_init Z.cda_BadRound_init Z.d_BadRound_init
  b_BadRound_init : Binds K Z.d_BadRound_init ["self", "part"] []
  x_BadRound : PySem.W.exmOne K (.ref Z.c_BadRound) (.ref Z.c_RoundError) = some true
  E_BadStop : ErrT K mg P "BadStop" "BadStop.__init__" ["self", "index"] s_BadStop_init Z.c_BadStop Z.f_BadStop_init Z.cc_BadStop_init Z.cda_BadStop_init Z.d_BadStop_init
  b_BadStop_init : Binds K Z.d_BadStop_init ["self", "index"] []
  x_BadStop : PySem.W.exmOne K (.ref Z.c_BadStop) (.ref Z.c_RoundError) = some true
  M_Round : Mk K Z.c_Round Z.f_Round_init
  C_Round : Cls K Z.c_Round
  no_Round_period : NoAttr K Z.c_Round "period"
  no_Round_stops : NoAttr K Z.c_Round "stops"
  M_Courier : Mk K Z.c_Courier Z.f_Courier_init
  C_Courier : Cls K Z.c_Courier
  no_Courier_name : NoAttr K Z.c_Courier "name"
  no_Courier_way : NoAttr K Z.c_Courier "way"
  no_Courier_start : NoAttr K Z.c_Courier "start"
  no_Courier_since : NoAttr K Z.c_Courier "since"
  R_Round : ClX.CRead K Z.c_Round (.type "type")
  m_Round_of : ClX.CMet K Z.c_Round (.type "type") "of" Z.r_Round_of Z.f_Round_of
  k_MOST : ∃ u, Con K Z.c_Round "MOST_STOPS" (.int 8) u
  g_RoundError : mg "RoundError" = some (.ref Z.c_RoundError)
  g_BadName : mg "BadName" = some (.ref Z.c_BadName)
  g_BadRound : mg "BadRound" = some (.ref Z.c_BadRound)
  g_BadStop : mg "BadStop" = some (.ref Z.c_BadStop)
  g_BadNet : mg "BadNet" = some (.ref Z.c_BadNet)
  g_UnknownNode : mg "UnknownNode" = some (.ref Z.c_UnknownNode)
  g_Round : mg "Round" = some (.ref Z.c_Round)
  g_Courier : mg "Courier" = some (.ref Z.c_Courier)
  g_MOST_LETTERS : mg "MOST_LETTERS" = some (.int 12 Z.t_MOST_LETTERS)
  g_LONGEST_PERIOD : mg "LONGEST_PERIOD" = some (.int 1000000000 Z.t_LONGEST_PERIOD)
  n_all : mg "all" = none
  n_enumerate : mg "enumerate" = none
  n_isinstance : mg "isinstance" = none
  n_len : mg "len" = none
  n_max : mg "max" = none
  n_min : mg "min" = none
  n_range : mg "range" = none
  n_super : mg "super" = none
  n_tuple : mg "tuple" = none
  w_BadRound_BadRound : PySem.W.kitOne K (.ref Z.c_BadRound) (.ref Z.c_BadRound) = some true
  w_BadRound_BadStop : PySem.W.kitOne K (.ref Z.c_BadRound) (.ref Z.c_BadStop) = some false
  w_BadRound_BadName : PySem.W.kitOne K (.ref Z.c_BadRound) (.ref Z.c_BadName) = some false
  v_BadRound : PySem.W.kitAny K (.ref Z.c_BadRound) [.ref Z.c_BadName, .ref Z.c_BadNet, .ref Z.c_BadStop, .ref Z.c_UnknownNode] = some false
  w_BadStop_BadRound : PySem.W.kitOne K (.ref Z.c_BadStop) (.ref Z.c_BadRound) = some false
  w_BadStop_BadStop : PySem.W.kitOne K (.ref Z.c_BadStop) (.ref Z.c_BadStop) = some true
  w_BadStop_BadName : PySem.W.kitOne K (.ref Z.c_BadStop) (.ref Z.c_BadName) = some false
  v_BadStop : PySem.W.kitAny K (.ref Z.c_BadStop) [.ref Z.c_BadName, .ref Z.c_BadNet, .ref Z.c_BadRound, .ref Z.c_UnknownNode] = some false
  w_BadName_BadRound : PySem.W.kitOne K (.ref Z.c_BadName) (.ref Z.c_BadRound) = some false
  w_BadName_BadStop : PySem.W.kitOne K (.ref Z.c_BadName) (.ref Z.c_BadStop) = some false
  w_BadName_BadName : PySem.W.kitOne K (.ref Z.c_BadName) (.ref Z.c_BadName) = some true
  v_BadName : PySem.W.kitAny K (.ref Z.c_BadName) [.ref Z.c_BadNet, .ref Z.c_BadRound, .ref Z.c_BadStop, .ref Z.c_UnknownNode] = some false
end Hr

set_option maxHeartbeats 8000000
namespace Hr
open PySem PySem.Spec PyProof.Rows L2
open Evl (Ex)
def spName : Sp := fun vs H Q _ => ∃ z : Str, vs = [.str z] ∧ strG z ∧ ∀ H', Ex H H' → Q (.bl (nameOk z)) H'
/-- a round at x -/
def RoundAt (K : PySem.W.Frag) (Z : Ads) (H : Hp) (x : Addr) (period : Int) (ss : List (Int × Str)) : Prop :=
  ∃ (dx q : Addr) (fs : List (Str × V)), H x = some (.ins Z.c_Round dx fs) ∧ fs.lookup ("period" : Str) = some (.int period) ∧ fs.lookup ("stops" : Str) = some (.ref q) ∧ Dp K H (.ref q) (.tuple (ss.map pairD))
def spRi (K : PySem.W.Frag) (Z : Ads) : Sp := fun vs H Q E => ∃ (x dx : Addr) (period : Int) (t : Addr) (xs : List V) (ss : List (Int × Str)), vs = [.ref x, .int period, .ref t] ∧ H x = some (.ins Z.c_Round dx []) ∧ H t = some (.tup xs) ∧ DpAll K H xs (ss.map pairD) ∧
  ss.length ≤ 1000 ∧ (∀ s ∈ ss, strG s.2) ∧
  (perOk period = false → ∀ d H', Ex H H' → H' d = some (.xd [("part", .str "period")]) → E (.ref Z.c_BadRound) (some d) H') ∧
  (perOk period = true → ∀ i, bad period 0 (-1) ss = some i → ∀ d H', Ex H H' → H' d = some (.xd [("index", .int (i : Nat))]) → E (.ref Z.c_BadStop) (some d) H') ∧
  (perOk period = true → bad period 0 (-1) ss = none → ∀ H' fs, (∀ a o, a ≠ x → H a = some o → H' a = some o) → H' x = some (.ins Z.c_Round dx fs) → fs.lookup ("period" : Str) = some (.int period) → fs.lookup ("stops" : Str) = some (.ref t) → Q .non H')
def spRinit (K : PySem.W.Frag) (Z : Ads) : Sp := fun vs H Q E => ∃ ws rest, vs = ws ++ rest ∧ ws.length = (["self", "period"] : List Str).length ∧ rest.length ≤ sizeLine ∧ ∀ p, H p = none → spRi K Z (ws ++ [V.ref p]) (upd H p (.tup rest)) Q E
/-- what the making of a round promises: from the constructor, from Round.of -/
def RMade (K : PySem.W.Frag) (Z : Ads) (period : Int) (ss : List (Int × Str)) (H : Hp) (Q : VK) (E : XK) : Prop :=
  (perOk period = false → ∀ d H', Ex H H' → H' d = some (.xd [("part", .str "period")]) → E (.ref Z.c_BadRound) (some d) H') ∧
  (perOk period = true → ∀ i, bad period 0 (-1) ss = some i → ∀ d H', Ex H H' → H' d = some (.xd [("index", .int (i : Nat))]) → E (.ref Z.c_BadStop) (some d) H') ∧
  (perOk period = true → bad period 0 (-1) ss = none → ∀ x H', H x = none → Ex H H' → RoundAt K Z H' x period ss → Q (.ref x) H')
def spOf (K : PySem.W.Frag) (Z : Ads) : Sp := fun vs H Q E => ∃ (period : Int) (t : Addr) (xs : List V) (ss : List (Int × Str)), vs = [.ref Z.c_Round, .int period, .ref t] ∧ SqT K H t xs ∧ DpAll K H xs (ss.map pairD) ∧ ss.length ≤ 1000 ∧ (∀ s ∈ ss, strG s.2) ∧ RMade K Z period ss H Q E
def spCi (K : PySem.W.Frag) (Z : Ads) : Sp := fun vs H Q E => ∃ (x dx : Addr) (name : Str) (way start since : V), vs = [.ref x, .str name, way, start, since] ∧ H x = some (.ins Z.c_Courier dx []) ∧ strG name ∧
  (nameOk name = false → ∀ d H', Ex H H' → H' d = some (.xd [("name", .str name)]) → E (.ref Z.c_BadName) (some d) H') ∧
  (nameOk name = true → ∀ H' fs, (∀ a o, a ≠ x → H a = some o → H' a = some o) → H' x = some (.ins Z.c_Courier dx fs) → fs.lookup ("name" : Str) = some (.str name) → fs.lookup ("way" : Str) = some way → fs.lookup ("start" : Str) = some start → fs.lookup ("since" : Str) = some since → Q .non H')
def spWord (K : PySem.W.Frag) (Z : Ads) : Addr → Value → Option Addr → Sp := fun a cls d vs H Q _ => vs = [.ref a] ∧
  ((∃ s : Str, PinAt K cls d H Z.c_BadRound [("part", .str s)] ∧ ∀ H', Ex H H' → Q (.str s) H') ∨ (∃ i : Int, PinAt K cls d H Z.c_BadStop [("index", .int i)] ∧ ∀ H', Ex H H' → Q (.int i) H') ∨
    ∃ s : Str, PinAt K cls d H Z.c_BadName [("name", .str s)] ∧ ∀ p H', H p = none → Ex H H' → H' p = some (.tup [.str "name", .str s]) → Q (.ref p) H')
def spTold (K : PySem.W.Frag) : Sp := fun vs H Q _ => ∃ (period : Int) (v : V) (way : Int) (ss : List (Int × Str)), vs = [.int period, v, .int way] ∧ Dp K H v (.tuple (ss.map pairD)) ∧ ss.length ≤ 1000 ∧ (∀ s ∈ ss, strG s.2) ∧ (way = 0 ∨ ss.length = 1 ∨ ss.length = 2) ∧ ∀ H', Ex H H' → Q (due period ss) H'
def spNamed : Sp := fun vs H Q _ => ∃ z : Str, vs = [.str z] ∧ strG z ∧ (nameOk z = true → ∀ H', Ex H H' → Q .non H') ∧ (nameOk z = false → ∀ p H', H p = none → Ex H H' → H' p = some (.tup [.str "name", .str z]) → Q (.ref p) H')
def spDue (K : PySem.W.Frag) : Sp := fun vs H Q _ => ∃ (period : Int) (v : V) (ss : List (Int × Str)), vs = [.int period, v] ∧ Dp K H v (.tuple (ss.map pairD)) ∧ ss.length ≤ 1000 ∧ (∀ s ∈ ss, strG s.2) ∧ ∀ H', Ex H H' → Q (due period ss) H'
def spLaw (K : PySem.W.Frag) : Sp := fun vs H Q _ => ∃ (a : Addr) (ns : List Int), vs = [.ref a] ∧ SqL K H a (ns.map V.int) ∧ ns.length ≤ 63 ∧ ∀ H', Q (.bl true) H'
theorem rmk_reads {K : PySem.W.Frag} {Z : Ads} {period : Int} {xs : List V} {ss : List (Int × Str)} {H : Hp} {Q : VK} {E : XK} (ha : DpAll K H xs (ss.map pairD)) (hl : ss.length ≤ 1000) (hn : ∀ s ∈ ss, strG s.2) (h : RMade K Z period ss H Q E) :
    ∀ x dx, H x = none → H dx = none → dx ≠ x → spRinit K Z (V.ref x :: V.int period :: xs) (upd (upd H dx (.own x)) x (.ins Z.c_Round dx [])) (fun v H2 => v = .non ∧ Q (.ref x) H2) E := by
  intro x dx nx ndx hne
  obtain ⟨hE1, hE2, k⟩ := h
  have hxs : xs.length = ss.length := by rw [ha.len, List.length_map]
  refine ⟨[.ref x, .int period], xs, rfl, rfl, by rw [sizeLine_eq]; omega, fun p np => ?_⟩
  have nx1 : (upd H dx (.own x)) x = none := by rw [upd_ne hne.symm]; exact nx
  have e0 : Ex H (upd (upd (upd H dx (.own x)) x (.ins Z.c_Round dx [])) p (.tup xs)) := ((Ex.new ndx).trans (Ex.new nx1)).trans (Ex.new np)
  have hpx : p ≠ x := fun z => by
    rw [z, upd_same] at np
    cases np
  refine ⟨x, dx, period, p, xs, ss, rfl, by rw [upd_ne hpx.symm]; exact upd_same, upd_same, ha.ex' e0, hl, hn, fun c d H' e hd => hE1 c d H' (e0.trans e) hd, fun c i hi d H' e hd => hE2 c i hi d H' (e0.trans e) hd, fun c hb H' fs e hx l1 l2 => ⟨rfl, ?_⟩⟩
  have e1 : Ex H H' := fun a o q => e a o (ne_of_none q nx) (e0 a o q)
  exact k c hb x H' nx e1 ⟨dx, p, fs, hx, l1, l2, .tup (SqT.of (e p _ hpx upd_same)) (ha.ex' e1)⟩
theorem due_p {period : Int} {ss : List (Int × Str)} (h : perOk period = false) : due period ss = .str "period" := by
  unfold due
  rw [h]
  rfl
theorem due_i {period : Int} {ss : List (Int × Str)} {i : Nat} (h : perOk period = true) (hb : bad period 0 (-1) ss = some i) : due period ss = .int (i : Nat) := by
  unfold due
  rw [h, hb]
  rfl
theorem due_n {period : Int} {ss : List (Int × Str)} (h : perOk period = true) (hb : bad period 0 (-1) ss = none) : due period ss = .non := by
  unfold due
  rw [h, hb]
  rfl
/-- the suite: the name in slot j is told, from the exception in slot i -/
abbrev tsTold (K : PySem.W.Frag) (Z : Ads) (i j : Nat) : Addr → Value → Option Addr → TS := fun a cls d => tAsg (fun σ H Q => tCons (tVar i) tNil σ H fun vs H1 => spWord K Z a cls d vs H1 Q fun _ _ _ => False) (gName j)
theorem told_made {P : Program} {K : PySem.W.Frag} {mg : Str → Option Value} {Z : Ads} (T : Txt P K mg Z) {period : Int} {ss : List (Int × Str)} {H G : Hp} {D : Ends} {a0 a1 a2 a4 : Option V} (e : Ex H G)
    (hD : ∀ (σ' : L2.St) H', σ'[3]? = some (some (due period ss)) → Ex H H' → D.nx σ' H') :
    RMade K Z period ss G (fun _ H1 => D.nx [a0, a1, a2, some .non, a4] H1) (WE (wAs K (.ref Z.c_RoundError) 4 (tsTold K Z 4 3) (fun _ _ _ _ => False) D) [a0, a1, a2, some .non, a4]) := by
  refine ⟨fun c d H' e2 hd => ⟨true, T.x_BadRound, fun _ a ha => ?_, fun q => by cases q⟩, fun c i hi d H' e2 hd => ⟨true, T.x_BadStop, fun _ a ha => ?_, fun q => by cases q⟩, fun c hb x H' nx e2 hR => hD _ _ (by rw [due_n c hb]; rfl) (e.trans e2)⟩
  · refine ⟨_, rfl, rfl, .inl ⟨_, ⟨rfl, d, rfl, hd, T.E_BadRound.ex⟩, fun H2 e3 => ?_⟩⟩
    refine hGN ?_
    exact hD _ _ (by rw [due_p c]; rfl) ((e.trans e2).trans e3)
  · refine ⟨_, rfl, rfl, .inr (.inl ⟨_, ⟨rfl, d, rfl, hd, T.E_BadStop.ex⟩, fun H2 e3 => ?_⟩)⟩
    refine hGN ?_
    exact hD _ _ (by rw [due_i c hi]; rfl) ((e.trans e2).trans e3)
theorem two_of {α : Type} {l : List α} (h : l.length = 2) : ∃ a b, l = [a, b] := by
  match l, h with
  | [a, b], _ => exact ⟨a, b, rfl⟩
theorem one_of {α : Type} {l : List α} (h : l.length = 1) : ∃ a, l = [a] := by
  match l, h with
  | [a], _ => exact ⟨a, rfl⟩
theorem scal_ii (i j : Int) : scal (V.int i) (V.int j) = true := rfl
/-- Round(5) -/
theorem rmk0_reads {K : PySem.W.Frag} {Z : Ads} {σ : L2.St} {H : Hp} {Q : VK} {E : L2.St → XK} (h : ∀ x H', Ex H H' → Q (.ref x) H') : tMkS Z.c_Round (spRinit K Z) E (tCons (tC (.int 5)) tNil) σ H Q :=
  rmk_reads (period := 5) (xs := []) (ss := []) (Q := Q) .nil (by decide) (fun _ h => by cases h) ⟨fun c => absurd c (by decide), fun _ i hi => (by rw [bad_none] at hi; cases hi), fun _ _ x G nx e hR => h x G e⟩
theorem cmp_due {K : PySem.W.Frag} {σ : L2.St} {H : Hp} {QT : Bool → Hp → Prop} {tp tv : TE} {period way : Int} {v : V} {ss : List (Int × Str)} (hp : ∀ (G : Hp) (R : VK), R (.int period) G → tp σ G R) (hv' : ∀ (G : Hp) (R : VK), R v G → tv σ G R)
    (hv : Dp K H v (.tuple (ss.map pairD))) (hl : ss.length ≤ 1000) (hn : ∀ s ∈ ss, strG s.2) (hw : way = 0 ∨ ss.length = 1 ∨ ss.length = 2) (q : ∀ H', Ex H H' → QT false H') :
    tTest (tOp (rNeU K) (tCall (spTold K) [] E0 (tCons tp (tCons tv (tCons (tC (.int way)) tNil)))) (tCall (spDue K) [] E0 (tCons tp (tCons tv tNil)))) σ H QT := by
  refine hTest (hOp (hCall (hCons (hp _ _ (hCons (hv' _ _ (hCons (hC (hNil ?_)))))))))
  refine ⟨period, v, way, ss, rfl, hv, hl, hn, hw, fun H1 e1 => ?_⟩
  refine hCall (hCons (hp _ _ (hCons (hv' _ _ (hNil ?_)))))
  refine ⟨period, v, ss, rfl, hv.ex' e1, hl, hn, fun H2 e2 => .inl ⟨scal_due, _, rfl, ?_⟩⟩
  rw [decide_eq_true rfl]
  exact q H2 (e1.trans e2)
theorem at_all {xs : List V} {d : Int} {Pz : V → Prop} (d0 : 0 ≤ d) (d1 : d < (xs.length : Int)) (h : ∀ v ∈ xs, Pz v) : ∃ v, atI xs d = some v ∧ Pz v := by
  have hi : d.toNat < xs.length := by omega
  refine ⟨xs[d.toNat], ?_, h _ (List.getElem_mem hi)⟩
  have q := at_nat (xs := xs) (j := d.toNat) (List.getElem?_eq_getElem hi)
  rw [Int.toNat_of_nonneg d0] at q
  exact q
def NM : List Str := ["", "a", "z", "mill", "abcdefghijkl", "abcdefghijklm", "Mill", "mi ll", "mill ", "@mill", "m1", "mill
", "a-b"]
theorem nm_ok : ∀ z ∈ NM, strG z := by
  unfold NM strG
  decide +kernel
theorem good_c {z : Str} (h : (decide (z.length ≤ 1000) && PyData.strOk z) = true) : strG z := by
  rw [Bool.and_eq_true] at h
  exact ⟨of_decide_eq_true h.1, h.2⟩
theorem pass0S {X : Cx} {σ : L2.St} : PassesAt CX0 X σ E0 := fun _ _ _ _ _ _ h => h.elim
end Hr

set_option maxHeartbeats 8000000
namespace Hr
open PySem PySem.Spec PyProof.Rows L2
open Evl (Ex)
section
variable {P : Program} {w : World} {K : PySem.W.Frag} {mg : Str → Option Value} {base : Heap} {Z : Ads}
theorem ok_BadName_init (T : Txt P K mg Z) : FnOk P w K mg base CX0 1 Z.f_BadName_init Z.d_BadName_init ["self", "name"] (spErr Z.c_BadName "name") := by
  have E := T.E_BadName
  obtain ⟨oc, od, kV, doc, pm, an, ct, osl, ed, lk, hcd⟩ := E.fn
  obtain ⟨cl, cld, csl, hcell⟩ := E.sup.cell
  rw [ed] at lk ⊢
  refine fnS_of (D := Z.c_BadName) lk hcd hcell (NdefX.nscope_by (N := ["self", "name", "__class__"]) (ps := ["self", "name"]) (fr := ["__class__"]) (by decide +kernel)) (fun vs H Q E h => ?_) (fun A outer s H vs Q _ hr h => ?_)
  · obtain ⟨a, y, rfl, _⟩ := h
    rfl
  · obtain ⟨a, y, rfl, hy, ha, k⟩ := h
    refine ⟨_, pssat_sup E.sup rfl rfl rfl rfl rfl rfl rfl (pa_cons (pe_joined (PJ.cons pe_str (PJ.cons (pe_fmt (pv 1)) PJ.nil))) pa_nil) (PSsAt.of (pss_one (ps_ost (pv 0) (pv 1)))) (by rfl), ?_⟩
    exact rd_err1 E.oex (E.noF _ (by simp)) (by decide) hy ha k
theorem ok_BadRound_init (T : Txt P K mg Z) : FnOk P w K mg base CX0 1 Z.f_BadRound_init Z.d_BadRound_init ["self", "part"] (spErr Z.c_BadRound "part") := by
  have E := T.E_BadRound
  obtain ⟨oc, od, kV, doc, pm, an, ct, osl, ed, lk, hcd⟩ := E.fn
  obtain ⟨cl, cld, csl, hcell⟩ := E.sup.cell
  rw [ed] at lk ⊢
  refine fnS_of (D := Z.c_BadRound) lk hcd hcell (NdefX.nscope_by (N := ["self", "part", "__class__"]) (ps := ["self", "part"]) (fr := ["__class__"]) (by decide +kernel)) (fun vs H Q E h => ?_) (fun A outer s H vs Q _ hr h => ?_)
  · obtain ⟨a, y, rfl, _⟩ := h
    rfl
  · obtain ⟨a, y, rfl, hy, ha, k⟩ := h
    refine ⟨_, pssat_sup E.sup rfl rfl rfl rfl rfl rfl rfl (pa_cons (pe_joined (PJ.cons pe_str (PJ.cons (pe_fmt (pv 1)) PJ.nil))) pa_nil) (PSsAt.of (pss_one (ps_ost (pv 0) (pv 1)))) (by rfl), ?_⟩
    exact rd_err1 E.oex (E.noF _ (by simp)) (by decide) hy ha k
theorem ok_BadStop_init (T : Txt P K mg Z) : FnOk P w K mg base CX0 1 Z.f_BadStop_init Z.d_BadStop_init ["self", "index"] (spErr Z.c_BadStop "index") := by
  have E := T.E_BadStop
  obtain ⟨oc, od, kV, doc, pm, an, ct, osl, ed, lk, hcd⟩ := E.fn
  obtain ⟨cl, cld, csl, hcell⟩ := E.sup.cell
  rw [ed] at lk ⊢
  refine fnS_of (D := Z.c_BadStop) lk hcd hcell (NdefX.nscope_by (N := ["self", "index", "__class__"]) (ps := ["self", "index"]) (fr := ["__class__"]) (by decide +kernel)) (fun vs H Q E h => ?_) (fun A outer s H vs Q _ hr h => ?_)
  · obtain ⟨a, y, rfl, _⟩ := h
    rfl
  · obtain ⟨a, y, rfl, hy, ha, k⟩ := h
    refine ⟨_, pssat_sup E.sup rfl rfl rfl rfl rfl rfl rfl (pa_cons (pe_joined (PJ.cons pe_str (PJ.cons (pe_fmt (pv 1)) PJ.nil))) pa_nil) (PSsAt.of (pss_one (ps_ost (pv 0) (pv 1)))) (by rfl), ?_⟩
    exact rd_err1 E.oex (E.noF _ (by simp)) (by decide) hy ha k
end
end Hr

set_option maxHeartbeats 8000000
namespace Hr
open PySem PySem.Spec PyProof.Rows L2
open Evl (Ex)
section
variable {P : Program} {w : World} {K : PySem.W.Frag} {mg : Str → Option Value} {base : Heap} {Z : Ads}
theorem ok_is_name (T : Txt P K mg Z) : FnOk P w K mg base CX0 1 Z.f_is_name Z.d_is_name ["text"] spName := by
  refine T.F_is_name.ok sc_is_name (fun vs H Q E h => ?_) (fun cdv A_ outer s H vs Q E hr h => ?_)
  · obtain ⟨z, rfl, hz, q⟩ := h
    rfl
  · obtain ⟨z, rfl, hz, q⟩ := h
    have hu := hr.units
    refine ⟨_, (pss_one (ps_ret (pe_and (pe_chain op_le op_le pe_int (pe_callB (kLen (K := K) rfl) (by rfl) T.n_len PySem.boot_len (pa_cons (pv 0) pa_nil)) (pe_glob (v := .int 12) (by rfl) T.g_MOST_LETTERS ⟨_, rfl⟩)) (pe_one (pe_callB (kAll (K := K) rfl rfl) (by rfl) T.n_all (by decide +kernel) (pa_cons (pe_lc (own := [("sign", 1)]) (by rfl) sc_is_name.nd (pi_str (pv 0)) (blkOk_by (own := [("sign", 1)]) (N := ["text", "sign"]) (by first | decide +kernel | kernel_rfl)) (fun _ _ _ _ _ => (pg_name (i := 1) sc_is_name.nd rfl (by first | exact .inl rfl | exact .inr rfl))) (fun _ _ _ _ _ => pts_nil) (fun _ _ _ _ _ => (pe_chain op_le_str op_le_str pe_str (pv 1) pe_str))) pa_nil)))))), ?_⟩
    refine ⟨_, rfl, _, _, rfl, ⟨by rw [sizeLine_eq]; have := hz.1; omega, rfl⟩, _, _, rfl, rfl, _, rfl, ite2 (fun c1 => ⟨_, _, rfl, rfl, _, rfl, ite2 (fun c2 => ?_) (fun c2 => ?_)⟩) (fun c1 => ⟨_, rfl, iteF ?_⟩)⟩
    · refine hCB (hCons (lcB_str (f := okC) (i := 0) (j := 1) rfl (name_lt hz.1) (fun _ => rfl) (fun _ => rfl) (fun c σ' G R e h => sign_chain e h) fun D G _ e hD => ?_))
      refine ⟨D, _, rfl, SqL.of hD, ?_⟩
      rw [all_map_id, ← nameOk_of c1 c2]
      exact q G e
    · rw [← nameOk_2 c2]
      exact q H (Ex.refl H)
    · rw [← nameOk_1 c1]
      exact q H (Ex.refl H)

end
end Hr

set_option maxHeartbeats 8000000
namespace Hr
open PySem PySem.Spec PyProof.Rows L2
open Evl (Ex)
section
variable {P : Program} {w : World} {K : PySem.W.Frag} {mg : Str → Option Value} {base : Heap} {Z : Ads}
theorem ok_Round_init (T : Txt P K mg Z) : FnR P w K mg base (L2.CX P w) 3 Z.f_Round_init (spRinit K Z) := by
  have G_BadRound_init : FnOk P w K mg base CX0 1 Z.f_BadRound_init Z.d_BadRound_init ["self", "part"] (spErr Z.c_BadRound "part") := ok_BadRound_init T
  have G_BadStop_init : FnOk P w K mg base CX0 1 Z.f_BadStop_init Z.d_BadStop_init ["self", "index"] (spErr Z.c_BadStop "index") := ok_BadStop_init T
  have G_is_name : FnOk P w K mg base CX0 1 Z.f_is_name Z.d_is_name ["text"] spName := ok_is_name T
  obtain ⟨oc, od, kV, dc, pm, an, cdv, ct, osl, ed, lk, hcd⟩ := T.F_Round_init.ex
  rw [ed] at lk
  refine StX.fn_star (ps := ["self", "period"]) (pv := "stops") lk hcd sc_Round_init StX.cxUp (fun us rest hl => StX.bind_star2 (B := fun us => bindArgs (PySem.W.fnOf "__init__" "Round.__init__" (defArgs s_Round_init) (defBody s_Round_init) (defScope s_Round_init) .none kV dc pm an cdv ct) ⟨us, []⟩) (fun _ _ => rfl) (fun _ _ _ _ => rfl) us rest hl) (sp := spRi K Z) (fun A_ outer s H vs Q E hr h => ?_)
  obtain ⟨x, dx, period, t, xs, ss, rfl, hx, ht, ha, hl, hn, hE1, hE2, k⟩ := h
  have hu := hr.units
  have tkX := takes_of (X := cxOf (L2.CX P w) P w K mg base ["self", "period", "stops", "before", "index", "tick", "place"] "Round.__init__" (defScope s_Round_init) Z.f_Round_init cdv A_ outer s H E) rfl rfl rfl rfl
  refine ⟨_, (pss_cons (ps_if (pt_not (pt_chain op_le op_le pe_int (pv 1) (pe_glob (v := .int 1000000000) (by rfl) T.g_LONGEST_PERIOD ⟨_, rfl⟩)))
      (pss_one (ps_raise rfl tkX (pmk_oex T.E_BadRound.oex T.E_BadRound.iC T.E_BadRound.tI G_BadRound_init (hr.mono (by decide)) T.b_BadRound_init .nil pass0 (by rfl) T.E_BadRound.gC (pa_cons pe_str pa_nil)))) pss_nil)
    (pss_cons (ps_set (i := 3) sc_Round_init.nd rfl (.inl rfl) (pe_un un_neg pe_int))
    (pss_cons (ps_for (passes_of rfl) (by rfl) (kEnT (K := K) rfl (by rfl) T.n_enumerate (pa_cons (pv 2) pa_nil)) (kTup (K := K) (n := 2) rfl (by rfl) (pgs_cons (pg_name (i := 4) sc_Round_init.nd rfl (.inl rfl)) (pgs_cons (kTup (K := K) (n := 2) rfl (by rfl) (pgs_cons (pg_name (i := 5) sc_Round_init.nd rfl (.inl rfl)) (pgs_cons (pg_name (i := 6) sc_Round_init.nd rfl (.inl rfl)) pgs_nil))) pgs_nil)))
      (pss_cons (ps_if (PW.pt (pw_or (pt_cmpR op_ge (pv 4) (kCon (K := K) rfl (pv 0)) (nomark _)) (pw_or (pt_not (pt_chain op_lt op_lt (pv 3) (pv 5) (pv 1))) (pw_or1 (pt_not (pt_val (pe_call (G_is_name) (hr.mono (by decide)) (by rfl) T.g_is_name T.F_is_name.kp T.b_is_name .nil pass0 (pa_cons (pv 6) pa_nil))))))))
      (pss_one (ps_raise rfl tkX (pmk_oex T.E_BadStop.oex T.E_BadStop.iC T.E_BadStop.tI G_BadStop_init (hr.mono (by decide)) T.b_BadStop_init .nil pass0 (by rfl) T.E_BadStop.gC (pa_cons (pv 4) pa_nil)))) pss_nil)
    (pss_one (ps_set (i := 3) sc_Round_init.nd rfl (.inl rfl) (pv 5)))))
    (pss_cons (kSFld (K := K) rfl (pv 0) (pv 1))
    (pss_one (kSFld (K := K) rfl (pv 0) (pv 2))))))), ?_⟩
  have hxs : xs.length = ss.length := by rw [ha.len, List.length_map]
  have raiseP : perOk period = false → ∀ σ : L2.St, tMkO Z.c_BadRound (spErr Z.c_BadRound "part") [] (tCons (tC (V.str "period")) tNil) σ H fun cls d H' => E cls d H' := fun h σ =>
    mkO_reads (.inl ⟨_, rfl, by decide +kernel⟩) fun d H' _ e hd => hE1 h d H' e hd
  refine hSeq (hIf ⟨_, rfl, _, _, rfl, rfl, _, rfl, ite2 (fun c1 => ⟨_, _, rfl, rfl, _, rfl, ite2 (fun c2 => ?_) (fun c2 => ?_)⟩) (fun c1 => ⟨_, rfl, iteT ?_⟩)⟩)
  · exact raiseP (perOk_f fun h => by simp [h.2] at c2) _
  rotate_left
  · exact raiseP (perOk_f fun h => c1 (decide_eq_true h.1)) _
  have hper : perOk period = true := perOk_t (of_decide_eq_true c1) (by simpa using c2)
  refine hNext ?_
  refine hSeq ⟨_, rfl, hGN ?_⟩
  dsimp only
  refine hSeq ⟨_, rfl, t, xs, rfl, SqT.of ht, ?_⟩
  refine for_it (walk_enT (K := K) (a := t) (xs := xs)) (fun i σ G => ∃ (before : Int) (s4 s5 s6 : Option V), σ = [some (.ref x), some (.int period), some (.ref t), some (.int before), s4, s5, s6] ∧ Ex H G ∧ bad period 0 (-1) ss = bad period i before (ss.drop i))
    ⟨-1, none, none, none, rfl, Ex.refl H, rfl⟩ (fun i σ G _ p => let ⟨_, _, _, _, _, e, _⟩ := p; SqT.of (e _ _ ht)) (fun i v σ G G' hi p y => ?_) (fun σ G p => ?_)
  · obtain ⟨before, s4, s5, s6, rfl, e, hb⟩ := p
    obtain ⟨T', xx, yy, rfl, nT, rfl, e1, e2⟩ := y
    cases e1
    obtain ⟨⟨tick, place⟩, a2, hs, rfl, hq⟩ := pair_at ha e2
    have e' : Ex H (upd G T' (.tup [.int (i : Nat), .ref a2])) := e.trans (Ex.new nT)
    have hpl := hn _ (List.mem_of_getElem? hs)
    rw [drop_cons hs] at hb
    refine ⟨T', _, rfl, SqT.of upd_same, rfl, ?_⟩
    refine ⟨_, _, rfl, hGN ?_⟩
    refine ⟨_, _, rfl, ?_⟩
    refine ⟨a2, _, rfl, Evl.ex_t e' hq, rfl, ?_⟩
    refine ⟨_, _, rfl, hGN ⟨_, _, rfl, hGN ⟨rfl, rfl, ?_⟩⟩⟩
    dsimp only
    obtain ⟨u8, hcon⟩ := T.k_MOST
    have raiseI : ∀ (G2 : Hp) (σ : L2.St), σ[4]? = some (some (.int (i : Nat))) → Ex H G2 → bad period 0 (-1) ss = some i → tMkO Z.c_BadStop (spErr Z.c_BadStop "index") [] (tCons (tVar 4) tNil) σ G2 fun cls d H' => E cls d H' := fun G2 σ h4 e2 hbi =>
      ⟨_, h4, mkO_reads (fmt_nat (by omega)) fun d H' _ e3 hd => hE2 hper i hbi d H' (e2.trans e3) hd⟩
    refine hSeq (hIf (hOr ⟨_, rfl, _, rfl, x, Z.c_Round, dx, [], _, u8, rfl, e' _ _ hx, T.C_Round, hcon, rfl, _, _, rfl, rfl, _, rfl, ite2 (fun c3 => iteT ?_) (fun c3 => ?_)⟩))
    · exact raiseI _ _ rfl e' (hb.trans (bad_here (.inl (by have := of_decide_eq_true c3; omega))))
    · refine hOr (hNot ?_)
      refine ⟨_, rfl, _, rfl, _, _, rfl, rfl, _, rfl, ite2 (fun c4 => ⟨_, rfl, _, _, rfl, rfl, _, rfl, ite2 (fun c5 => iteT ?_) (fun c5 => ?_)⟩) (fun c4 => ⟨_, rfl, iteT (iteT ?_)⟩)⟩
      · exact raiseI _ _ rfl e' (hb.trans (bad_here (.inr (.inl fun h => by simp [h.2] at c5))))
      · refine hNot ?_
        refine ⟨_, rfl, place, rfl, hpl, fun G3 e3 => ⟨_, rfl, ite2 (fun c6 => ?_) (fun c6 => ?_)⟩⟩
        · exact raiseI _ _ rfl (e'.trans e3) (hb.trans (bad_here (.inr (.inr (by simpa using c6)))))
        · refine hNext ⟨_, rfl, hGN ?_⟩
          dsimp only
          refine ⟨tick, _, _, _, rfl, e'.trans e3, ?_⟩
          rw [hb]
          exact bad_next (fun z => c3 (decide_eq_true (by omega))) (of_decide_eq_true c4) (by simpa using c5) (by simpa using c6)
      · exact raiseI _ _ rfl e' (hb.trans (bad_here (.inr (.inl fun h => c4 (decide_eq_true h.1)))))
  · obtain ⟨before, s4, s5, s6, rfl, e, hb⟩ := p
    rw [hxs, List.drop_length, bad_none] at hb
    refine hSeq ⟨_, rfl, _, rfl, x, Z.c_Round, dx, [], rfl, e _ _ hx, T.C_Round, T.no_Round_period, by decide, ?_⟩
    refine ⟨_, rfl, _, rfl, x, Z.c_Round, dx, _, rfl, upd_same, T.C_Round, T.no_Round_stops, by show 1 < 1000; decide, ?_⟩
    exact k hper hb _ _ (fun a o na h => by rw [upd_ne na, upd_ne na]; exact e _ _ h) upd_same rfl rfl

end
end Hr

set_option maxHeartbeats 8000000
namespace Hr
open PySem PySem.Spec PyProof.Rows L2
open Evl (Ex)
section
variable {P : Program} {w : World} {K : PySem.W.Frag} {mg : Str → Option Value} {base : Heap} {Z : Ads}
theorem ok_Round_of (T : Txt P K mg Z) : FnR P w K mg base (L2.CX P w) 5 Z.f_Round_of (spOf K Z) := by
  have G_Round_init : FnR P w K mg base (L2.CX P w) 3 Z.f_Round_init (spRinit K Z) := ok_Round_init T
  have G : FnOk P w K mg base (L2.CX P w) 5 Z.f_Round_of Z.d_Round_of ["cls", "period", "stops"] (spOf K Z) := by
    refine T.F_Round_of.okX sc_Round_of (fun vs H Q E h => ?_) (fun cdv A_ outer s H vs Q E hr h => ?_)
    · obtain ⟨period, t, xs, ss, rfl, ht, ha, hl, hn, hE1, hE2, k⟩ := h
      rfl
    · obtain ⟨period, t, xs, ss, rfl, ht, ha, hl, hn, hE1, hE2, k⟩ := h
      have hu := hr.units
      have tkX := takes_of (X := cxOf (L2.CX P w) P w K mg base ["cls", "period", "stops"] "Round.of" (defScope s_Round_of) Z.f_Round_of cdv A_ outer s H E) rfl rfl rfl rfl
      refine ⟨_, (pss_one (ps_ret (pe_mkL (i := 0) T.M_Round G_Round_init (hr.mono (by decide)) rfl (Or.inl rfl) (fun σ => passAt tkX σ) StX.cxUp (pa_cons (pv 1) (kStar (K := K) rfl (pv 2) pa_nil))))), ?_⟩
      refine ⟨rfl, _, rfl, _, rfl, t, xs, rfl, .inl ht, hNil ?_⟩
      dsimp only
      rw [List.append_nil]
      exact rmk_reads ha hl hn ⟨hE1, hE2, k⟩

  refine (G.raw T.b_Round_of .nil).imp fun vs H Q E h => ?_
  rw [List.append_nil]
  exact h
end
end Hr

set_option maxHeartbeats 8000000
namespace Hr
open PySem PySem.Spec PyProof.Rows L2
open Evl (Ex)
section
variable {P : Program} {w : World} {K : PySem.W.Frag} {mg : Str → Option Value} {base : Heap} {Z : Ads}
theorem ok_law_word (T : Txt P K mg Z) : FnP P w K mg base CX0 1 Z.f_law_word Z.d_law_word ["e"] (spWord K Z) := by
  refine fnP_of T.F_law_word sc_law_word (fun a cls d vs H Q E h => ?_) (fun cdv A_ outer s H vs Q E p cls d hz hf hr h => ?_)
  · obtain ⟨rfl, h⟩ := h
    rfl
  · obtain ⟨a, oe⟩ := p
    obtain ⟨rfl, h⟩ := h
    have hpn : (a, oe) ∈ (L2H.cxH CX0 P w K mg base ["e", "found"] "_law_word" (defScope s_law_word) Z.f_law_word cdv A_ outer s H E (a, oe)).pn := List.mem_singleton.mpr rfl
    refine ⟨_, (pss_cons (ps_set (i := 1) sc_law_word.nd rfl (.inl rfl) pe_str)
    (pss_cons (ps_if (PW.pt (pw_and (pt_val (pe_callB (call_isP (K := K) rfl hpn hz hf) (by rfl) T.n_isinstance (by decide +kernel) (pa_cons (pv 0) (pa_cons (pe_glob (v := .ref Z.c_BadRound) (by rfl) T.g_BadRound rfl) pa_nil)))) (pw_and1 (pt_not (pt_val (pe_callB (call_isP (K := K) rfl hpn hz hf) (by rfl) T.n_isinstance (by decide +kernel) (pa_cons (pv 0) (pa_cons (pe_tup (pa_cons (pe_glob (v := .ref Z.c_BadName) (by rfl) T.g_BadName rfl) (pa_cons (pe_glob (v := .ref Z.c_BadNet) (by rfl) T.g_BadNet rfl) (pa_cons (pe_glob (v := .ref Z.c_BadStop) (by rfl) T.g_BadStop rfl) (pa_cons (pe_glob (v := .ref Z.c_UnknownNode) (by rfl) T.g_UnknownNode rfl) pa_nil))))) pa_nil))))))))
      (pss_one (ps_set (i := 1) sc_law_word.nd rfl (.inl rfl) (pe_xp (K := K) rfl hpn hz hf (pv 0)))) pss_nil)
    (pss_cons (ps_if (PW.pt (pw_and (pt_val (pe_callB (call_isP (K := K) rfl hpn hz hf) (by rfl) T.n_isinstance (by decide +kernel) (pa_cons (pv 0) (pa_cons (pe_glob (v := .ref Z.c_BadStop) (by rfl) T.g_BadStop rfl) pa_nil)))) (pw_and1 (pt_not (pt_val (pe_callB (call_isP (K := K) rfl hpn hz hf) (by rfl) T.n_isinstance (by decide +kernel) (pa_cons (pv 0) (pa_cons (pe_tup (pa_cons (pe_glob (v := .ref Z.c_BadName) (by rfl) T.g_BadName rfl) (pa_cons (pe_glob (v := .ref Z.c_BadNet) (by rfl) T.g_BadNet rfl) (pa_cons (pe_glob (v := .ref Z.c_BadRound) (by rfl) T.g_BadRound rfl) (pa_cons (pe_glob (v := .ref Z.c_UnknownNode) (by rfl) T.g_UnknownNode rfl) pa_nil))))) pa_nil))))))))
      (pss_one (ps_set (i := 1) sc_law_word.nd rfl (.inl rfl) (pe_xp (K := K) rfl hpn hz hf (pv 0)))) pss_nil)
    (pss_cons (ps_if (PW.pt (pw_and (pt_val (pe_callB (call_isP (K := K) rfl hpn hz hf) (by rfl) T.n_isinstance (by decide +kernel) (pa_cons (pv 0) (pa_cons (pe_glob (v := .ref Z.c_BadName) (by rfl) T.g_BadName rfl) pa_nil)))) (pw_and1 (pt_not (pt_val (pe_callB (call_isP (K := K) rfl hpn hz hf) (by rfl) T.n_isinstance (by decide +kernel) (pa_cons (pv 0) (pa_cons (pe_tup (pa_cons (pe_glob (v := .ref Z.c_BadNet) (by rfl) T.g_BadNet rfl) (pa_cons (pe_glob (v := .ref Z.c_BadRound) (by rfl) T.g_BadRound rfl) (pa_cons (pe_glob (v := .ref Z.c_BadStop) (by rfl) T.g_BadStop rfl) (pa_cons (pe_glob (v := .ref Z.c_UnknownNode) (by rfl) T.g_UnknownNode rfl) pa_nil))))) pa_nil))))))))
      (pss_one (ps_set (i := 1) sc_law_word.nd rfl (.inl rfl) (pe_tup (pa_cons pe_str (pa_cons (pe_xp (K := K) rfl hpn hz hf (pv 0)) pa_nil))))) pss_nil)
    (pss_one (ps_ret (pv 1))))))), ?_⟩
    rcases h with ⟨y, hP, q⟩ | ⟨i, hP, q⟩ | ⟨y, hP, q⟩
    · refine isP_yes hP T.w_BadRound_BadRound T.v_BadRound rfl fun H1 e1 => iteT ?_
      refine ⟨_, rfl, _, _, .str y, rfl, hP.ex e1, T.E_BadRound.noF _ (by simp), by simp [List.lookup], ?_⟩
      refine hGN ?_; dsimp only
      refine hSeq (isP_no (hP.ex e1) T.w_BadRound_BadStop rfl (iteF ?_))
      refine hSeq (isP_no (hP.ex e1) T.w_BadRound_BadName rfl (iteF ?_))
      exact ⟨_, rfl, q _ e1⟩
    · refine isP_no hP T.w_BadStop_BadRound rfl (iteF ?_)
      refine hSeq (isP_yes hP T.w_BadStop_BadStop T.v_BadStop rfl fun H1 e1 => iteT ?_)
      refine ⟨_, rfl, _, _, .int i, rfl, hP.ex e1, T.E_BadStop.noF _ (by simp), by simp [List.lookup], ?_⟩
      refine hGN ?_; dsimp only
      refine hSeq (isP_no (hP.ex e1) T.w_BadStop_BadName rfl (iteF ?_))
      exact ⟨_, rfl, q _ e1⟩
    · refine isP_no hP T.w_BadName_BadRound rfl (iteF ?_)
      refine hSeq (isP_no hP T.w_BadName_BadStop rfl (iteF ?_))
      refine hSeq (isP_yes hP T.w_BadName_BadName T.v_BadName rfl fun H1 e1 => iteT ?_)
      refine ⟨_, rfl, _, _, .str y, rfl, hP.ex e1, T.E_BadName.noF _ (by simp), by simp [List.lookup], by show 2 ≤ sizeLine; decide, fun p np => ?_⟩
      refine hGN ?_; dsimp only
      exact ⟨_, rfl, q p _ (Evl.fresh_back e1 np) (e1.trans (Ex.new np)) upd_same⟩

end
end Hr

set_option maxHeartbeats 8000000
namespace Hr
open PySem PySem.Spec PyProof.Rows L2
open Evl (Ex)
section
variable {P : Program} {w : World} {K : PySem.W.Frag} {mg : Str → Option Value} {base : Heap} {Z : Ads}
theorem ok_law_told (T : Txt P K mg Z) : FnOk P w K mg base CX0 6 Z.f_law_told Z.d_law_told ["period", "stops", "way"] (spTold K) := by
  have G_Round_init : FnR P w K mg base (L2.CX P w) 3 Z.f_Round_init (spRinit K Z) := ok_Round_init T
  have G_Round_of : FnR P w K mg base (L2.CX P w) 5 Z.f_Round_of (spOf K Z) := ok_Round_of T
  have G_law_word : FnP P w K mg base CX0 1 Z.f_law_word Z.d_law_word ["e"] (spWord K Z) := ok_law_word T
  refine T.F_law_told.ok sc_law_told (fun vs H Q E h => ?_) (fun cdv A_ outer s H vs Q E hr h => ?_)
  · obtain ⟨period, v, way, ss, rfl, hv, hl, hn, hw, k⟩ := h
    rfl
  · obtain ⟨period, v, way, ss, rfl, hv, hl, hn, hw, k⟩ := h
    have hu := hr.units
    refine ⟨_, (pss_cons (ps_set (i := 3) sc_law_told.nd rfl (.inl rfl) pe_non)
    (pss_cons (ps_try_as (i := 4) rfl rfl sc_law_told.nd rfl rfl ⟨rfl, by decide, .inl T.g_RoundError⟩ takes0 (fun W pn xe tk _ =>
      (pss_one (ps_if (pt_cmpR (op_eqU (K := K) rfl hu) (pv 2) pe_int (nomark _))
      (pss_one (ps_expr (pe_cmS (pe_glob (v := .ref Z.c_Round) (by rfl) T.g_Round rfl) T.R_Round T.m_Round_of G_Round_of (hr.mono (by decide)) (fun σ => passAt tk σ) (pa_cons (pv 0) (pa_cons (pv 1) pa_nil))))) (pss_one (ps_if (pt_cmpR (op_eqU (K := K) rfl hu) (pe_callB (kLen (K := K) rfl) (by rfl) T.n_len PySem.boot_len (pa_cons (pv 1) pa_nil)) pe_int (nomark _))
      (pss_one (ps_expr (pe_mkS T.M_Round G_Round_init (hr.mono (by decide)) (by rfl) T.g_Round (fun σ => passAt tk σ) StX.cxUp (pa_cons (pv 0) (pa_cons (pe_ix (kIxU (K := K) rfl) (pv 1) pe_int (fun _ _ => rfl)) pa_nil))))) (pss_one (ps_expr (pe_mkS T.M_Round G_Round_init (hr.mono (by decide)) (by rfl) T.g_Round (fun σ => passAt tk σ) StX.cxUp (pa_cons (pv 0) (pa_cons (pe_ix (kIxU (K := K) rfl) (pv 1) pe_int (fun _ _ => rfl)) (pa_cons (pe_ix (kIxU (K := K) rfl) (pv 1) pe_int (fun _ _ => rfl)) pa_nil))))))))))) (fun a oe cls d pn hz hf => (pss_one (ps_set (i := 3) sc_law_told.nd rfl (.inl rfl) (pe_callP G_law_word ((roomM hr _).mono (by decide)) List.mem_cons_self hz hf (by rfl) T.g_law_word T.F_law_word.kp T.b_law_word pass0 (pa_cons (pv 4) pa_nil))))))
    (pss_one (ps_ret (pv 3))))), ?_⟩
    obtain ⟨t, xs, rfl, ht, ha⟩ := tup_cases hv
    have hxs : xs.length = ss.length := by rw [ha.len, List.length_map]
    refine hSeq (hGN ?_)
    dsimp only
    refine hSeq ?_
    have hD : ∀ (σ' : L2.St) H', σ'[3]? = some (some (due period ss)) → Ex H H' → tRet (tVar 3) { nx := fun x H' => Q V.non H', rt := Q } σ' H' := fun σ' H' h e => ⟨_, h, k H' e⟩
    refine ⟨_, rfl, .inl ⟨rfl, _, rfl, ite2 (fun c => ?_) (fun c => ?_)⟩⟩
    · refine ⟨rfl, _, rfl, _, rfl, period, t, xs, ss, rfl, ht, ha, hl, hn, told_made T (Ex.refl H) hD⟩
    · have hw' : ss.length = 1 ∨ ss.length = 2 := by
        rcases hw with h | h
        · exact absurd (by rw [h]; rfl) c
        · exact h
      refine ⟨_, rfl, _, _, rfl, .inr ⟨xs, ht, rfl⟩, .inl ⟨rfl, _, rfl, ite2 (fun c1 => ?_) (fun c1 => ?_)⟩⟩
      · have h1 : xs.length = 1 := by
          have := of_decide_eq_true c1
          injection this with this
          omega
        obtain ⟨v0, rfl⟩ := one_of h1
        refine ⟨_, rfl, _, rfl, .inr (.inl ⟨_, _, 0, v0, rfl, rfl, ht, rfl, ?_⟩)⟩
        exact rmk_reads ha hl hn (told_made T (Ex.refl H) hD)
      · have h1 : xs.length = 2 := by
          rcases hw' with h | h
          · exact absurd (decide_eq_true (by rw [hxs, h]; rfl)) c1
          · omega
        obtain ⟨v0, v1, rfl⟩ := two_of h1
        refine ⟨_, rfl, _, rfl, .inr (.inl ⟨_, _, 0, v0, rfl, rfl, ht, rfl, _, rfl, .inr (.inl ⟨_, _, 1, v1, rfl, rfl, ht, rfl, ?_⟩)⟩)⟩
        exact rmk_reads ha hl hn (told_made T (Ex.refl H) hD)

end
end Hr

set_option maxHeartbeats 8000000
namespace Hr
open PySem PySem.Spec PyProof.Rows L2
open Evl (Ex)
section
variable {P : Program} {w : World} {K : PySem.W.Frag} {mg : Str → Option Value} {base : Heap} {Z : Ads}
theorem ok_Courier_init (T : Txt P K mg Z) : FnR P w K mg base (L2.CX P w) 3 Z.f_Courier_init (spCi K Z) := by
  have G_BadName_init : FnOk P w K mg base CX0 1 Z.f_BadName_init Z.d_BadName_init ["self", "name"] (spErr Z.c_BadName "name") := ok_BadName_init T
  have G_is_name : FnOk P w K mg base CX0 1 Z.f_is_name Z.d_is_name ["text"] spName := ok_is_name T
  have G : FnOk P w K mg base (L2.CX P w) 3 Z.f_Courier_init Z.d_Courier_init ["self", "name", "way", "start", "since"] (spCi K Z) := by
    refine T.F_Courier_init.okX sc_Courier_init (fun vs H Q E h => ?_) (fun cdv A_ outer s H vs Q E hr h => ?_)
    · obtain ⟨x, dx, name, way, start, since, rfl, hx, hn, hE, k⟩ := h
      rfl
    · obtain ⟨x, dx, name, way, start, since, rfl, hx, hn, hE, k⟩ := h
      have hu := hr.units
      have tkX := takes_of (X := cxOf (L2.CX P w) P w K mg base ["self", "name", "way", "start", "since"] "Courier.__init__" (defScope s_Courier_init) Z.f_Courier_init cdv A_ outer s H E) rfl rfl rfl rfl
      refine ⟨_, (pss_cons (ps_if (pt_not (pt_val (pe_call (G_is_name) (hr.mono (by decide)) (by rfl) T.g_is_name T.F_is_name.kp T.b_is_name .nil pass0 (pa_cons (pv 1) pa_nil))))
      (pss_one (ps_raise rfl tkX (pmk_oex T.E_BadName.oex T.E_BadName.iC T.E_BadName.tI G_BadName_init (hr.mono (by decide)) T.b_BadName_init .nil pass0 (by rfl) T.E_BadName.gC (pa_cons (pv 1) pa_nil)))) pss_nil)
    (pss_cons (kSFld (K := K) rfl (pv 0) (pv 1))
    (pss_cons (kSFld (K := K) rfl (pv 0) (pv 2))
    (pss_cons (kSFld (K := K) rfl (pv 0) (pv 3))
    (pss_one (kSFld (K := K) rfl (pv 0) (pv 4))))))), ?_⟩
      refine hSeq (hIf (hNot ⟨_, rfl, name, rfl, hn, fun G e => ⟨_, rfl, ite2 (fun c => ?_) (fun c => hNext ?_)⟩⟩))
      · have h1 : nameOk name = false := by simpa using c
        exact ⟨_, rfl, mkO_reads (.inl ⟨_, rfl, hn.1⟩) fun d H' _ e2 hd => hE h1 d H' (e.trans e2) hd⟩
      · have h1 : nameOk name = true := by simpa using c
        refine hSeq ⟨_, rfl, _, rfl, x, Z.c_Courier, dx, [], rfl, e _ _ hx, T.C_Courier, T.no_Courier_name, by decide, ?_⟩
        refine hSeq ⟨_, rfl, _, rfl, x, Z.c_Courier, dx, _, rfl, upd_same, T.C_Courier, T.no_Courier_way, by show 1 < 1000; decide, ?_⟩
        refine hSeq ⟨_, rfl, _, rfl, x, Z.c_Courier, dx, _, rfl, upd_same, T.C_Courier, T.no_Courier_start, by show 2 < 1000; decide, ?_⟩
        refine ⟨_, rfl, _, rfl, x, Z.c_Courier, dx, _, rfl, upd_same, T.C_Courier, T.no_Courier_since, by show 3 < 1000; decide, ?_⟩
        exact k h1 _ _ (fun a o na h => by rw [upd_ne na, upd_ne na, upd_ne na, upd_ne na]; exact e _ _ h) upd_same rfl rfl rfl rfl

  refine (G.raw T.b_Courier_init .nil).imp fun vs H Q E h => ?_
  rw [List.append_nil]
  exact h
end
end Hr

set_option maxHeartbeats 8000000
namespace Hr
open PySem PySem.Spec PyProof.Rows L2
open Evl (Ex)
section
variable {P : Program} {w : World} {K : PySem.W.Frag} {mg : Str → Option Value} {base : Heap} {Z : Ads}
theorem ok_law_named (T : Txt P K mg Z) : FnOk P w K mg base CX0 6 Z.f_law_named Z.d_law_named ["name"] spNamed := by
  have G_Courier_init : FnR P w K mg base (L2.CX P w) 3 Z.f_Courier_init (spCi K Z) := ok_Courier_init T
  have G_Round_init : FnR P w K mg base (L2.CX P w) 3 Z.f_Round_init (spRinit K Z) := ok_Round_init T
  have G_law_word : FnP P w K mg base CX0 1 Z.f_law_word Z.d_law_word ["e"] (spWord K Z) := ok_law_word T
  refine T.F_law_named.ok sc_law_named (fun vs H Q E h => ?_) (fun cdv A_ outer s H vs Q E hr h => ?_)
  · obtain ⟨z, rfl, hz, k1, k2⟩ := h
    rfl
  · obtain ⟨z, rfl, hz, k1, k2⟩ := h
    have hu := hr.units
    refine ⟨_, (pss_cons (ps_set (i := 1) sc_law_named.nd rfl (.inl rfl) pe_non)
    (pss_cons (ps_try_as (i := 2) rfl rfl sc_law_named.nd rfl rfl ⟨rfl, by decide, .inl T.g_RoundError⟩ takes0 (fun W pn xe tk _ =>
      (pss_one (ps_expr (pe_mkS T.M_Courier G_Courier_init (hr.mono (by decide)) (by rfl) T.g_Courier (fun σ => passAt tk σ) StX.cxUp (pa_cons (pv 0) (pa_cons (pe_mkS T.M_Round G_Round_init (hr.mono (by decide)) (by rfl) T.g_Round (fun σ => passAt tk σ) StX.cxUp (pa_cons pe_int pa_nil)) (pa_cons pe_int (pa_cons pe_int pa_nil)))))))) (fun a oe cls d pn hz hf => (pss_one (ps_set (i := 1) sc_law_named.nd rfl (.inl rfl) (pe_callP G_law_word ((roomM hr _).mono (by decide)) List.mem_cons_self hz hf (by rfl) T.g_law_word T.F_law_word.kp T.b_law_word pass0 (pa_cons (pv 2) pa_nil))))))
    (pss_one (ps_ret (pv 1))))), ?_⟩
    refine hSeq (hGN ?_)
    dsimp only
    refine hSeq ?_
    refine ⟨_, rfl, hCons (rmk0_reads fun x G e => ?_)⟩
    intro y dy ny ndy hne
    have ny1 : (upd G dy (.own y)) y = none := by rw [upd_ne hne.symm]; exact ny
    have e0 : Ex H (upd (upd G dy (.own y)) y (.ins Z.c_Courier dy [])) := (e.trans (Ex.new ndy)).trans (Ex.new ny1)
    refine ⟨y, dy, z, _, _, _, rfl, upd_same, hz, fun c d H' e2 hd => ⟨true, T.x_BadName, fun _ a ha => ?_, fun q => by cases q⟩, fun c H' fs e2 _ _ _ _ _ => ⟨rfl, _, rfl, k1 c H' fun b o h => ?_⟩⟩
    · refine ⟨_, rfl, rfl, .inr (.inr ⟨_, ⟨rfl, d, rfl, hd, T.E_BadName.ex⟩, fun p H2 np e3 hp => ?_⟩)⟩
      refine hGN ?_
      exact ⟨_, rfl, k2 c p H2 (Evl.fresh_back (e0.trans e2) np) ((e0.trans e2).trans e3) hp⟩
    · exact e2 b o (ne_of_none (e _ _ h) ny) (e0 _ _ h)

end
end Hr

set_option maxHeartbeats 8000000
namespace Hr
open PySem PySem.Spec PyProof.Rows L2
open Evl (Ex)
section
variable {P : Program} {w : World} {K : PySem.W.Frag} {mg : Str → Option Value} {base : Heap} {Z : Ads}
theorem ok_law_is_name (T : Txt P K mg Z) : FnOk P w K mg base CX0 1 Z.f_law_is_name Z.d_law_is_name ["text"] spName := by
  refine T.F_law_is_name.ok sc_law_is_name (fun vs H Q E h => ?_) (fun cdv A_ outer s H vs Q E hr h => ?_)
  · obtain ⟨z, rfl, hz, q⟩ := h
    rfl
  · obtain ⟨z, rfl, hz, q⟩ := h
    have hu := hr.units
    refine ⟨_, (pss_one (ps_ret (pe_and (pe_chain op_le op_le pe_int (pe_callB (kLen (K := K) rfl) (by rfl) T.n_len PySem.boot_len (pa_cons (pv 0) pa_nil)) pe_int) (pe_one (pe_cmpR (op_eqU (K := K) rfl hu) (pe_lc (own := [("sign", 1)]) (by rfl) sc_law_is_name.nd (pi_str (pv 0)) (blkOk_by (own := [("sign", 1)]) (N := ["text", "sign"]) (by first | decide +kernel | kernel_rfl)) (fun _ _ _ _ _ => (pg_name (i := 1) sc_law_is_name.nd rfl (by first | exact .inl rfl | exact .inr rfl))) (fun _ _ _ _ _ => (pts_one (pt_cmpR op_notIn_sign (pv 1) pe_str (by rfl)))) (fun _ _ _ _ _ => (pv 1))) (pe_lst pa_nil) (nomark _)))))), ?_⟩
    refine ⟨_, rfl, _, _, rfl, ⟨by rw [sizeLine_eq]; have := hz.1; omega, rfl⟩, _, _, rfl, rfl, _, rfl, ite2 (fun c1 => ⟨_, _, rfl, rfl, _, rfl, ite2 (fun c2 => ?_) (fun c2 => ?_)⟩) (fun c1 => ⟨_, rfl, iteF ?_⟩)⟩
    · refine lcF_str (f := fun c => !okC c) rfl (name_lt hz.1) (fun _ => rfl) (fun _ => rfl) (fun c G R h => ⟨_, rfl, c, _, rfl, rfl, _, rfl, by rw [alpha_mem]; exact h⟩) fun D G _ e hD => ?_
      refine ⟨Nat.zero_le _, fun p np => ?_⟩
      refine .inr ⟨.list _, .list [], .lst (Evl.ex_l (Ex.new np) (SqL.of hD)) (dpAll_str _), .lst (SqL.of upd_same) .nil, shaped_strs fun y hy => ?_, rfl, ?_⟩
      · obtain ⟨c, hc, rfl⟩ := List.mem_map.mp hy
        exact strOk_sign hz.2 (List.mem_filter.mp hc).1
      · rw [List.map_map, eqv_nil]
        have e2 : decide ((z.cps.toList.filter fun c => !okC c) = []) = nameOk z := by
          rw [nameOk_of c1 c2, Bool.eq_iff_iff, decide_eq_true_eq]
          exact filter_none
        rw [e2]
        exact q _ (e.trans (Ex.new np))
    · rw [← nameOk_2 c2]
      exact q H (Ex.refl H)
    · rw [← nameOk_1 c1]
      exact q H (Ex.refl H)

end
end Hr

set_option maxHeartbeats 8000000
namespace Hr
open PySem PySem.Spec PyProof.Rows L2
open Evl (Ex)
section
variable {P : Program} {w : World} {K : PySem.W.Frag} {mg : Str → Option Value} {base : Heap} {Z : Ads}
theorem ok_law_due (T : Txt P K mg Z) : FnOk P w K mg base CX0 2 Z.f_law_due Z.d_law_due ["period", "stops"] (spDue K) := by
  have G_law_is_name : FnOk P w K mg base CX0 1 Z.f_law_is_name Z.d_law_is_name ["text"] spName := ok_law_is_name T
  refine T.F_law_due.ok sc_law_due (fun vs H Q E h => ?_) (fun cdv A_ outer s H vs Q E hr h => ?_)
  · obtain ⟨period, v, ss, rfl, hv, hl, hn, k⟩ := h
    rfl
  · obtain ⟨period, v, ss, rfl, hv, hl, hn, k⟩ := h
    have hu := hr.units
    refine ⟨_, (pss_cons (ps_if (PW.pt (pw_or (pt_cmpR op_lt (pv 0) pe_int (nomark _)) (pw_or1 (pt_cmpR op_gt (pv 0) (pe_op op_powW pe_int pe_int) (nomark _)))))
      (pss_one (ps_ret pe_str)) pss_nil)
    (pss_cons (ps_for PassesOwn.never (by rfl) (pi_range1 (by rfl) T.n_range (pa_cons (pe_callB (kLen (K := K) rfl) (by rfl) T.n_len PySem.boot_len (pa_cons (pv 1) pa_nil)) pa_nil)) (pg_name (i := 2) sc_law_due.nd rfl (.inl rfl))
      (pss_cons (ps_asg (pe_ix (kIxU (K := K) rfl) (pv 1) (pv 2) (fun _ _ => rfl)) (kTup (K := K) (n := 2) rfl (by rfl) (pgs_cons (pg_name (i := 3) sc_law_due.nd rfl (.inl rfl)) (pgs_cons (pg_name (i := 4) sc_law_due.nd rfl (.inl rfl)) pgs_nil))))
    (pss_cons (ps_set (i := 5) sc_law_due.nd rfl (.inl rfl) (pe_ifExp (pt_cmpR op_gt (pv 2) pe_int (nomark _)) (pe_ix (kIxU (K := K) rfl) (pe_ix (kIxU (K := K) rfl) (pv 1) (pe_op op_sub (pv 2) pe_int) (fun _ _ => rfl)) pe_int (fun _ _ => rfl)) (pe_un un_neg pe_int)))
    (pss_one (ps_if (PW.pt (pw_or (pt_cmpR (op_eqU (K := K) rfl hu) (pv 2) pe_int (nomark _)) (pw_or (pt_cmpR op_le (pv 3) (pv 5) (nomark _)) (pw_or (pt_cmpR op_ge (pv 3) (pv 0) (nomark _)) (pw_or1 (pt_not (pt_val (pe_call (G_law_is_name) (hr.mono (by decide)) (by rfl) T.g_law_is_name T.F_law_is_name.kp T.b_law_is_name .nil pass0 (pa_cons (pv 4) pa_nil)))))))))
      (pss_one (ps_ret (pv 2))) pss_nil)))))
    (pss_one (ps_ret pe_non)))), ?_⟩
    obtain ⟨t, xs, rfl, ht, ha⟩ := tup_cases hv
    have hxs : xs.length = ss.length := by rw [ha.len, List.length_map]
    have ret : ∀ (G : Hp) (y : V), Ex H G → due period ss = y → Q y G := fun G y e h => h ▸ k G e
    refine hSeq (hIf (hOr ?_))
    refine ⟨_, rfl, _, _, rfl, rfl, _, rfl, ite2 (fun c1 => iteT ?_) (fun c1 => ?_)⟩
    · exact ret H _ (Ex.refl H) (due_p (perOk_f fun h => by have := of_decide_eq_true c1; omega))
    refine ⟨_, rfl, _, _, rfl, rfl, cpow_lit (by decide) (by decide) (by decide), _, _, rfl, rfl, _, rfl, ite2 (fun c2 => ?_) (fun c2 => ?_)⟩
    · exact ret H _ (Ex.refl H) (due_p (perOk_f fun h => by
        have q : (10 : Int) ^ (9 : Int).toNat < period := of_decide_eq_true c2
        have q2 : (10 : Int) ^ (9 : Int).toNat = 1000000000 := by decide
        omega))
    have hper : perOk period = true := perOk_t (by
        have q : ¬ period < 1 := fun z => c1 (decide_eq_true z)
        omega) (by
        have q : ¬ (10 : Int) ^ (9 : Int).toNat < period := fun z => c2 (decide_eq_true z)
        have q2 : (10 : Int) ^ (9 : Int).toNat = 1000000000 := by decide
        omega)
    refine hNext ?_
    refine hSeq ⟨_, rfl, _, _, rfl, .inr ⟨xs, ht, rfl⟩, _, rfl, by omega, by omega, ?_⟩
    refine for_range (lo := 0) (fun i σ G => ∃ (before : Int) (s2 s3 s4 s5 : Option V), σ = [some (.int period), some (.ref t), s2, s3, s4, s5] ∧ Ex H G ∧ bad period 0 (-1) ss = bad period i before (ss.drop i) ∧ i ≤ 8 ∧ (i = 0 → before = -1) ∧ ∀ j, i = j + 1 → ∃ s, ss[j]? = some s ∧ before = s.1)
      ⟨-1, none, none, none, none, rfl, Ex.refl H, rfl, by decide, fun _ => rfl, fun j h => by omega⟩ (fun i σ G hi p => ?_) (fun σ G p => ?_)
    · obtain ⟨before, s2, s3, s4, s5, rfl, e, hb, hi8, hb0, hb1⟩ := p
      have hi' : i < xs.length := by omega
      obtain ⟨⟨tick, place⟩, a2, hs, hv2, hq⟩ := pair_at ha (List.getElem?_eq_getElem hi')
      have hpl := hn _ (List.mem_of_getElem? hs)
      rw [drop_cons hs] at hb
      have htG := Evl.ex_t e ht
      rw [Int.zero_add]
      refine hGN ?_
      dsimp only
      refine hSeq ⟨_, rfl, _, rfl, .inr (.inl ⟨t, xs, (i : Int), .ref a2, rfl, rfl, htG, at_nat (by rw [List.getElem?_eq_getElem hi', hv2]), ?_⟩)⟩
      refine ⟨a2, _, rfl, Evl.ex_t e hq, rfl, ?_⟩
      refine ⟨_, _, rfl, hGN ⟨_, _, rfl, hGN ⟨rfl, ?_⟩⟩⟩
      dsimp only
      refine hSeq ⟨_, rfl, _, _, rfl, rfl, _, rfl, ite2 (fun c3 => ?_) (fun c3 => ?_)⟩
      · obtain ⟨j, rfl⟩ : ∃ j, i = j + 1 := ⟨i - 1, by have := of_decide_eq_true c3; omega⟩
        obtain ⟨s, hsj, hbs⟩ := hb1 j rfl
        subst hbs
        have hj : j < xs.length := by omega
        obtain ⟨s', a3, hs', hv3, hq3⟩ := pair_at ha (List.getElem?_eq_getElem hj)
        rw [hsj] at hs'
        cases hs'
        refine ⟨_, rfl, _, rfl, _, _, rfl, rfl, .inr (.inl ⟨t, xs, _, .ref a3, rfl, rfl, htG, ?_, .inr (.inl ⟨a3, _, 0, .int s.1, rfl, rfl, Evl.ex_t e hq3, rfl, ?_⟩)⟩)⟩
        · rw [show (((j + 1 : Nat) : Int) - 1) = (j : Int) by omega]
          exact at_nat (by rw [List.getElem?_eq_getElem hj, hv3])
        · refine hGN ?_
          dsimp only
          have hs2 : ∀ j', j + 1 + 1 = j' + 1 → ss[j']? = some (tick, place) := fun j' hj' => (by have z : j' = j + 1 := (by omega); rw [z]; exact hs)
          refine hIf (hOr ?_)
          refine ⟨_, rfl, .inl ⟨rfl, _, rfl, ite2 (fun c4 => ?_) (fun c4 => ?_)⟩⟩
          · have c4' := of_decide_eq_true c4
            injection c4' with c4'
            exact ⟨_, rfl, ret G _ e (due_i hper (hb.trans (bad_here (.inl (by omega)))))⟩
          refine hOr ?_
          refine ⟨_, rfl, _, rfl, _, _, rfl, rfl, _, rfl, ite2 (fun c5 => ?_) (fun c5 => ?_)⟩
          · exact ⟨_, rfl, ret G _ e (due_i hper (hb.trans (bad_here (.inr (.inl fun z => by have := of_decide_eq_true c5; omega)))))⟩
          refine hOr ?_
          refine ⟨_, rfl, _, rfl, _, _, rfl, rfl, _, rfl, ite2 (fun c6 => ?_) (fun c6 => ?_)⟩
          · exact ⟨_, rfl, ret G _ e (due_i hper (hb.trans (bad_here (.inr (.inl fun z => by have := of_decide_eq_true c6; omega)))))⟩
          refine hNot ?_
          refine ⟨_, rfl, place, rfl, hpl, fun G3 e3 => ⟨_, rfl, ite2 (fun c7 => ?_) (fun c7 => ?_)⟩⟩
          · exact ⟨_, rfl, ret G3 _ (e.trans e3) (due_i hper (hb.trans (bad_here (.inr (.inr (by simpa using c7))))))⟩
          have c4' : ¬ (8 ≤ j + 1) := fun z => c4 (decide_eq_true (congrArg V.int (by omega)))
          refine hNext ⟨tick, _, _, _, _, rfl, e.trans e3, ?_, by omega, fun z => by omega, fun j' hj' => ⟨_, hs2 j' hj', rfl⟩⟩
          rw [hb]
          exact bad_next c4' (by
            have q : ¬ tick ≤ s.1 := fun z => c5 (decide_eq_true z)
            omega) (by
            have q : ¬ period ≤ tick := fun z => c6 (decide_eq_true z)
            omega) (by simpa using c7)
      · have hbf := hb0 (by
          have q : ¬ (0 : Int) < (i : Int) := fun z => c3 (decide_eq_true z)
          omega)
        subst hbf
        refine ⟨_, rfl, hGN ?_⟩
        dsimp only
        have hs2 : ∀ j', i + 1 = j' + 1 → ss[j']? = some (tick, place) := fun j' hj' => (by have z : j' = i := (by omega); rw [z]; exact hs)
        refine hIf (hOr ?_)
        refine ⟨_, rfl, .inl ⟨rfl, _, rfl, ite2 (fun c4 => ?_) (fun c4 => ?_)⟩⟩
        · have c4' := of_decide_eq_true c4
          injection c4' with c4'
          exact ⟨_, rfl, ret G _ e (due_i hper (hb.trans (bad_here (.inl (by omega)))))⟩
        refine hOr ?_
        refine ⟨_, rfl, _, rfl, _, _, rfl, rfl, _, rfl, ite2 (fun c5 => ?_) (fun c5 => ?_)⟩
        · exact ⟨_, rfl, ret G _ e (due_i hper (hb.trans (bad_here (.inr (.inl fun z => by have := of_decide_eq_true c5; omega)))))⟩
        refine hOr ?_
        refine ⟨_, rfl, _, rfl, _, _, rfl, rfl, _, rfl, ite2 (fun c6 => ?_) (fun c6 => ?_)⟩
        · exact ⟨_, rfl, ret G _ e (due_i hper (hb.trans (bad_here (.inr (.inl fun z => by have := of_decide_eq_true c6; omega)))))⟩
        refine hNot ?_
        refine ⟨_, rfl, place, rfl, hpl, fun G3 e3 => ⟨_, rfl, ite2 (fun c7 => ?_) (fun c7 => ?_)⟩⟩
        · exact ⟨_, rfl, ret G3 _ (e.trans e3) (due_i hper (hb.trans (bad_here (.inr (.inr (by simpa using c7))))))⟩
        have c4' : ¬ (8 ≤ i) := fun z => c4 (decide_eq_true (congrArg V.int (by omega)))
        refine hNext ⟨tick, _, _, _, _, rfl, e.trans e3, ?_, by omega, fun z => by omega, fun j' hj' => ⟨_, hs2 j' hj', rfl⟩⟩
        rw [hb]
        exact bad_next c4' (by
          have q : ¬ tick ≤ -1 := fun z => c5 (decide_eq_true z)
          omega) (by
          have q : ¬ period ≤ tick := fun z => c6 (decide_eq_true z)
          omega) (by simpa using c7)
    · obtain ⟨before, s2, s3, s4, s5, rfl, e, hb, _⟩ := p
      have hz : ((xs.length : Int)).toNat = ss.length := by omega
      rw [hz, List.drop_length, bad_none] at hb
      exact ret G _ e (due_n hper hb)

end
end Hr

set_option maxHeartbeats 8000000
namespace Hr
open PySem PySem.Spec PyProof.Rows L2
open Evl (Ex)
section
variable {P : Program} {w : World} {K : PySem.W.Frag} {mg : Str → Option Value} {base : Heap} {Z : Ads}
theorem ok_law_source (T : Txt P K mg Z) : FnOk P w K mg base CX0 1 Z.f_law_source Z.d_law_source ["script", "index"] (spSource K) := by
  refine T.F_law_source.ok sc_law_source (fun vs H Q E h => ?_) (fun cdv A_ outer s H vs Q E hr h => ?_)
  · obtain ⟨a, ns, i, rfl, hS, hi, k⟩ := h
    rfl
  · obtain ⟨a, ns, i, rfl, hS, hi, k⟩ := h
    have hu := hr.units
    refine ⟨_, (pss_cons (ps_set (i := 2) sc_law_source.nd rfl (.inl rfl) pe_int)
    (pss_cons (ps_if (pt_cmpR op_lt (pv 1) (pe_callB (kLen (K := K) rfl) (by rfl) T.n_len PySem.boot_len (pa_cons (pv 0) pa_nil)) (nomark _))
      (pss_one (ps_set (i := 2) sc_law_source.nd rfl (.inl rfl) (pe_ix (kIxU (K := K) rfl) (pv 0) (pv 1) (fun _ _ => rfl)))) pss_nil)
    (pss_one (ps_ret (pe_lst (pa_cons (pe_callB (call_max2 rfl) (by rfl) T.n_max (by decide +kernel) (pa_cons pe_int (pa_cons (pe_op op_sub (pv 2) (pe_op op_powW pe_int pe_int)) pa_nil))) (pa_cons (pe_op (kAdd (K := K) rfl) (pe_op op_mod (pv 2) (pe_op (kAdd (K := K) rfl) (pe_op op_powW pe_int pe_int) pe_int)) (pe_op op_mulU pe_int (pv 1))) (pa_cons pe_int pa_nil)))))))), ?_⟩
    refine ⟨_, rfl, _, rfl, _, _, rfl, .inl ⟨_, hS, rfl⟩, _, _, rfl, rfl, _, rfl, ite2 (fun c => ?_) (fun c => ?_)⟩
    · have c1 : i < ns.length := by
        have q := of_decide_eq_true c
        rw [List.length_map] at q
        omega
      refine ⟨_, rfl, _, rfl, .inl ⟨_, _, _, .int ns[i], rfl, rfl, hS, at_nat (by rw [List.getElem?_map, List.getElem?_eq_getElem c1]; rfl), ?_⟩⟩
      refine ⟨_, rfl, _, _, rfl, rfl, cpow_lit (by decide) (by decide) (by decide), _, _, rfl, rfl, _, _, rfl, ?_⟩
      refine ⟨_, rfl, _, _, rfl, rfl, cpow_lit (by decide) (by decide) (by decide), .inl ⟨_, _, rfl, rfl, _, _, rfl, rfl, by show (0 : Int) < 10 ^ (37 : Int).toNat + 43; decide, _, rfl, .inl ⟨_, _, rfl, rfl, cmul_of (a := 64) (b := 64) (by decide) (by omega), .inl ⟨_, _, rfl, rfl, ?_⟩⟩⟩⟩
      exact source_end k hi
    · refine ⟨_, rfl, _, _, rfl, rfl, cpow_lit (by decide) (by decide) (by decide), _, _, rfl, rfl, _, _, rfl, ?_⟩
      refine ⟨_, rfl, _, _, rfl, rfl, cpow_lit (by decide) (by decide) (by decide), .inl ⟨_, _, rfl, rfl, _, _, rfl, rfl, by show (0 : Int) < 10 ^ (37 : Int).toNat + 43; decide, _, rfl, .inl ⟨_, _, rfl, rfl, cmul_of (a := 64) (b := 64) (by decide) (by omega), .inl ⟨_, _, rfl, rfl, ?_⟩⟩⟩⟩
      exact source_end k hi
end
end Hr

set_option maxHeartbeats 8000000
namespace Hr
open PySem PySem.Spec PyProof.Rows L2
open Evl (Ex)
section
variable {P : Program} {w : World} {K : PySem.W.Frag} {mg : Str → Option Value} {base : Heap} {Z : Ads}
theorem ok_law_draw (T : Txt P K mg Z) : FnOk P w K mg base CX0 1 Z.f_law_draw Z.d_law_draw ["source", "bound"] spDraw := by
  refine T.F_law_draw.ok sc_law_draw (fun vs H Q E h => ?_) (fun cdv A_ outer s H vs Q E hr h => ?_)
  · obtain ⟨s, k, n, rfl, k0, k1, hs, hn, q⟩ := h
    rfl
  · obtain ⟨s, k, n, rfl, k0, k1, hs, hn, q⟩ := h
    have hu := hr.units
    refine ⟨_, (pss_cons (ps_if (pt_cmpR op_gt (pe_ix (kIxU (K := K) rfl) (pv 0) pe_int (fun _ _ => rfl)) pe_int (nomark _))
      (pss_cons (ps_set (i := 2) sc_law_draw.nd rfl (.inl rfl) (pe_op op_mod (pe_ix (kIxU (K := K) rfl) (pv 0) pe_int (fun _ _ => rfl)) (pv 1)))
    (pss_cons (ps_asg (pe_op op_fdivW (pe_ix (kIxU (K := K) rfl) (pv 0) pe_int (fun _ _ => rfl)) (pv 1)) (pg_sub (pv 0) pe_int set_list))
    (pss_one (ps_ret (pv 2))))) pss_nil)
    (pss_cons (ps_asg (pe_op (kAdd (K := K) rfl) (pe_ix (kIxU (K := K) rfl) (pv 0) pe_int (fun _ _ => rfl)) pe_int) (pg_sub (pv 0) pe_int set_list))
    (pss_cons (ps_set (i := 3) sc_law_draw.nd rfl (.inl rfl) (pe_op op_mod (pe_op op_powW (pe_op (kAdd (K := K) rfl) (pe_ix (kIxU (K := K) rfl) (pv 0) pe_int (fun _ _ => rfl)) (pe_op op_mulU pe_int (pe_ix (kIxU (K := K) rfl) (pv 0) pe_int (fun _ _ => rfl)))) pe_int) (pe_op (kAdd (K := K) rfl) (pe_op op_powW pe_int pe_int) pe_int)))
    (pss_cons (ps_set (i := 3) sc_law_draw.nd rfl (.inl rfl) (pe_op op_mod (pe_op op_powW (pe_op (kAdd (K := K) rfl) (pv 3) (pe_op op_mulU pe_int (pe_ix (kIxU (K := K) rfl) (pv 0) pe_int (fun _ _ => rfl)))) pe_int) (pe_op (kAdd (K := K) rfl) (pe_op op_powW pe_int pe_int) pe_int)))
    (pss_one (ps_ret (pe_op op_mod (pe_op op_fdivW (pv 3) pe_int) (pv 1)))))))), ?_⟩
    obtain ⟨a, b, c, hL, b0, b1, c0, c1⟩ := hs
    have hl : SqL K H s [.int a, .int b, .int c] := SqL.of hL
    refine ⟨_, rfl, .inl ⟨_, _, _, .int a, rfl, rfl, hl, rfl, _, _, rfl, rfl, _, rfl, ite2 (fun d => ?_) (fun d => ?_)⟩⟩
    · have a0 : 0 < a := of_decide_eq_true d
      refine ⟨_, rfl, .inl ⟨_, _, _, .int a, rfl, rfl, hl, rfl, _, rfl, _, _, rfl, rfl, k0, ?_⟩⟩
      refine ⟨_, rfl, .inl ⟨_, _, _, .int a, rfl, rfl, hl, rfl, _, rfl, _, _, rfl, rfl, wide_div k0 (natAbs_lt k0 k1) (by decide) (by decide), ?_⟩⟩
      refine ⟨_, rfl, _, _, _, 0, rfl, rfl, hL, rfl, ?_⟩
      exact ⟨_, rfl, q _ _ (Int.emod_nonneg _ (by omega)) (Int.emod_lt_of_pos _ k0) Kp.src (Src.kp _ _ _ b0 b1 c0 (by omega))⟩
    · refine ⟨_, rfl, .inl ⟨_, _, _, .int c, rfl, rfl, hl, rfl, .inl ⟨_, _, rfl, rfl, ?_⟩⟩⟩
      refine ⟨_, rfl, _, _, _, 2, rfl, rfl, hL, rfl, ?_⟩
      have hl2 : SqL K (upd H s (.lst [.int a, .int b, .int (c + 1)])) s [.int a, .int b, .int (c + 1)] := SqL.of upd_same
      have c2 : (c + 1).natAbs < 2 ^ 64 := by omega
      -- mixed = (source[1] + 15485863 * source[2]) ** 3 % ..
      refine ⟨_, rfl, .inl ⟨_, _, _, .int b, rfl, rfl, hl2, rfl, _, rfl, .inl ⟨_, _, _, .int (c + 1), rfl, rfl, hl2, rfl, .inl ⟨_, _, rfl, rfl, cmul_of (a := 64) (b := 64) (by decide) c2, .inl ⟨_, _, rfl, rfl, _, _, rfl, rfl, cpow_of (n := 201) (by decide) (by decide) (draw_b b0 b1 c0 (by omega)) (by decide) (by decide), ?_⟩⟩⟩⟩⟩
      refine ⟨_, _, rfl, rfl, cpow_lit (by decide) (by decide) (by decide), .inl ⟨_, _, rfl, rfl, _, _, rfl, rfl, by show (0 : Int) < 10 ^ (35 : Int).toNat + 69; decide, ?_⟩⟩
      -- mixed = (mixed + 32452843 * source[2]) ** 3 % ..
      refine ⟨_, rfl, _, rfl, .inl ⟨_, _, _, .int (c + 1), rfl, rfl, hl2, rfl, .inl ⟨_, _, rfl, rfl, cmul_of (a := 64) (b := 64) (by decide) c2, .inl ⟨_, _, rfl, rfl, _, _, rfl, rfl, cpow_of (n := 201) (by decide) (by decide) (draw_m (Int.emod_nonneg _ (by decide)) (Int.emod_lt_of_pos _ (by decide)) c0 (by omega)) (by decide) (by decide), ?_⟩⟩⟩⟩
      refine ⟨_, _, rfl, rfl, cpow_lit (by decide) (by decide) (by decide), .inl ⟨_, _, rfl, rfl, _, _, rfl, rfl, by show (0 : Int) < 10 ^ (32 : Int).toNat + 49; decide, ?_⟩⟩
      refine ⟨_, rfl, _, _, rfl, rfl, wide_div (b := 64) (by decide) (by decide) (by decide) (by decide), _, rfl, _, _, rfl, rfl, k0, ?_⟩
      exact q _ _ (Int.emod_nonneg _ (by omega)) (Int.emod_lt_of_pos _ k0) Kp.src (Src.kp _ _ _ b0 b1 (by omega) (by omega))
end
end Hr

set_option maxHeartbeats 8000000
namespace Hr
open PySem PySem.Spec PyProof.Rows L2
open Evl (Ex)
section
variable {P : Program} {w : World} {K : PySem.W.Frag} {mg : Str → Option Value} {base : Heap} {Z : Ads}
theorem ok_law (T : Txt P K mg Z) : FnOk P w K mg base CX0 7 Z.f_law Z.d_law ["script"] (spLaw K) := by
  have G_law_draw : FnOk P w K mg base CX0 1 Z.f_law_draw Z.d_law_draw ["source", "bound"] spDraw := ok_law_draw T
  have G_law_due : FnOk P w K mg base CX0 2 Z.f_law_due Z.d_law_due ["period", "stops"] (spDue K) := ok_law_due T
  have G_law_is_name : FnOk P w K mg base CX0 1 Z.f_law_is_name Z.d_law_is_name ["text"] spName := ok_law_is_name T
  have G_law_named : FnOk P w K mg base CX0 6 Z.f_law_named Z.d_law_named ["name"] spNamed := ok_law_named T
  have G_law_source : FnOk P w K mg base CX0 1 Z.f_law_source Z.d_law_source ["script", "index"] (spSource K) := ok_law_source T
  have G_law_told : FnOk P w K mg base CX0 6 Z.f_law_told Z.d_law_told ["period", "stops", "way"] (spTold K) := ok_law_told T
  refine T.F_law.ok sc_law (fun vs H Q E h => ?_) (fun cdv A_ outer s H vs Q E hr h => ?_)
  · obtain ⟨a, ns, rfl, hS, hlen, k⟩ := h
    rfl
  · obtain ⟨a, ns, rfl, hS, hlen, k⟩ := h
    have hu := hr.units
    refine ⟨_, (pss_cons (ps_set (i := 1) sc_law.nd rfl (.inl rfl) (pe_lst (pa_cons pe_str (pa_cons pe_str (pa_cons pe_str (pa_cons pe_str (pa_cons pe_str (pa_cons pe_str (pa_cons pe_str (pa_cons pe_str (pa_cons pe_str (pa_cons pe_str (pa_cons pe_str pa_nil)))))))))))))
    (pss_cons (ps_set (i := 1) sc_law.nd rfl (.inl rfl) (pe_op (kAdd (K := K) rfl) (pv 1) (pe_lst (pa_cons pe_str (pa_cons pe_str pa_nil)))))
    (pss_cons (ps_for PassesOwn.never (by rfl) (pi_range1 (by rfl) T.n_range (pa_cons (pe_callB (call_max2 rfl) (by rfl) T.n_max (by decide +kernel) (pa_cons pe_int (pa_cons (pe_callB (call_min2 rfl) (by rfl) T.n_min (by decide +kernel) (pa_cons pe_int (pa_cons (pe_callB (kLen (K := K) rfl) (by rfl) T.n_len PySem.boot_len (pa_cons (pv 0) pa_nil)) pa_nil))) pa_nil))) pa_nil)) (pg_name (i := 2) sc_law.nd rfl (.inl rfl))
      (pss_cons (ps_set (i := 3) sc_law.nd rfl (.inl rfl) (pe_call (G_law_source) (hr.mono (by decide)) (by rfl) T.g_law_source T.F_law_source.kp T.b_law_source .nil pass0 (pa_cons (pv 0) (pa_cons (pv 2) pa_nil))))
    (pss_cons (ps_set (i := 4) sc_law.nd rfl (.inl rfl) (pe_ix (kIxU (K := K) rfl) (pe_lst (pa_cons pe_int (pa_cons pe_int (pa_cons (pe_un un_neg pe_int) (pa_cons (pe_op op_powW pe_int pe_int) (pa_cons (pe_op (kAdd (K := K) rfl) (pe_op op_powW pe_int pe_int) pe_int) (pa_cons (pe_op op_powW pe_int pe_int) (pa_cons pe_int (pa_cons pe_int pa_nil))))))))) (pe_call (G_law_draw) (hr.mono (by decide)) (by rfl) T.g_law_draw T.F_law_draw.kp T.b_law_draw .nil pass0 (pa_cons (pv 3) (pa_cons pe_int pa_nil))) (fun _ _ => rfl)))
    (pss_cons (ps_set (i := 5) sc_law.nd rfl (.inl rfl) (pe_tup (pa_cons (pe_tup (pa_cons pe_int (pa_cons pe_str pa_nil))) (pa_cons (pe_tup (pa_cons (pe_call (G_law_draw) (hr.mono (by decide)) (by rfl) T.g_law_draw T.F_law_draw.kp T.b_law_draw .nil pass0 (pa_cons (pv 3) (pa_cons pe_int pa_nil))) (pa_cons (pe_ix (kIxU (K := K) rfl) (pv 1) (pe_call (G_law_draw) (hr.mono (by decide)) (by rfl) T.g_law_draw T.F_law_draw.kp T.b_law_draw .nil pass0 (pa_cons (pv 3) (pa_cons pe_int pa_nil))) (fun _ _ => rfl)) pa_nil))) pa_nil))))
    (pss_cons (ps_for PassesOwn.never (by rfl) (kSeq (K := K) rfl (pe_tup (pa_cons (pe_tup pa_nil) (pa_cons (pe_slice (kSlU (K := K) rfl) (pv 5) po_none (po_some pe_int)) (pa_cons (pv 5) (pa_cons (pe_slice (kSlU (K := K) rfl) (pv 5) (po_some pe_int) po_none) pa_nil)))))) (pg_name (i := 6) sc_law.nd rfl (.inl rfl))
      (pss_cons (ps_if (pt_cmpR (op_neU (K := K) rfl hu) (pe_call (G_law_told) (hr.mono (by decide)) (by rfl) T.g_law_told T.F_law_told.kp T.b_law_told .nil pass0 (pa_cons (pv 4) (pa_cons (pv 6) (pa_cons pe_int pa_nil)))) (pe_call (G_law_due) (hr.mono (by decide)) (by rfl) T.g_law_due T.F_law_due.kp T.b_law_due .nil pass0 (pa_cons (pv 4) (pa_cons (pv 6) pa_nil))) (nomark _))
      (pss_one (ps_ret pe_bl)) pss_nil)
    (pss_one (ps_if (PW.pt (pw_and (pt_cmpR op_gt (pe_callB (kLen (K := K) rfl) (by rfl) T.n_len PySem.boot_len (pa_cons (pv 6) pa_nil)) pe_int (nomark _)) (pw_and1 (pt_cmpR (op_neU (K := K) rfl hu) (pe_call (G_law_told) (hr.mono (by decide)) (by rfl) T.g_law_told T.F_law_told.kp T.b_law_told .nil pass0 (pa_cons (pv 4) (pa_cons (pv 6) (pa_cons pe_int pa_nil)))) (pe_call (G_law_due) (hr.mono (by decide)) (by rfl) T.g_law_due T.F_law_due.kp T.b_law_due .nil pass0 (pa_cons (pv 4) (pa_cons (pv 6) pa_nil))) (nomark _)))))
      (pss_one (ps_ret pe_bl)) pss_nil))))
    (pss_cons (ps_set (i := 7) sc_law.nd rfl (.inl rfl) (pe_callTy (kTuple (K := K) rfl) (by rfl) T.n_tuple (by decide +kernel) (pa_cons (pe_lc (own := [("number", 13)]) (by rfl) sc_law.nd (pi_range2 (by rfl) T.n_range (pa_cons pe_int (pa_cons (pe_op (kAdd (K := K) rfl) pe_int (pe_call (G_law_draw) (hr.mono (by decide)) (by rfl) T.g_law_draw T.F_law_draw.kp T.b_law_draw .nil pass0 (pa_cons (pv 3) (pa_cons pe_int pa_nil)))) pa_nil))) (blkOk_by (own := [("number", 13)]) (N := ["script", "names", "turn", "source", "period", "stops", "case", "right", "odd", "some", "spot", "length", "name", "number"]) (by first | decide +kernel | kernel_rfl)) (fun _ _ _ _ _ => (pg_name (i := 13) sc_law.nd rfl (by first | exact .inl rfl | exact .inr rfl))) (fun _ _ _ _ _ => pts_nil) (fun _ _ _ _ _ => (pe_tup (pa_cons (pe_op op_mulU pe_int (pv 13)) (pa_cons pe_str pa_nil))))) pa_nil)))
    (pss_cons (ps_set (i := 8) sc_law.nd rfl (.inl rfl) (pe_lst (pa_cons (pe_tup (pa_cons (pe_un un_neg pe_int) (pa_cons pe_str pa_nil))) (pa_cons (pe_tup (pa_cons pe_int (pa_cons pe_str pa_nil))) (pa_cons (pe_tup (pa_cons pe_int (pa_cons pe_str pa_nil))) (pa_cons (pe_tup (pa_cons pe_int (pa_cons pe_str pa_nil))) (pa_cons (pe_tup (pa_cons pe_int (pa_cons pe_str pa_nil))) (pa_cons (pe_tup (pa_cons pe_int (pa_cons pe_str pa_nil))) (pa_cons (pe_tup (pa_cons pe_int (pa_cons pe_str pa_nil))) pa_nil)))))))))
    (pss_cons (ps_set (i := 9) sc_law.nd rfl (.inl rfl) (pe_ix (kIxU (K := K) rfl) (pv 8) (pe_call (G_law_draw) (hr.mono (by decide)) (by rfl) T.g_law_draw T.F_law_draw.kp T.b_law_draw .nil pass0 (pa_cons (pv 3) (pa_cons pe_int pa_nil))) (fun _ _ => rfl)))
    (pss_cons (ps_set (i := 10) sc_law.nd rfl (.inl rfl) (pe_call (G_law_draw) (hr.mono (by decide)) (by rfl) T.g_law_draw T.F_law_draw.kp T.b_law_draw .nil pass0 (pa_cons (pv 3) (pa_cons (pe_op (kAdd (K := K) rfl) (pe_callB (kLen (K := K) rfl) (by rfl) T.n_len PySem.boot_len (pa_cons (pv 7) pa_nil)) pe_int) pa_nil))))
    (pss_cons (ps_for PassesOwn.never (by rfl) (kSeq (K := K) rfl (pe_tup (pa_cons (pv 7) (pa_cons (pe_op (kAdd (K := K) rfl) (pe_op (kAdd (K := K) rfl) (pe_slice (kSlU (K := K) rfl) (pv 7) po_none (po_some (pv 10))) (pe_tup (pa_cons (pv 9) pa_nil))) (pe_slice (kSlU (K := K) rfl) (pv 7) (po_some (pv 10)) po_none)) (pa_cons (pe_op (kAdd (K := K) rfl) (pv 7) (pv 7)) (pa_cons (pe_op (kAdd (K := K) rfl) (pv 7) (pe_tup (pa_cons (pv 9) (pa_cons (pv 9) pa_nil)))) pa_nil)))))) (pg_name (i := 6) sc_law.nd rfl (.inl rfl))
      (pss_one (ps_if (pt_cmpR (op_neU (K := K) rfl hu) (pe_call (G_law_told) (hr.mono (by decide)) (by rfl) T.g_law_told T.F_law_told.kp T.b_law_told .nil pass0 (pa_cons pe_int (pa_cons (pv 6) (pa_cons pe_int pa_nil)))) (pe_call (G_law_due) (hr.mono (by decide)) (by rfl) T.g_law_due T.F_law_due.kp T.b_law_due .nil pass0 (pa_cons pe_int (pa_cons (pv 6) pa_nil))) (nomark _))
      (pss_one (ps_ret pe_bl)) pss_nil)))
    (pss_cons (ps_for PassesOwn.never (by rfl) (kSeq (K := K) rfl (pe_tup (pa_cons pe_int (pa_cons pe_int (pa_cons pe_int (pa_cons pe_int pa_nil)))))) (pg_name (i := 11) sc_law.nd rfl (.inl rfl))
      (pss_cons (ps_set (i := 6) sc_law.nd rfl (.inl rfl) (pe_callTy (kTuple (K := K) rfl) (by rfl) T.n_tuple (by decide +kernel) (pa_cons (pe_lc (own := [("number", 13)]) (by rfl) sc_law.nd (pi_range1 (by rfl) T.n_range (pa_cons (pv 11) pa_nil)) (blkOk_by (own := [("number", 13)]) (N := ["script", "names", "turn", "source", "period", "stops", "case", "right", "odd", "some", "spot", "length", "name", "number"]) (by first | decide +kernel | kernel_rfl)) (fun _ _ _ _ _ => (pg_name (i := 13) sc_law.nd rfl (by first | exact .inl rfl | exact .inr rfl))) (fun _ _ _ _ _ => pts_nil) (fun _ _ _ _ _ => (pe_tup (pa_cons (pv 13) (pa_cons pe_str pa_nil))))) pa_nil)))
    (pss_one (ps_if (pt_cmpR (op_neU (K := K) rfl hu) (pe_call (G_law_told) (hr.mono (by decide)) (by rfl) T.g_law_told T.F_law_told.kp T.b_law_told .nil pass0 (pa_cons pe_int (pa_cons (pv 6) (pa_cons pe_int pa_nil)))) (pe_ifExp (pt_cmpR op_lt (pv 11) pe_int (nomark _)) pe_non pe_int) (nomark _))
      (pss_one (ps_ret pe_bl)) pss_nil))))
    (pss_one (ps_for PassesOwn.never (by rfl) (kSeq (K := K) rfl (pv 1)) (pg_name (i := 12) sc_law.nd rfl (.inl rfl))
      (pss_one (ps_if (pt_cmpR (op_neU (K := K) rfl hu) (pe_call (G_law_named) (hr.mono (by decide)) (by rfl) T.g_law_named T.F_law_named.kp T.b_law_named .nil pass0 (pa_cons (pv 12) pa_nil)) (pe_ifExp (pt_val (pe_call (G_law_is_name) (hr.mono (by decide)) (by rfl) T.g_law_is_name T.F_law_is_name.kp T.b_law_is_name .nil pass0 (pa_cons (pv 12) pa_nil))) pe_non (pe_tup (pa_cons pe_str (pa_cons (pv 12) pa_nil)))) (nomark _))
      (pss_one (ps_ret pe_bl)) pss_nil)))))))))))))))
    (pss_one (ps_ret pe_bl))))), ?_⟩
    have hb : ∀ z : Int, z = (if (if ((ns.map V.int).length : Int) < 4 then ((ns.map V.int).length : Int) else 4) > 1 then (if ((ns.map V.int).length : Int) < 4 then ((ns.map V.int).length : Int) else 4) else 1) → 0 ≤ z ∧ z ≤ 4 := by
      intro z hz
      rw [List.length_map] at hz
      split at hz <;> split at hz <;> omega
    refine hSeq ⟨by show 11 ≤ sizeLine; decide, fun pn0 npn0 => hGN ?_⟩
    dsimp only
    refine hSeq ⟨_, rfl, by show 2 ≤ sizeLine; decide, fun pn1 npn1 => .inr (.inr (.inl ⟨pn0, pn1, _, _, rfl, rfl, by rw [upd_ne (ne_of_none upd_same npn1)]; exact upd_same, upd_same, by show 13 ≤ sizeLine; decide, fun pn npn => hGN ?_⟩))⟩
    dsimp only
    have eN : Ex H (upd (upd (upd H pn0 (.lst [V.str (Str.ofString ""), V.str (Str.ofString "a"), V.str (Str.ofString "z"), V.str (Str.ofString "mill"), V.str (Str.ofString "abcdefghijkl"), V.str (Str.ofString "abcdefghijklm"), V.str (Str.ofString "Mill"), V.str (Str.ofString "mi ll"), V.str (Str.ofString "mill "), V.str (Str.ofString "@mill"), V.str (Str.ofString "m1")])) pn1 (.lst [V.str (Str.ofString "mill\n"), V.str (Str.ofString "a-b")])) pn (.lst ([V.str (Str.ofString ""), V.str (Str.ofString "a"), V.str (Str.ofString "z"), V.str (Str.ofString "mill"), V.str (Str.ofString "abcdefghijkl"), V.str (Str.ofString "abcdefghijklm"), V.str (Str.ofString "Mill"), V.str (Str.ofString "mi ll"), V.str (Str.ofString "mill "), V.str (Str.ofString "@mill"), V.str (Str.ofString "m1")] ++ [V.str (Str.ofString "mill\n"), V.str (Str.ofString "a-b")]))) := ((Ex.new npn0).trans (Ex.new npn1)).trans (Ex.new npn)
    have hN0 : SqL K (upd (upd (upd H pn0 (.lst [V.str (Str.ofString ""), V.str (Str.ofString "a"), V.str (Str.ofString "z"), V.str (Str.ofString "mill"), V.str (Str.ofString "abcdefghijkl"), V.str (Str.ofString "abcdefghijklm"), V.str (Str.ofString "Mill"), V.str (Str.ofString "mi ll"), V.str (Str.ofString "mill "), V.str (Str.ofString "@mill"), V.str (Str.ofString "m1")])) pn1 (.lst [V.str (Str.ofString "mill\n"), V.str (Str.ofString "a-b")])) pn (.lst ([V.str (Str.ofString ""), V.str (Str.ofString "a"), V.str (Str.ofString "z"), V.str (Str.ofString "mill"), V.str (Str.ofString "abcdefghijkl"), V.str (Str.ofString "abcdefghijklm"), V.str (Str.ofString "Mill"), V.str (Str.ofString "mi ll"), V.str (Str.ofString "mill "), V.str (Str.ofString "@mill"), V.str (Str.ofString "m1")] ++ [V.str (Str.ofString "mill\n"), V.str (Str.ofString "a-b")]))) pn (NM.map V.str) := SqL.of upd_same
    revert eN hN0
    generalize (upd (upd (upd H pn0 (.lst [V.str (Str.ofString ""), V.str (Str.ofString "a"), V.str (Str.ofString "z"), V.str (Str.ofString "mill"), V.str (Str.ofString "abcdefghijkl"), V.str (Str.ofString "abcdefghijklm"), V.str (Str.ofString "Mill"), V.str (Str.ofString "mi ll"), V.str (Str.ofString "mill "), V.str (Str.ofString "@mill"), V.str (Str.ofString "m1")])) pn1 (.lst [V.str (Str.ofString "mill\n"), V.str (Str.ofString "a-b")])) pn (.lst ([V.str (Str.ofString ""), V.str (Str.ofString "a"), V.str (Str.ofString "z"), V.str (Str.ofString "mill"), V.str (Str.ofString "abcdefghijkl"), V.str (Str.ofString "abcdefghijklm"), V.str (Str.ofString "Mill"), V.str (Str.ofString "mi ll"), V.str (Str.ofString "mill "), V.str (Str.ofString "@mill"), V.str (Str.ofString "m1")] ++ [V.str (Str.ofString "mill\n"), V.str (Str.ofString "a-b")]))) = HN
    intro eN hN0
    refine hSeq ⟨_, rfl, _, _, rfl, .inl ⟨_, Evl.ex_l eN hS, rfl⟩, _, _, rfl, _, _, rfl, _, rfl, by have := hb _ rfl; omega, by have := hb _ rfl; omega,
      for_range (lo := 0) (fun i σ H1 => ∃ v2 v3 v4 v5 v6 v7 v8 v9 v10 v11 v12 v13, σ = [some (.ref a), some (.ref pn), v2, v3, v4, v5, v6, v7, v8, v9, v10, v11, v12, v13] ∧ Ex HN H1) ⟨_, _, _, _, _, _, _, _, _, _, _, _, rfl, Ex.refl _⟩ ?_ ?_⟩
    rotate_left
    · rintro σ G ⟨v2, v3, v4, v5, v6, v7, v8, v9, v10, v11, v12, v13, rfl, e⟩
      exact k G
    rintro i σ H1 hi ⟨v2, v3, v4, v5, v6, v7, v8, v9, v10, v11, v12, v13, rfl, e⟩
    have hi4 : i < 4 := by
      have := hb _ rfl
      omega
    -- the source
    refine ⟨_, rfl, _, rfl, a, ns, i, (by show [V.ref a, V.int ((0 : Int) + (i : Int))] = _; rw [Int.zero_add]), Evl.ex_l (eN.trans e) hS, by omega, fun s H2 ns2 e2' s2 => ?_⟩
    refine hGN ?_
    dsimp only
    have hN2 : SqL K (msk H2 s) pn (NM.map V.str) := Evl.ex_l (ex_to_msk (e.trans e2') (Evl.fresh_back e ns2)) hN0
    -- period
    refine hSeq ⟨_, rfl, _, _, rfl, rfl, cpow_lit (by decide) (by decide) (by decide), _, _, rfl, rfl, cpow_lit (by decide) (by decide) (by decide), .inl ⟨_, _, rfl, rfl, _, _, rfl, rfl, cpow_lit (by decide) (by decide) (by decide), by show 8 ≤ sizeLine; decide, fun p1 np1 => ?_⟩⟩
    refine ⟨_, rfl, s, 8, 0, rfl, by decide, by decide, s2.ex (Ex.new np1), by decide, fun d H3 d0 d1 k3 s3 => ?_⟩
    obtain ⟨_, hat, period, rfl⟩ := at_all (xs := [V.int 0, V.int 1, V.int (-1), V.int (10 ^ (9 : Int).toNat), V.int (10 ^ (9 : Int).toNat + 1), V.int (10 ^ (30 : Int).toNat), V.int 7, V.int 2]) (Pz := fun v => ∃ i, v = V.int i) d0 d1 (by simp)
    refine .inl ⟨p1, _, d, _, rfl, rfl, SqL.of (k3 p1 _ (s2.ne np1).symm upd_same), hat, hGN ?_⟩
    dsimp only
    have k3' : Kp s H2 H3 := (Kp.of (Ex.new np1)).trans k3
    have hN3 : SqL K (msk H3 s) pn (NM.map V.str) := Evl.ex_l (ex_msk k3') hN2
    -- stops
    refine hSeq ⟨by show 2 ≤ sizeLine; decide, fun q1 nq1 => ?_⟩
    refine ⟨_, rfl, s, 3, 1, rfl, by decide, by decide, s3.ex (Ex.new nq1), by decide, fun t2 H4 t0 t1 k4 s4 => ?_⟩
    have k4' : Kp s H3 H4 := (Kp.of (Ex.new nq1)).trans k4
    refine ⟨_, rfl, _, rfl, s, 13, 2, rfl, by decide, by decide, s4, by decide, fun d3 H5 e0 e1 k5 s5 => ?_⟩
    obtain ⟨_, hat3, nm, rfl, hnm⟩ := at_all (xs := NM.map V.str) (Pz := fun v => ∃ z, v = V.str z ∧ strG z) e0 e1 (fun v hv => by
      obtain ⟨z, hz, rfl⟩ := List.mem_map.mp hv
      exact ⟨z, rfl, nm_ok z hz⟩)
    have hN5 : SqL K (msk H5 s) pn (NM.map V.str) := Evl.ex_l (ex_msk (k4'.trans k5)) hN3
    have hq1 : Dp K (msk H5 s) (.ref q1) (pairD (0, "port")) := dp_kp (dp_new nq1 s3 (.cons (.int 0) (.cons (.str "port") .nil))) (k4.trans k5)
    refine .inl ⟨pn, _, d3, _, rfl, rfl, Evl.ex_l msk_ex hN5, hat3, by show 2 ≤ sizeLine; decide, fun q2 nq2 => ⟨by show 2 ≤ sizeLine; decide, fun q3 nq3 => hGN ?_⟩⟩
    dsimp only
    have hq2 : Dp K (msk (upd H5 q2 (.tup [V.int t2, V.str nm])) s) (.ref q2) (pairD (t2, nm)) := dp_new nq2 s5 (.cons (.int t2) (.cons (.str nm) .nil))
    have s6 := s5.ex (Ex.new (o := .tup [V.int t2, V.str nm]) nq2)
    have hst := dp_new nq3 s6 (.cons (dp_kp hq1 (Kp.of (Ex.new nq2))) (.cons hq2 .nil))
    have e6 : Ex H5 (upd (upd H5 q2 (.tup [V.int t2, V.str nm])) q3 (.tup [V.ref q1, V.ref q2])) := (Ex.new nq2).trans (Ex.new nq3)
    revert hst e6
    generalize (upd (upd H5 q2 (.tup [V.int t2, V.str nm])) q3 (.tup [V.ref q1, V.ref q2])) = H6
    intro hst e6
    have s6 := s5.ex e6
    have k6 : Kp s H2 H6 := ((k3'.trans k4').trans k5).trans (Kp.of e6)
    have hN6 : SqL K (msk H6 s) pn (NM.map V.str) := Evl.ex_l (ex_msk (Kp.of e6)) hN5
    clear hq1 hq2 hN5 hN3 k3' k4' hat hat3
    -- the first cases
    refine hSeq (.inr ?_)
    refine ⟨Nat.zero_le _, fun c0 nc0 => ?_⟩
    have hc0 := dp_new (K := K) nc0 s6 .nil
    have s7 := s6.ex (Ex.new (o := .tup []) nc0)
    refine ⟨_, rfl, _, rfl, sl_take (m := 1) (dp_kp hst (Kp.of (Ex.new nc0))) s7 fun v1 G1 f1 h1 => ?_⟩
    refine ⟨_, rfl, _, rfl, _, rfl, sl_drop (m := 1) (dp_kp hst (Kp.of ((Ex.new nc0).trans f1))) (s7.ex f1) fun v3 G3 f3 h3 => ⟨by show 4 ≤ sizeLine; decide, fun ct nct => ⟨ct, rfl, ⟨_, SqT.of upd_same⟩, ?_⟩⟩⟩
    have hp0 : strG (Str.ofString "port") := good_c (by decide +kernel)
    have hi0 : strG (Str.ofString "inn") := good_c (by decide +kernel)
    have fC : Ex H6 (upd G3 ct (.tup [V.ref c0, v1, V.ref q3, v3])) := (((Ex.new nc0).trans f1).trans f3).trans (Ex.new nct)
    have hall : ∀ x ∈ [V.ref c0, v1, V.ref q3, v3], ∃ ss : List (Int × Str), Dp K (upd G3 ct (.tup [V.ref c0, v1, V.ref q3, v3])) x (.tuple (ss.map pairD)) ∧ ss.length ≤ 2 ∧ ∀ z ∈ ss, strG z.2 := by
      intro x hx
      simp only [List.mem_cons, List.not_mem_nil, or_false] at hx
      rcases hx with rfl | rfl | rfl | rfl
      · exact ⟨[], dp_um (dp_kp hc0 (Kp.of ((f1.trans f3).trans (Ex.new nct)))), by decide, fun z h => by cases h⟩
      · exact ⟨[(0, "port")], dp_um (dp_kp h1 (Kp.of (f3.trans (Ex.new nct)))), by show 1 ≤ 2; decide, fun z h => by rw [List.mem_singleton.mp h]; exact hp0⟩
      · exact ⟨[(0, "port"), (t2, nm)], dp_um (dp_kp hst (Kp.of fC)), by show 2 ≤ 2; decide, fun z h => by
          rcases List.mem_cons.mp h with rfl | h
          · exact hp0
          · rw [List.mem_singleton.mp h]; exact hnm⟩
      · exact ⟨[(t2, nm)], dp_um (dp_kp h3 (Kp.of (Ex.new nct))), by show 1 ≤ 2; decide, fun z h => by rw [List.mem_singleton.mp h]; exact hnm⟩
    have hct : (upd G3 ct (.tup [V.ref c0, v1, V.ref q3, v3])) ct = some (.tup [V.ref c0, v1, V.ref q3, v3]) := upd_same
    revert hall fC hct
    generalize (upd G3 ct (.tup [V.ref c0, v1, V.ref q3, v3])) = HC
    intro fC hall hct
    refine for_tup (fun i' σ G => ∃ v6, σ = [some (.ref a), some (.ref pn), some (.int ((0 : Int) + (i : Int))), some (.ref s), some (.int period), some (.ref q3), v6, v7, v8, v9, v10, v11, v12, v13] ∧ Ex HC G) ⟨_, rfl, Ex.refl _⟩ (fun i' σ G _ p => let ⟨_, _, e⟩ := p; SqT.of (e _ _ hct)) (fun i' x σ G hx p => ?_) (fun σ G p => ?_)
    · obtain ⟨v6', rfl, eG⟩ := p
      obtain ⟨ss, hd, hl, hgd⟩ := hall x (List.mem_of_getElem? hx)
      have hd := hd.ex' eG
      obtain ⟨t', xs', rfl, ht', ha'⟩ := tup_cases hd
      have hxs' : xs'.length = ss.length := by rw [ha'.len, List.length_map]
      refine hGN ?_
      dsimp only
      refine hSeq (hIf (cmp_due (fun G R r => ⟨_, rfl, r⟩) (fun G R r => ⟨_, rfl, r⟩) hd (by omega) hgd (.inl rfl) fun G' e' => iteF (hNext ?_)))
      dsimp only
      refine hIf (hAnd ?_)
      refine ⟨_, rfl, _, _, rfl, .inr ⟨xs', Evl.ex_t e' ht', rfl⟩, _, _, rfl, rfl, _, rfl, ite2 (fun c => ?_) (fun c => ?_)⟩
      · refine cmp_due (fun G R r => ⟨_, rfl, r⟩) (fun G R r => ⟨_, rfl, r⟩) (hd.ex' e') (by omega) hgd (.inr ?_) fun G2 e2 => iteF (hNext ⟨_, rfl, (eG.trans e').trans e2⟩)
        have := of_decide_eq_true c
        omega
      · exact iteF (hNext ⟨_, rfl, eG.trans e'⟩)
    obtain ⟨v6', rfl, eG⟩ := p
    have k7 : Kp s H2 G := k6.trans (Kp.of (fC.trans eG))
    have s7' : Src G s 3 := s6.ex (fC.trans eG)
    have hN7 : SqL K (msk G s) pn (NM.map V.str) := Evl.ex_l (ex_msk (Kp.of (fC.trans eG))) hN6
    clear hall hc0 h1 h3 hst
    -- right
    refine hSeq ⟨_, rfl, s, 9, 3, rfl, by decide, by decide, s7', by decide, fun d9 H8 g0 g1 k8 s8 => .inl ⟨_, _, rfl, rfl, _, _, rfl, ⟨by decide, by decide, by omega, by omega⟩, fun D nD =>
      lcD_range (K := K) (lo := 1) (n := (1 + d9 - 1).toNat) (fun i d => d = pairD (3 * (1 + (i : Int)), "port")) nD (Nat.lt_of_lt_of_le (show (1 + d9 - 1).toNat < 12 by omega) (by decide)) (fun _ => rfl) ?_ ?_⟩⟩
    · intro j G8 R hj x8 hD8 kk
      refine ⟨_, rfl, .inl ⟨_, _, rfl, rfl, cmul_of (a := 64) (b := 64) (by decide) (by omega), by show 2 ≤ sizeLine; decide, fun p np => kk _ _ _ rfl (Ex.new np) ?_⟩⟩
      have hpD : p ≠ D := fun z => hD8 (by rw [← z]; exact np)
      exact .tup (SqT.of (by rw [msk_ne hpD]; exact upd_same)) (.cons (.int _) (.cons (.str _) .nil))
    intro G8 xs8 ds8 x8 hD8 ha8 hl8 hf8
    have hds : ds8 = ((List.range (1 + d9 - 1).toNat).map fun (j : Nat) => ((3 * (1 + (j : Int)), "port") : Int × Str)).map pairD := list_pairs (F := fun (j : Nat) => (3 * (1 + (j : Int)), "port")) hl8 hf8
    subst hds
    refine ⟨D, xs8, rfl, .inl ⟨SqL.of hD8, fun pr npr => hGN ?_⟩⟩
    dsimp only
    obtain ⟨rr, hrr, hrl, hrg⟩ : ∃ rr : List (Int × Str), rr = ((List.range (1 + d9 - 1).toNat).map fun (j : Nat) => ((3 * (1 + (j : Int)), "port") : Int × Str)) ∧ rr.length ≤ 8 ∧ ∀ z ∈ rr, strG z.2 := ⟨_, rfl, by rw [List.length_map, List.length_range]; omega, fun z hz => by
      obtain ⟨j, _, rfl⟩ := List.mem_map.mp hz
      exact hp0⟩
    rw [← hrr] at ha8
    have s8' : Src G8 s 4 := s8.ex x8
    have hright : Dp K (msk (upd G8 pr (.tup xs8)) s) (.ref pr) (.tuple (rr.map pairD)) := dp_new npr s8' (by
      obtain ⟨ys, hys⟩ := s8'.at
      exact dpAll_pair_msk hys (ha8.ex' msk_ex))
    have k9 : Kp s H2 (upd G8 pr (.tup xs8)) := (k7.trans k8).trans (Kp.of (x8.trans (Ex.new npr)))
    have s9 : Src (upd G8 pr (.tup xs8)) s 4 := s8'.ex (Ex.new npr)
    have hN9 : SqL K (msk (upd G8 pr (.tup xs8)) s) pn (NM.map V.str) := Evl.ex_l (ex_msk (k8.trans (Kp.of (x8.trans (Ex.new npr))))) hN7
    revert hright k9 s9 hN9
    generalize (upd G8 pr (.tup xs8)) = H9
    intro hright k9 s9 hN9
    clear ha8 hD8 s8' x8
    -- odd
    refine hSeq ⟨_, rfl, by show 2 ≤ sizeLine; decide, fun r1 nr1 => ?_⟩
    refine ⟨by show 2 ≤ sizeLine; decide, fun r2 nr2 => ?_⟩
    refine ⟨by show 2 ≤ sizeLine; decide, fun r3 nr3 => ?_⟩
    refine ⟨by show 2 ≤ sizeLine; decide, fun r4 nr4 => ?_⟩
    refine ⟨by show 2 ≤ sizeLine; decide, fun r5 nr5 => ?_⟩
    refine ⟨by show 2 ≤ sizeLine; decide, fun r6 nr6 => ?_⟩
    refine ⟨by show 2 ≤ sizeLine; decide, fun r7 nr7 => ?_⟩
    refine ⟨by show 7 ≤ sizeLine; decide, fun po npo => hGN ?_⟩
    dsimp only
    have hodd : ∀ x ∈ [V.ref r1, V.ref r2, V.ref r3, V.ref r4, V.ref r5, V.ref r6, V.ref r7], ∃ z : Int × Str, Dp K (msk (upd (upd (upd (upd (upd (upd (upd (upd H9 r1 (.tup [V.int (-1), V.str (Str.ofString "inn")])) r2 (.tup [V.int 100, V.str (Str.ofString "inn")])) r3 (.tup [V.int 0, V.str (Str.ofString "inn")])) r4 (.tup [V.int 3, V.str (Str.ofString "")])) r5 (.tup [V.int 50, V.str (Str.ofString "abcdefghijklm")])) r6 (.tup [V.int 50, V.str (Str.ofString "In")])) r7 (.tup [V.int 6, V.str (Str.ofString "inn")])) po (.lst [V.ref r1, V.ref r2, V.ref r3, V.ref r4, V.ref r5, V.ref r6, V.ref r7])) s) x (pairD z) ∧ strG z.2 := by
      have y8 : Ex (upd (upd (upd (upd (upd (upd (upd H9 r1 (.tup [V.int (-1), V.str (Str.ofString "inn")])) r2 (.tup [V.int 100, V.str (Str.ofString "inn")])) r3 (.tup [V.int 0, V.str (Str.ofString "inn")])) r4 (.tup [V.int 3, V.str (Str.ofString "")])) r5 (.tup [V.int 50, V.str (Str.ofString "abcdefghijklm")])) r6 (.tup [V.int 50, V.str (Str.ofString "In")])) r7 (.tup [V.int 6, V.str (Str.ofString "inn")])) (upd (upd (upd (upd (upd (upd (upd (upd H9 r1 (.tup [V.int (-1), V.str (Str.ofString "inn")])) r2 (.tup [V.int 100, V.str (Str.ofString "inn")])) r3 (.tup [V.int 0, V.str (Str.ofString "inn")])) r4 (.tup [V.int 3, V.str (Str.ofString "")])) r5 (.tup [V.int 50, V.str (Str.ofString "abcdefghijklm")])) r6 (.tup [V.int 50, V.str (Str.ofString "In")])) r7 (.tup [V.int 6, V.str (Str.ofString "inn")])) po (.lst [V.ref r1, V.ref r2, V.ref r3, V.ref r4, V.ref r5, V.ref r6, V.ref r7])) := Ex.new npo
      have y7 : Ex (upd (upd (upd (upd (upd (upd H9 r1 (.tup [V.int (-1), V.str (Str.ofString "inn")])) r2 (.tup [V.int 100, V.str (Str.ofString "inn")])) r3 (.tup [V.int 0, V.str (Str.ofString "inn")])) r4 (.tup [V.int 3, V.str (Str.ofString "")])) r5 (.tup [V.int 50, V.str (Str.ofString "abcdefghijklm")])) r6 (.tup [V.int 50, V.str (Str.ofString "In")])) (upd (upd (upd (upd (upd (upd (upd (upd H9 r1 (.tup [V.int (-1), V.str (Str.ofString "inn")])) r2 (.tup [V.int 100, V.str (Str.ofString "inn")])) r3 (.tup [V.int 0, V.str (Str.ofString "inn")])) r4 (.tup [V.int 3, V.str (Str.ofString "")])) r5 (.tup [V.int 50, V.str (Str.ofString "abcdefghijklm")])) r6 (.tup [V.int 50, V.str (Str.ofString "In")])) r7 (.tup [V.int 6, V.str (Str.ofString "inn")])) po (.lst [V.ref r1, V.ref r2, V.ref r3, V.ref r4, V.ref r5, V.ref r6, V.ref r7])) := (Ex.new nr7).trans y8
      have y6 : Ex (upd (upd (upd (upd (upd H9 r1 (.tup [V.int (-1), V.str (Str.ofString "inn")])) r2 (.tup [V.int 100, V.str (Str.ofString "inn")])) r3 (.tup [V.int 0, V.str (Str.ofString "inn")])) r4 (.tup [V.int 3, V.str (Str.ofString "")])) r5 (.tup [V.int 50, V.str (Str.ofString "abcdefghijklm")])) (upd (upd (upd (upd (upd (upd (upd (upd H9 r1 (.tup [V.int (-1), V.str (Str.ofString "inn")])) r2 (.tup [V.int 100, V.str (Str.ofString "inn")])) r3 (.tup [V.int 0, V.str (Str.ofString "inn")])) r4 (.tup [V.int 3, V.str (Str.ofString "")])) r5 (.tup [V.int 50, V.str (Str.ofString "abcdefghijklm")])) r6 (.tup [V.int 50, V.str (Str.ofString "In")])) r7 (.tup [V.int 6, V.str (Str.ofString "inn")])) po (.lst [V.ref r1, V.ref r2, V.ref r3, V.ref r4, V.ref r5, V.ref r6, V.ref r7])) := (Ex.new nr6).trans y7
      have y5 : Ex (upd (upd (upd (upd H9 r1 (.tup [V.int (-1), V.str (Str.ofString "inn")])) r2 (.tup [V.int 100, V.str (Str.ofString "inn")])) r3 (.tup [V.int 0, V.str (Str.ofString "inn")])) r4 (.tup [V.int 3, V.str (Str.ofString "")])) (upd (upd (upd (upd (upd (upd (upd (upd H9 r1 (.tup [V.int (-1), V.str (Str.ofString "inn")])) r2 (.tup [V.int 100, V.str (Str.ofString "inn")])) r3 (.tup [V.int 0, V.str (Str.ofString "inn")])) r4 (.tup [V.int 3, V.str (Str.ofString "")])) r5 (.tup [V.int 50, V.str (Str.ofString "abcdefghijklm")])) r6 (.tup [V.int 50, V.str (Str.ofString "In")])) r7 (.tup [V.int 6, V.str (Str.ofString "inn")])) po (.lst [V.ref r1, V.ref r2, V.ref r3, V.ref r4, V.ref r5, V.ref r6, V.ref r7])) := (Ex.new nr5).trans y6
      have y4 : Ex (upd (upd (upd H9 r1 (.tup [V.int (-1), V.str (Str.ofString "inn")])) r2 (.tup [V.int 100, V.str (Str.ofString "inn")])) r3 (.tup [V.int 0, V.str (Str.ofString "inn")])) (upd (upd (upd (upd (upd (upd (upd (upd H9 r1 (.tup [V.int (-1), V.str (Str.ofString "inn")])) r2 (.tup [V.int 100, V.str (Str.ofString "inn")])) r3 (.tup [V.int 0, V.str (Str.ofString "inn")])) r4 (.tup [V.int 3, V.str (Str.ofString "")])) r5 (.tup [V.int 50, V.str (Str.ofString "abcdefghijklm")])) r6 (.tup [V.int 50, V.str (Str.ofString "In")])) r7 (.tup [V.int 6, V.str (Str.ofString "inn")])) po (.lst [V.ref r1, V.ref r2, V.ref r3, V.ref r4, V.ref r5, V.ref r6, V.ref r7])) := (Ex.new nr4).trans y5
      have y3 : Ex (upd (upd H9 r1 (.tup [V.int (-1), V.str (Str.ofString "inn")])) r2 (.tup [V.int 100, V.str (Str.ofString "inn")])) (upd (upd (upd (upd (upd (upd (upd (upd H9 r1 (.tup [V.int (-1), V.str (Str.ofString "inn")])) r2 (.tup [V.int 100, V.str (Str.ofString "inn")])) r3 (.tup [V.int 0, V.str (Str.ofString "inn")])) r4 (.tup [V.int 3, V.str (Str.ofString "")])) r5 (.tup [V.int 50, V.str (Str.ofString "abcdefghijklm")])) r6 (.tup [V.int 50, V.str (Str.ofString "In")])) r7 (.tup [V.int 6, V.str (Str.ofString "inn")])) po (.lst [V.ref r1, V.ref r2, V.ref r3, V.ref r4, V.ref r5, V.ref r6, V.ref r7])) := (Ex.new nr3).trans y4
      have y2 : Ex (upd H9 r1 (.tup [V.int (-1), V.str (Str.ofString "inn")])) (upd (upd (upd (upd (upd (upd (upd (upd H9 r1 (.tup [V.int (-1), V.str (Str.ofString "inn")])) r2 (.tup [V.int 100, V.str (Str.ofString "inn")])) r3 (.tup [V.int 0, V.str (Str.ofString "inn")])) r4 (.tup [V.int 3, V.str (Str.ofString "")])) r5 (.tup [V.int 50, V.str (Str.ofString "abcdefghijklm")])) r6 (.tup [V.int 50, V.str (Str.ofString "In")])) r7 (.tup [V.int 6, V.str (Str.ofString "inn")])) po (.lst [V.ref r1, V.ref r2, V.ref r3, V.ref r4, V.ref r5, V.ref r6, V.ref r7])) := (Ex.new nr2).trans y3
      have y1 : Ex H9 (upd (upd (upd (upd (upd (upd (upd (upd H9 r1 (.tup [V.int (-1), V.str (Str.ofString "inn")])) r2 (.tup [V.int 100, V.str (Str.ofString "inn")])) r3 (.tup [V.int 0, V.str (Str.ofString "inn")])) r4 (.tup [V.int 3, V.str (Str.ofString "")])) r5 (.tup [V.int 50, V.str (Str.ofString "abcdefghijklm")])) r6 (.tup [V.int 50, V.str (Str.ofString "In")])) r7 (.tup [V.int 6, V.str (Str.ofString "inn")])) po (.lst [V.ref r1, V.ref r2, V.ref r3, V.ref r4, V.ref r5, V.ref r6, V.ref r7])) := (Ex.new nr1).trans y2
      have u1 := s9
      have u2 := u1.ex (Ex.new (o := (.tup [V.int (-1), V.str (Str.ofString "inn")])) nr1)
      have u3 := u2.ex (Ex.new (o := (.tup [V.int 100, V.str (Str.ofString "inn")])) nr2)
      have u4 := u3.ex (Ex.new (o := (.tup [V.int 0, V.str (Str.ofString "inn")])) nr3)
      have u5 := u4.ex (Ex.new (o := (.tup [V.int 3, V.str (Str.ofString "")])) nr4)
      have u6 := u5.ex (Ex.new (o := (.tup [V.int 50, V.str (Str.ofString "abcdefghijklm")])) nr5)
      have u7 := u6.ex (Ex.new (o := (.tup [V.int 50, V.str (Str.ofString "In")])) nr6)
      have u8 := u7.ex (Ex.new (o := (.tup [V.int 6, V.str (Str.ofString "inn")])) nr7)
      intro x hx
      simp only [List.mem_cons, List.not_mem_nil, or_false] at hx
      rcases hx with rfl | rfl | rfl | rfl | rfl | rfl | rfl
      · exact ⟨(-1, "inn"), dp_kp (dp_new nr1 u1 (.cons (.int _) (.cons (.str _) .nil))) (Kp.of y2), good_c (by decide +kernel)⟩
      · exact ⟨(100, "inn"), dp_kp (dp_new nr2 u2 (.cons (.int _) (.cons (.str _) .nil))) (Kp.of y3), good_c (by decide +kernel)⟩
      · exact ⟨(0, "inn"), dp_kp (dp_new nr3 u3 (.cons (.int _) (.cons (.str _) .nil))) (Kp.of y4), good_c (by decide +kernel)⟩
      · exact ⟨(3, ""), dp_kp (dp_new nr4 u4 (.cons (.int _) (.cons (.str _) .nil))) (Kp.of y5), good_c (by decide +kernel)⟩
      · exact ⟨(50, "abcdefghijklm"), dp_kp (dp_new nr5 u5 (.cons (.int _) (.cons (.str _) .nil))) (Kp.of y6), good_c (by decide +kernel)⟩
      · exact ⟨(50, "In"), dp_kp (dp_new nr6 u6 (.cons (.int _) (.cons (.str _) .nil))) (Kp.of y7), good_c (by decide +kernel)⟩
      · exact ⟨(6, "inn"), dp_kp (dp_new nr7 u7 (.cons (.int _) (.cons (.str _) .nil))) (Kp.of y8), good_c (by decide +kernel)⟩
    have xodd : Ex H9 (upd (upd (upd (upd (upd (upd (upd (upd H9 r1 (.tup [V.int (-1), V.str (Str.ofString "inn")])) r2 (.tup [V.int 100, V.str (Str.ofString "inn")])) r3 (.tup [V.int 0, V.str (Str.ofString "inn")])) r4 (.tup [V.int 3, V.str (Str.ofString "")])) r5 (.tup [V.int 50, V.str (Str.ofString "abcdefghijklm")])) r6 (.tup [V.int 50, V.str (Str.ofString "In")])) r7 (.tup [V.int 6, V.str (Str.ofString "inn")])) po (.lst [V.ref r1, V.ref r2, V.ref r3, V.ref r4, V.ref r5, V.ref r6, V.ref r7])) := (((((((Ex.new nr1).trans (Ex.new nr2)).trans (Ex.new nr3)).trans (Ex.new nr4)).trans (Ex.new nr5)).trans (Ex.new nr6)).trans (Ex.new nr7)).trans (Ex.new npo)
    have hpo : (upd (upd (upd (upd (upd (upd (upd (upd H9 r1 (.tup [V.int (-1), V.str (Str.ofString "inn")])) r2 (.tup [V.int 100, V.str (Str.ofString "inn")])) r3 (.tup [V.int 0, V.str (Str.ofString "inn")])) r4 (.tup [V.int 3, V.str (Str.ofString "")])) r5 (.tup [V.int 50, V.str (Str.ofString "abcdefghijklm")])) r6 (.tup [V.int 50, V.str (Str.ofString "In")])) r7 (.tup [V.int 6, V.str (Str.ofString "inn")])) po (.lst [V.ref r1, V.ref r2, V.ref r3, V.ref r4, V.ref r5, V.ref r6, V.ref r7])) po = some (.lst [V.ref r1, V.ref r2, V.ref r3, V.ref r4, V.ref r5, V.ref r6, V.ref r7]) := upd_same
    have hpos : s ≠ po := (s9.ex (((((((Ex.new nr1).trans (Ex.new nr2)).trans (Ex.new nr3)).trans (Ex.new nr4)).trans (Ex.new nr5)).trans (Ex.new nr6)).trans (Ex.new nr7))).ne npo
    revert hodd xodd hpo
    generalize (upd (upd (upd (upd (upd (upd (upd (upd H9 r1 (.tup [V.int (-1), V.str (Str.ofString "inn")])) r2 (.tup [V.int 100, V.str (Str.ofString "inn")])) r3 (.tup [V.int 0, V.str (Str.ofString "inn")])) r4 (.tup [V.int 3, V.str (Str.ofString "")])) r5 (.tup [V.int 50, V.str (Str.ofString "abcdefghijklm")])) r6 (.tup [V.int 50, V.str (Str.ofString "In")])) r7 (.tup [V.int 6, V.str (Str.ofString "inn")])) po (.lst [V.ref r1, V.ref r2, V.ref r3, V.ref r4, V.ref r5, V.ref r6, V.ref r7])) = H10
    intro hodd xodd hpo
    have s10 := s9.ex xodd
    have hright := dp_kp hright (Kp.of xodd)
    -- some, spot
    refine hSeq ⟨_, rfl, _, rfl, s, 7, 4, rfl, by decide, by decide, s10, by decide, fun d7 H11 b0 b1 k11 s11 => ?_⟩
    obtain ⟨_, hat7, z, hz, hzg⟩ := at_all (xs := [V.ref r1, V.ref r2, V.ref r3, V.ref r4, V.ref r5, V.ref r6, V.ref r7]) (Pz := fun v => ∃ z : Int × Str, Dp K (msk H10 s) v (pairD z) ∧ strG z.2) b0 b1 hodd
    obtain ⟨pz, rfl, _⟩ := pair_cases hz
    refine .inl ⟨po, _, d7, _, rfl, rfl, SqL.of (k11 po _ hpos.symm hpo), hat7, hGN ?_⟩
    dsimp only
    have hz := dp_kp hz k11
    have hright := dp_kp hright k11
    obtain ⟨pr', xr, epr, htr, har⟩ := tup_cases (dp_um hright)
    cases epr
    have hxr : xr.length = rr.length := by rw [har.len, List.length_map]
    refine hSeq ⟨_, rfl, _, rfl, _, _, rfl, .inr ⟨xr, htr, rfl⟩, .inl ⟨_, _, rfl, rfl, s, _, 5, rfl, by omega, Int.lt_trans (show _ < (100 : Int) by omega) (by decide), s11, by decide, fun spot H12 z0 z1 k12 s12 => hGN ?_⟩⟩
    dsimp only
    obtain ⟨sp, rfl⟩ : ∃ sp : Nat, spot = (sp : Int) := ⟨spot.toNat, (Int.toNat_of_nonneg z0).symm⟩
    have hz := dp_kp hz k12
    have hright := dp_kp hright k12
    have k12' : Kp s H2 H12 := ((k9.trans (Kp.of xodd)).trans k11).trans k12
    have hN12 : SqL K (msk H12 s) pn (NM.map V.str) := Evl.ex_l (ex_msk (((Kp.of xodd).trans k11).trans k12)) hN9
    clear hodd hat7 htr har
    -- the cases with a wrong one
    refine hSeq (.inr ?_)
    refine ⟨_, rfl, _, rfl, _, rfl, _, rfl, sl_take (m := sp) hright s12 fun w1 G1 f1 h1 => ?_⟩
    refine ⟨_, rfl, by show 1 ≤ sizeLine; decide, fun m1 nm1 => ?_⟩
    have u1 := s12.ex f1
    have hm1 := dp_new nm1 u1 (.cons (dp_kp hz (Kp.of f1)) .nil)
    have u2 := u1.ex (Ex.new (o := .tup [V.ref pz]) nm1)
    refine cat_reads (dp_kp h1 (Kp.of (Ex.new nm1))) hm1 u2 (by rw [List.length_take, List.length_map]; show _ + 1 ≤ _; omega) fun w2 G2 f2 h2 => ?_
    have u3 := u2.ex f2
    refine ⟨_, rfl, _, rfl, _, rfl, sl_drop (m := sp) (dp_kp hright (Kp.of ((f1.trans (Ex.new nm1)).trans f2))) u3 fun w3 G3' f3' h3 => ?_⟩
    have u4 := u3.ex f3'
    refine cat_reads (dp_kp h2 (Kp.of f3')) h3 u4 (by simp only [List.length_append, List.length_take, List.length_drop, List.length_map, List.length_cons, List.length_nil]; omega) fun w4 G4 f4 h4 => ?_
    have u5 := u4.ex f4
    have fA : Ex H12 G4 := (((f1.trans (Ex.new nm1)).trans f2).trans f3').trans f4
    have hrA := dp_kp hright (Kp.of fA)
    refine ⟨_, rfl, _, rfl, cat_reads hrA hrA u5 (by simp only [List.length_map]; omega) fun w5 G5 f5 h5 => ?_⟩
    have u6 := u5.ex f5
    refine ⟨_, rfl, _, rfl, _, rfl, by show 2 ≤ sizeLine; decide, fun m2 nm2 => ?_⟩
    have hm2 := dp_new nm2 u6 (.cons (dp_kp hz (Kp.of (fA.trans f5))) (.cons (dp_kp hz (Kp.of (fA.trans f5))) .nil))
    have u7 := u6.ex (Ex.new (o := .tup [V.ref pz, V.ref pz]) nm2)
    refine cat_reads (dp_kp hrA (Kp.of (f5.trans (Ex.new nm2)))) hm2 u7 (by simp only [List.length_map, List.length_cons, List.length_nil]; omega) fun w6 G6 f6 h6 => ⟨by show 4 ≤ sizeLine; decide, fun cu ncu => ⟨cu, rfl, ⟨_, SqT.of upd_same⟩, ?_⟩⟩
    have fB : Ex G4 (upd G6 cu (.tup [V.ref pr, w4, w5, w6])) := ((f5.trans (Ex.new nm2)).trans f6).trans (Ex.new ncu)
    have fD : Ex H12 (upd G6 cu (.tup [V.ref pr, w4, w5, w6])) := fA.trans fB
    have hall : ∀ x ∈ [V.ref pr, w4, w5, w6], ∃ ss : List (Int × Str), Dp K (upd G6 cu (.tup [V.ref pr, w4, w5, w6])) x (.tuple (ss.map pairD)) ∧ ss.length ≤ 1000 ∧ ∀ z ∈ ss, strG z.2 := by
      intro x hx
      simp only [List.mem_cons, List.not_mem_nil, or_false] at hx
      rcases hx with rfl | rfl | rfl | rfl
      · exact ⟨rr, dp_um (dp_kp hright (Kp.of fD)), by omega, hrg⟩
      · refine ⟨(rr.take sp ++ [z]) ++ rr.drop sp, ?_, by simp only [List.length_append, List.length_take, List.length_drop, List.length_cons, List.length_nil]; omega, fun y hy => ?_⟩
        · rw [List.map_append, List.map_append, List.map_take, List.map_drop]
          exact dp_um (dp_kp h4 (Kp.of fB))
        · rcases List.mem_append.mp hy with hy | hy
          · rcases List.mem_append.mp hy with hy | hy
            · exact hrg y (List.mem_of_mem_take hy)
            · rw [List.mem_singleton.mp hy]; exact hzg
          · exact hrg y (List.mem_of_mem_drop hy)
      · refine ⟨rr ++ rr, ?_, by rw [List.length_append]; omega, fun y hy => ?_⟩
        · rw [List.map_append]
          exact dp_um (dp_kp h5 (Kp.of (((Ex.new nm2).trans f6).trans (Ex.new ncu))))
        · rcases List.mem_append.mp hy with hy | hy <;> exact hrg y hy
      · refine ⟨rr ++ [z, z], ?_, by rw [List.length_append]; show _ + 2 ≤ _; omega, fun y hy => ?_⟩
        · rw [List.map_append]
          exact dp_um (dp_kp h6 (Kp.of (Ex.new ncu)))
        · rcases List.mem_append.mp hy with hy | hy
          · exact hrg y hy
          · simp only [List.mem_cons, List.not_mem_nil, or_false] at hy
            rcases hy with rfl | rfl <;> exact hzg
    have hcu : (upd G6 cu (.tup [V.ref pr, w4, w5, w6])) cu = some (.tup [V.ref pr, w4, w5, w6]) := upd_same
    revert hall fD hcu
    generalize (upd G6 cu (.tup [V.ref pr, w4, w5, w6])) = HD
    intro fD hall hcu
    refine for_tup (fun i' σ G => ∃ v6, σ = [some (.ref a), some (.ref pn), some (.int ((0 : Int) + (i : Int))), some (.ref s), some (.int period), some (.ref q3), v6, some (.ref pr), some (.ref po), some (.ref pz), some (.int (sp : Int)), v11, v12, v13] ∧ Ex HD G) ⟨_, rfl, Ex.refl _⟩ (fun i' σ G _ p => let ⟨_, _, e⟩ := p; SqT.of (e _ _ hcu)) (fun i' x σ G hx p => ?_) (fun σ G p => ?_)
    · obtain ⟨v6', rfl, eG⟩ := p
      obtain ⟨ss, hd, hl, hgd⟩ := hall x (List.mem_of_getElem? hx)
      refine hGN ?_
      dsimp only
      exact hIf (cmp_due (fun G R r => hC r) (fun G R r => ⟨_, rfl, r⟩) (hd.ex' eG) hl hgd (.inl rfl) fun G' e' => iteF (hNext ⟨_, rfl, eG.trans e'⟩))
    obtain ⟨v6'', rfl, eG2⟩ := p
    clear hall h1 h2 h3 h4 h5 h6 hm1 hm2 hrA
    -- the lengths
    dsimp only
    refine hSeq (.inr ?_)
    refine ⟨by show 4 ≤ sizeLine; decide, fun cl ncl => ⟨cl, rfl, ⟨_, SqT.of upd_same⟩, ?_⟩⟩
    refine for_tup (fun i' σ G' => ∃ v6 v11, σ = [some (.ref a), some (.ref pn), some (.int ((0 : Int) + (i : Int))), some (.ref s), some (.int period), some (.ref q3), v6, some (.ref pr), some (.ref po), some (.ref pz), some (.int (sp : Int)), v11, v12, v13] ∧ Ex (upd G cl (.tup [V.int 7, V.int 8, V.int 9, V.int 10])) G') ⟨_, _, rfl, Ex.refl _⟩ (fun i' σ G' _ p => let ⟨_, _, _, e⟩ := p; SqT.of (e _ _ upd_same)) (fun i' x σ G' hx p => ?_) (fun σ G' p => ?_)
    · obtain ⟨v6', v11', rfl, eG⟩ := p
      obtain ⟨n, rfl, hn10, hn7⟩ : ∃ n : Nat, x = V.int (n : Int) ∧ n ≤ 10 ∧ due 99 ((List.range n).map fun (j : Nat) => ((0 + (j : Int), "inn") : Int × Str)) = (if n < 9 then V.non else V.int 8) := by
        have hm := List.mem_of_getElem? hx
        simp only [List.mem_cons, List.not_mem_nil, or_false] at hm
        rcases hm with rfl | rfl | rfl | rfl
        · exact ⟨7, rfl, by decide, by decide +kernel⟩
        · exact ⟨8, rfl, by decide, by decide +kernel⟩
        · exact ⟨9, rfl, by decide, by decide +kernel⟩
        · exact ⟨10, rfl, by decide, by decide +kernel⟩
      refine hGN ?_
      dsimp only
      refine hSeq ⟨_, rfl, _, rfl, by omega, by omega, fun D nD =>
        lcD_range (K := K) (lo := 0) (n := ((n : Int)).toNat) (fun i d => d = pairD (0 + (i : Int), "inn")) nD (Nat.lt_of_lt_of_le (show ((n : Int)).toNat < 12 by omega) (by decide)) (fun _ => rfl) ?_ ?_⟩
      · intro j G8 R hj x8 hD8 kk
        refine ⟨_, rfl, by show 2 ≤ sizeLine; decide, fun p np => kk _ _ _ rfl (Ex.new np) ?_⟩
        have hpD : p ≠ D := fun z => hD8 (by rw [← z]; exact np)
        exact .tup (SqT.of (by rw [msk_ne hpD]; exact upd_same)) (.cons (.int _) (.cons (.str _) .nil))
      intro G8 xs8 ds8 x8 hD8 ha8 hl8 hf8
      have hds : ds8 = ((List.range ((n : Int)).toNat).map fun (j : Nat) => ((0 + (j : Int), "inn") : Int × Str)).map pairD := list_pairs (F := fun (j : Nat) => (0 + (j : Int), "inn")) hl8 hf8
      subst hds
      rw [Int.toNat_natCast] at ha8
      refine ⟨D, xs8, rfl, .inl ⟨SqL.of hD8, fun pr' npr => hGN ?_⟩⟩
      dsimp only
      have hv : Dp K (upd G8 pr' (.tup xs8)) (.ref pr') (.tuple (((List.range n).map fun (j : Nat) => ((0 + (j : Int), "inn") : Int × Str)).map pairD)) := .tup (SqT.of upd_same) ((ha8.ex' msk_ex).ex' (Ex.new npr))
      refine hIf (hTest (hOp (hCall (hCons (hC (hCons (hVar rfl (hCons (hC (hNil ?_))))))))))
      refine ⟨99, _, 0, _, rfl, hv, by rw [List.length_map, List.length_range]; omega, fun z hz => by
        obtain ⟨j, _, rfl⟩ := List.mem_map.mp hz
        exact hi0, .inl rfl, fun H1 e1 => ?_⟩
      rw [hn7]
      refine ⟨_, rfl, _, _, rfl, rfl, _, rfl, ite2 (fun c => ?_) (fun c => ?_)⟩
      · have c' := of_decide_eq_true c
        rw [if_pos (by omega)]
        refine .inl ⟨rfl, _, rfl, ?_⟩
        rw [decide_eq_true rfl]
        exact iteF (hNext ⟨_, _, rfl, eG.trans (x8.trans ((Ex.new npr).trans e1))⟩)
      · have c' : ¬ (n < 9) := fun z => c (decide_eq_true (by omega))
        rw [if_neg c']
        refine .inl ⟨rfl, _, rfl, ?_⟩
        rw [decide_eq_true rfl]
        exact iteF (hNext ⟨_, _, rfl, eG.trans (x8.trans ((Ex.new npr).trans e1))⟩)
    obtain ⟨v6', v11', rfl, eG3⟩ := p
    -- the names
    dsimp only
    have hN13 : SqL K (msk G' s) pn (NM.map V.str) := Evl.ex_l (ex_msk (Kp.of (((fD.trans eG2).trans (Ex.new ncl)).trans eG3))) hN12
    have hNG := Evl.ex_l msk_ex hN13
    refine .inl ⟨_, rfl, pn, rfl, ⟨_, hNG⟩, ?_⟩
    refine for_list (xs := NM.map V.str) (fun i' σ G2 => ∃ v6 v11 v12, σ = [some (.ref a), some (.ref pn), some (.int ((0 : Int) + (i : Int))), some (.ref s), some (.int period), some (.ref q3), v6, some (.ref pr), some (.ref po), some (.ref pz), some (.int (sp : Int)), v11, v12, v13] ∧ Ex G' G2) ⟨_, _, _, rfl, Ex.refl _⟩ (fun i' σ G2 _ p => let ⟨_, _, _, _, e⟩ := p; Evl.ex_l e hNG) (fun i' x σ G2 hx p => ?_) (fun σ G2 p => ?_)
    · obtain ⟨v6'', v11'', v12'', rfl, eG⟩ := p
      obtain ⟨y, hy, rfl⟩ := List.mem_map.mp (List.mem_of_getElem? hx)
      have hyg := nm_ok y hy
      refine hGN ?_
      dsimp only
      refine hIf (hTest (hOp (hCall (hCons (hVar rfl (hNil ?_))))))
      refine ⟨y, rfl, hyg, fun ok H1 e1 => ?_, fun nok pe H1 npe e1 hpe => ?_⟩
      · refine ⟨_, rfl, y, rfl, hyg, fun H2' e2 => ⟨_, rfl, ?_⟩⟩
        rw [ok]
        refine iteT (.inl ⟨rfl, _, rfl, ?_⟩)
        rw [decide_eq_true rfl]
        exact iteF (hNext ⟨_, _, _, rfl, eG.trans (e1.trans e2)⟩)
      · refine ⟨_, rfl, y, rfl, hyg, fun H2' e2 => ⟨_, rfl, ?_⟩⟩
        rw [nok]
        refine iteF ⟨_, rfl, by show 2 ≤ sizeLine; decide, fun pf npf => ?_⟩
        refine .inr ⟨.tuple [.str "name", .str y], .tuple [.str "name", .str y], .tup (SqT.of ((e2.trans (Ex.new npf)) _ _ hpe)) (.cons (.str _) (.cons (.str _) .nil)), .tup (SqT.of upd_same) (.cons (.str _) (.cons (.str _) .nil)), shaped_pair hyg.2, shaped_pair hyg.2, _, rfl, ?_⟩
        rw [PySem.SeqAt.eqv_refl_plain _ rfl]
        exact iteF (hNext ⟨_, _, _, rfl, eG.trans (e1.trans (e2.trans (Ex.new npf)))⟩)
    obtain ⟨v6'', v11'', v12'', rfl, eG4⟩ := p
    refine ⟨_, _, _, _, _, _, _, _, _, _, _, _, rfl, fun b o hb => ?_⟩
    have hbs : b ≠ s := ne_of_none (e _ _ hb) ns2
    exact eG4 _ _ (eG3 _ _ (Ex.new ncl _ _ (eG2 _ _ (fD _ _ (k12' _ _ hbs (e2' _ _ (e _ _ hb)))))))

end
end Hr

set_option maxHeartbeats 8000000
namespace Hr
open PySem PySem.Spec PyProof.Rows L2
open Evl (Ex)

theorem cls_of {K : PySem.W.Frag} {nm q : Str} {C N : Addr} {bs bm : List Value} {sn : List Str} {sub : List Value} {ab : Bool} {col : Option Bool} {dd : Option Addr} {k0 k1 k2 k3 k5 : Option Value} {nw : String} (h : K.lookup C = some (excClassObj nm q C N bs bm true sn sub ab col dd k0 k1 k2 k3 k5 nw)) : ∃ cd, PySem.W.clsIn K C = some cd := by
  unfold PySem.W.clsIn
  rw [h]
  exact ⟨_, rfl⟩
theorem nof0 {K : PySem.W.Frag} {C : Addr} : ∀ g ∈ ([] : List Str), PySem.W.findIn K (.ref C) g = some none := fun _ h => by cases h
theorem nof1 {K : PySem.W.Frag} {C : Addr} {f : Str} (h : PySem.W.findIn K (.ref C) f = some none) : ∀ g ∈ [f], PySem.W.findIn K (.ref C) g = some none := fun g hg => by
  rw [List.mem_singleton.mp hg]
  exact h
theorem txt_mk {P : Program} {K : PySem.W.Frag} {h : Heap} {mg : Str → Option Value} (X : K.In h) (G : h.Ns mainGlobals mg)
    {f_law_source : Addr} {od_law_source an_law_source : Option Addr} {sl_law_source : Array (Option Value)} {oc_law_source kV_law_source dc_law_source pm_law_source cd_law_source ct_law_source : Value}
    {f_law_draw : Addr} {od_law_draw an_law_draw : Option Addr} {sl_law_draw : Array (Option Value)} {oc_law_draw kV_law_draw dc_law_draw pm_law_draw cd_law_draw ct_law_draw : Value}
    {f_is_name : Addr} {od_is_name an_is_name : Option Addr} {sl_is_name : Array (Option Value)} {oc_is_name kV_is_name dc_is_name pm_is_name cd_is_name ct_is_name : Value}
    {f_law_word : Addr} {od_law_word an_law_word : Option Addr} {sl_law_word : Array (Option Value)} {oc_law_word kV_law_word dc_law_word pm_law_word cd_law_word ct_law_word : Value}
    {f_law_told : Addr} {od_law_told an_law_told : Option Addr} {sl_law_told : Array (Option Value)} {oc_law_told kV_law_told dc_law_told pm_law_told cd_law_told ct_law_told : Value}
    {f_law_named : Addr} {od_law_named an_law_named : Option Addr} {sl_law_named : Array (Option Value)} {oc_law_named kV_law_named dc_law_named pm_law_named cd_law_named ct_law_named : Value}
    {f_law_is_name : Addr} {od_law_is_name an_law_is_name : Option Addr} {sl_law_is_name : Array (Option Value)} {oc_law_is_name kV_law_is_name dc_law_is_name pm_law_is_name cd_law_is_name ct_law_is_name : Value}
    {f_law_due : Addr} {od_law_due an_law_due : Option Addr} {sl_law_due : Array (Option Value)} {oc_law_due kV_law_due dc_law_due pm_law_due cd_law_due ct_law_due : Value}
    {f_law : Addr} {od_law an_law : Option Addr} {sl_law : Array (Option Value)} {oc_law kV_law dc_law pm_law cd_law ct_law : Value}
    {c_RoundError : Addr}
    {c_BadName : Addr}
    {c_BadRound : Addr}
    {c_BadStop : Addr}
    {c_BadNet : Addr}
    {c_UnknownNode : Addr}
    {c_Round : Addr}
    {c_Courier : Addr}
    {t_MOST_LETTERS : Tok}
    {t_LONGEST_PERIOD : Tok}
    {f_Round_init : Addr} {od_Round_init an_Round_init : Option Addr} {sl_Round_init : Array (Option Value)} {oc_Round_init kV_Round_init dc_Round_init pm_Round_init cd_Round_init ct_Round_init : Value}
    {f_Round_of : Addr} {od_Round_of an_Round_of : Option Addr} {sl_Round_of : Array (Option Value)} {oc_Round_of kV_Round_of dc_Round_of pm_Round_of cd_Round_of ct_Round_of : Value}
    {r_Round_of : Addr} {rs_Round_of : List Value} {t_MOST : Tok}
    {f_Courier_init : Addr} {od_Courier_init an_Courier_init : Option Addr} {sl_Courier_init : Array (Option Value)} {oc_Courier_init kV_Courier_init dc_Courier_init pm_Courier_init cd_Courier_init ct_Courier_init : Value}
    {f_BadName_init cc_BadName_init cda_BadName_init N_BadName : Addr} {od_BadName_init an_BadName_init cdd_BadName_init cld_BadName_init dd_BadName : Option Addr} {sl_BadName_init ccs_BadName_init csl_BadName_init : Array (Option Value)} {vs_BadName_init : Array Value} {tf_BadName_init : Tok} {file_BadName_init nm_BadName q_BadName : Str} {bs_BadName sub_BadName : List Value} {sn_BadName : List Str} {ab_BadName : Bool} {col_BadName : Option Bool} {m0_BadName m1_BadName m2_BadName m3_BadName m5_BadName : Option Value} {oc_BadName_init kV_BadName_init dc_BadName_init pm_BadName_init ct_BadName_init ccl_BadName_init cl_BadName_init : Value}
    {f_BadRound_init cc_BadRound_init cda_BadRound_init N_BadRound : Addr} {od_BadRound_init an_BadRound_init cdd_BadRound_init cld_BadRound_init dd_BadRound : Option Addr} {sl_BadRound_init ccs_BadRound_init csl_BadRound_init : Array (Option Value)} {vs_BadRound_init : Array Value} {tf_BadRound_init : Tok} {file_BadRound_init nm_BadRound q_BadRound : Str} {bs_BadRound sub_BadRound : List Value} {sn_BadRound : List Str} {ab_BadRound : Bool} {col_BadRound : Option Bool} {m0_BadRound m1_BadRound m2_BadRound m3_BadRound m5_BadRound : Option Value} {oc_BadRound_init kV_BadRound_init dc_BadRound_init pm_BadRound_init ct_BadRound_init ccl_BadRound_init cl_BadRound_init : Value}
    {f_BadStop_init cc_BadStop_init cda_BadStop_init N_BadStop : Addr} {od_BadStop_init an_BadStop_init cdd_BadStop_init cld_BadStop_init dd_BadStop : Option Addr} {sl_BadStop_init ccs_BadStop_init csl_BadStop_init : Array (Option Value)} {vs_BadStop_init : Array Value} {tf_BadStop_init : Tok} {file_BadStop_init nm_BadStop q_BadStop : Str} {bs_BadStop sub_BadStop : List Value} {sn_BadStop : List Str} {ab_BadStop : Bool} {col_BadStop : Option Bool} {m0_BadStop m1_BadStop m2_BadStop m3_BadStop m5_BadStop : Option Value} {oc_BadStop_init kV_BadStop_init dc_BadStop_init pm_BadStop_init ct_BadStop_init ccl_BadStop_init cl_BadStop_init : Value}
    (g_law_source : PySem.W.nsIn K mainGlobals "_law_source" = some (some (.ref f_law_source)))
    (l_law_source : K.lookup f_law_source = some ⟨oc_law_source, od_law_source, .func (PySem.W.fnOf "_law_source" "_law_source" (defArgs s_law_source) (defBody s_law_source) (defScope s_law_source) .none kV_law_source dc_law_source pm_law_source an_law_source cd_law_source ct_law_source), sl_law_source⟩)
    (cd__law_source : PySem.W.codeIn K cd_law_source "_law_source" = true)
    (kp_law_source : PySem.W.keepIn K (.ref f_law_source) = true)
    (g_law_draw : PySem.W.nsIn K mainGlobals "_law_draw" = some (some (.ref f_law_draw)))
    (l_law_draw : K.lookup f_law_draw = some ⟨oc_law_draw, od_law_draw, .func (PySem.W.fnOf "_law_draw" "_law_draw" (defArgs s_law_draw) (defBody s_law_draw) (defScope s_law_draw) .none kV_law_draw dc_law_draw pm_law_draw an_law_draw cd_law_draw ct_law_draw), sl_law_draw⟩)
    (cd__law_draw : PySem.W.codeIn K cd_law_draw "_law_draw" = true)
    (kp_law_draw : PySem.W.keepIn K (.ref f_law_draw) = true)
    (g_is_name : PySem.W.nsIn K mainGlobals "is_name" = some (some (.ref f_is_name)))
    (l_is_name : K.lookup f_is_name = some ⟨oc_is_name, od_is_name, .func (PySem.W.fnOf "is_name" "is_name" (defArgs s_is_name) (defBody s_is_name) (defScope s_is_name) .none kV_is_name dc_is_name pm_is_name an_is_name cd_is_name ct_is_name), sl_is_name⟩)
    (cd__is_name : PySem.W.codeIn K cd_is_name "is_name" = true)
    (kp_is_name : PySem.W.keepIn K (.ref f_is_name) = true)
    (g_law_word : PySem.W.nsIn K mainGlobals "_law_word" = some (some (.ref f_law_word)))
    (l_law_word : K.lookup f_law_word = some ⟨oc_law_word, od_law_word, .func (PySem.W.fnOf "_law_word" "_law_word" (defArgs s_law_word) (defBody s_law_word) (defScope s_law_word) .none kV_law_word dc_law_word pm_law_word an_law_word cd_law_word ct_law_word), sl_law_word⟩)
    (cd__law_word : PySem.W.codeIn K cd_law_word "_law_word" = true)
    (kp_law_word : PySem.W.keepIn K (.ref f_law_word) = true)
    (g_law_told : PySem.W.nsIn K mainGlobals "_law_told" = some (some (.ref f_law_told)))
    (l_law_told : K.lookup f_law_told = some ⟨oc_law_told, od_law_told, .func (PySem.W.fnOf "_law_told" "_law_told" (defArgs s_law_told) (defBody s_law_told) (defScope s_law_told) .none kV_law_told dc_law_told pm_law_told an_law_told cd_law_told ct_law_told), sl_law_told⟩)
    (cd__law_told : PySem.W.codeIn K cd_law_told "_law_told" = true)
    (kp_law_told : PySem.W.keepIn K (.ref f_law_told) = true)
    (g_law_named : PySem.W.nsIn K mainGlobals "_law_named" = some (some (.ref f_law_named)))
    (l_law_named : K.lookup f_law_named = some ⟨oc_law_named, od_law_named, .func (PySem.W.fnOf "_law_named" "_law_named" (defArgs s_law_named) (defBody s_law_named) (defScope s_law_named) .none kV_law_named dc_law_named pm_law_named an_law_named cd_law_named ct_law_named), sl_law_named⟩)
    (cd__law_named : PySem.W.codeIn K cd_law_named "_law_named" = true)
    (kp_law_named : PySem.W.keepIn K (.ref f_law_named) = true)
    (g_law_is_name : PySem.W.nsIn K mainGlobals "_law_is_name" = some (some (.ref f_law_is_name)))
    (l_law_is_name : K.lookup f_law_is_name = some ⟨oc_law_is_name, od_law_is_name, .func (PySem.W.fnOf "_law_is_name" "_law_is_name" (defArgs s_law_is_name) (defBody s_law_is_name) (defScope s_law_is_name) .none kV_law_is_name dc_law_is_name pm_law_is_name an_law_is_name cd_law_is_name ct_law_is_name), sl_law_is_name⟩)
    (cd__law_is_name : PySem.W.codeIn K cd_law_is_name "_law_is_name" = true)
    (kp_law_is_name : PySem.W.keepIn K (.ref f_law_is_name) = true)
    (g_law_due : PySem.W.nsIn K mainGlobals "_law_due" = some (some (.ref f_law_due)))
    (l_law_due : K.lookup f_law_due = some ⟨oc_law_due, od_law_due, .func (PySem.W.fnOf "_law_due" "_law_due" (defArgs s_law_due) (defBody s_law_due) (defScope s_law_due) .none kV_law_due dc_law_due pm_law_due an_law_due cd_law_due ct_law_due), sl_law_due⟩)
    (cd__law_due : PySem.W.codeIn K cd_law_due "_law_due" = true)
    (kp_law_due : PySem.W.keepIn K (.ref f_law_due) = true)
    (g_law : PySem.W.nsIn K mainGlobals "law" = some (some (.ref f_law)))
    (l_law : K.lookup f_law = some ⟨oc_law, od_law, .func (PySem.W.fnOf "law" "law" (defArgs s_law) (defBody s_law) (defScope s_law) .none kV_law dc_law pm_law an_law cd_law ct_law), sl_law⟩)
    (cd__law : PySem.W.codeIn K cd_law "law" = true)
    (kp_law : PySem.W.keepIn K (.ref f_law) = true)
    (gc_RoundError : PySem.W.nsIn K mainGlobals "RoundError" = some (some (.ref c_RoundError)))
    (gc_BadName : PySem.W.nsIn K mainGlobals "BadName" = some (some (.ref c_BadName)))
    (gc_BadRound : PySem.W.nsIn K mainGlobals "BadRound" = some (some (.ref c_BadRound)))
    (gc_BadStop : PySem.W.nsIn K mainGlobals "BadStop" = some (some (.ref c_BadStop)))
    (gc_BadNet : PySem.W.nsIn K mainGlobals "BadNet" = some (some (.ref c_BadNet)))
    (gc_UnknownNode : PySem.W.nsIn K mainGlobals "UnknownNode" = some (some (.ref c_UnknownNode)))
    (gc_Round : PySem.W.nsIn K mainGlobals "Round" = some (some (.ref c_Round)))
    (gc_Courier : PySem.W.nsIn K mainGlobals "Courier" = some (some (.ref c_Courier)))
    (gk_MOST_LETTERS : PySem.W.nsIn K mainGlobals "MOST_LETTERS" = some (some (.int 12 t_MOST_LETTERS)))
    (gk_LONGEST_PERIOD : PySem.W.nsIn K mainGlobals "LONGEST_PERIOD" = some (some (.int 1000000000 t_LONGEST_PERIOD)))
    (mk_Round : PySem.W.makesIn K c_Round = true)
    (iC_Round : PySem.W.findIn K (.ref c_Round) "__init__" = some (some (.ref f_Round_init)))
    (fn_Round : PySem.W.isFn K (.ref f_Round_init) = true)
    (kC_Round : PySem.W.keepIn K (.ref c_Round) = true)
    (pg_Round : PySem.W.plainGet K c_Round Str.empty = true)
    (hd_Round : PySem.W.hasDictIn K c_Round = true)
    (po_Round : PySem.W.plainOver K c_Round = true)
    (sa_Round : PySem.W.findIn K (.ref c_Round) "__setattr__" = some (some (.builtin "object.__setattr__")))
    (no_Round_period : PySem.W.findIn K (.ref c_Round) "period" = some none)
    (no_Round_stops : PySem.W.findIn K (.ref c_Round) "stops" = some none)
    (rd_Round : PySem.W.readsIn K c_Round (.type "type") = true)
    (rg_Round : PySem.W.specialIn K (.ref c_Round) "__getattribute__" = some (some (.builtin "type.__getattribute__")))
    (ma_Round : PySem.W.findCls K (.ref c_Round) (.type "type") "of" = some (.get (.builtin "classmethod.__get__") (.ref r_Round_of) .none (.ref c_Round)))
    (mr_Round : PySem.W.recIn K r_Round_of "classmethod" = some (.ref f_Round_of :: rs_Round_of))
    (mf_Round : PySem.W.fnIn K f_Round_of = true)
    (ca_Round : PySem.W.findIn K (.ref c_Round) "MOST_STOPS" = some (some (.int 8 t_MOST)))
    (cg_Round : PySem.W.specialIn K (.int 8 t_MOST) "__get__" = some none)
    (l_Round_init : K.lookup f_Round_init = some ⟨oc_Round_init, od_Round_init, .func (PySem.W.fnOf "__init__" "Round.__init__" (defArgs s_Round_init) (defBody s_Round_init) (defScope s_Round_init) .none kV_Round_init dc_Round_init pm_Round_init an_Round_init cd_Round_init ct_Round_init), sl_Round_init⟩)
    (cd__Round_init : PySem.W.codeIn K cd_Round_init "Round.__init__" = true)
    (kp_Round_init : PySem.W.keepIn K (.ref f_Round_init) = true)
    (l_Round_of : K.lookup f_Round_of = some ⟨oc_Round_of, od_Round_of, .func (PySem.W.fnOf "of" "Round.of" (defArgs s_Round_of) (defBody s_Round_of) (defScope s_Round_of) .none kV_Round_of dc_Round_of pm_Round_of an_Round_of cd_Round_of ct_Round_of), sl_Round_of⟩)
    (cd__Round_of : PySem.W.codeIn K cd_Round_of "Round.of" = true)
    (kp_Round_of : PySem.W.keepIn K (.ref f_Round_of) = true)
    (mk_Courier : PySem.W.makesIn K c_Courier = true)
    (iC_Courier : PySem.W.findIn K (.ref c_Courier) "__init__" = some (some (.ref f_Courier_init)))
    (fn_Courier : PySem.W.isFn K (.ref f_Courier_init) = true)
    (kC_Courier : PySem.W.keepIn K (.ref c_Courier) = true)
    (pg_Courier : PySem.W.plainGet K c_Courier Str.empty = true)
    (hd_Courier : PySem.W.hasDictIn K c_Courier = true)
    (po_Courier : PySem.W.plainOver K c_Courier = true)
    (sa_Courier : PySem.W.findIn K (.ref c_Courier) "__setattr__" = some (some (.builtin "object.__setattr__")))
    (no_Courier_name : PySem.W.findIn K (.ref c_Courier) "name" = some none)
    (no_Courier_way : PySem.W.findIn K (.ref c_Courier) "way" = some none)
    (no_Courier_start : PySem.W.findIn K (.ref c_Courier) "start" = some none)
    (no_Courier_since : PySem.W.findIn K (.ref c_Courier) "since" = some none)
    (l_Courier_init : K.lookup f_Courier_init = some ⟨oc_Courier_init, od_Courier_init, .func (PySem.W.fnOf "__init__" "Courier.__init__" (defArgs s_Courier_init) (defBody s_Courier_init) (defScope s_Courier_init) .none kV_Courier_init dc_Courier_init pm_Courier_init an_Courier_init cd_Courier_init ct_Courier_init), sl_Courier_init⟩)
    (cd__Courier_init : PySem.W.codeIn K cd_Courier_init "Courier.__init__" = true)
    (kp_Courier_init : PySem.W.keepIn K (.ref f_Courier_init) = true)
    (x_BadName : PySem.W.exmOne K (.ref c_BadName) (.ref c_RoundError) = some true)
    (x_BadRound : PySem.W.exmOne K (.ref c_BadRound) (.ref c_RoundError) = some true)
    (x_BadStop : PySem.W.exmOne K (.ref c_BadStop) (.ref c_RoundError) = some true)
    (xL_BadName : K.lookup c_BadName = some (excClassObj nm_BadName q_BadName c_BadName N_BadName bs_BadName [.ref c_RoundError, .type "ValueError", .type "Exception", .type "BaseException", .type "object"] true sn_BadName sub_BadName ab_BadName col_BadName dd_BadName m0_BadName m1_BadName m2_BadName m3_BadName m5_BadName "ValueError.__new__"))
    (sa_BadName : PySem.W.findIn K (.ref c_BadName) "__setattr__" = some (some (.builtin "object.__setattr__")))
    (eC_BadName : PySem.W.subIn K (.ref c_BadName) (.type "BaseException") = some true)
    (tC_BadName : PySem.W.typeIn K (.ref c_BadName) = some (.type "type"))
    (kC_BadName : PySem.W.keepIn K (.ref c_BadName) = true)
    (iC_BadName : PySem.W.findIn K (.ref c_BadName) "__init__" = some (some (.ref f_BadName_init)))
    (tI_BadName : PySem.W.typeIn K (.ref f_BadName_init) = some (.type "function"))
    (l_BadName_init : K.lookup f_BadName_init = some ⟨oc_BadName_init, od_BadName_init, .func (PySem.W.ksFn "__init__" "BadName.__init__" (defArgs s_BadName_init) (defBody s_BadName_init) (defScope s_BadName_init) .none kV_BadName_init dc_BadName_init pm_BadName_init an_BadName_init (.ref cda_BadName_init) ct_BadName_init cc_BadName_init), sl_BadName_init⟩)
    (cd__BadName_init : PySem.W.codeIn K (.ref cda_BadName_init) "BadName.__init__" = true)
    (co_BadName_init : K.lookup cda_BadName_init = some ⟨ccl_BadName_init, cdd_BadName_init, .fields vs_BadName_init, ccs_BadName_init⟩)
    (fi_BadName_init : vs_BadName_init[2]? = some (.str file_BadName_init tf_BadName_init))
    (fe_BadName_init : ((P.main.file : Str) == file_BadName_init) = true)
    (ce_BadName_init : K.lookup cc_BadName_init = some ⟨cl_BadName_init, cld_BadName_init, .cell (some (.ref c_BadName)), csl_BadName_init⟩)
    (mr_BadName : PySem.W.mroIn K c_BadName (.ref c_BadName) = some true)
    (in_BadName : PySem.W.ks_superIn K c_BadName c_BadName "__init__" = some (some (.builtin "ValueError.__init__")))
    (sb_BadName : PySem.W.subIn K (.ref c_BadName) (.type "ValueError") = some true)
    (ga_BadName : PySem.W.findIn K (.ref c_BadName) "__getattribute__" = some (some (.builtin "BaseException.__getattribute__")))
    (gg_BadName : PySem.W.findIn K (.ref c_BadName) "__getattr__" = some none)
    (hd_BadName : PySem.W.hasDictIn K c_BadName = true)
    (ha_BadName : PySem.W.findIn K (.ref c_BadName) "__class__" = some (some (.builtin "object.__class__")))
    (hm_BadName : PySem.W.mroIn K c_BadName (.type "object") = some true)
    (no_BadName : PySem.W.findIn K (.ref c_BadName) "name" = some none)
    (xL_BadRound : K.lookup c_BadRound = some (excClassObj nm_BadRound q_BadRound c_BadRound N_BadRound bs_BadRound [.ref c_RoundError, .type "ValueError", .type "Exception", .type "BaseException", .type "object"] true sn_BadRound sub_BadRound ab_BadRound col_BadRound dd_BadRound m0_BadRound m1_BadRound m2_BadRound m3_BadRound m5_BadRound "ValueError.__new__"))
    (sa_BadRound : PySem.W.findIn K (.ref c_BadRound) "__setattr__" = some (some (.builtin "object.__setattr__")))
    (eC_BadRound : PySem.W.subIn K (.ref c_BadRound) (.type "BaseException") = some true)
    (tC_BadRound : PySem.W.typeIn K (.ref c_BadRound) = some (.type "type"))
    (kC_BadRound : PySem.W.keepIn K (.ref c_BadRound) = true)
    (iC_BadRound : PySem.W.findIn K (.ref c_BadRound) "__init__" = some (some (.ref f_BadRound_init)))
    (tI_BadRound : PySem.W.typeIn K (.ref f_BadRound_init) = some (.type "function"))
    (l_BadRound_init : K.lookup f_BadRound_init = some ⟨oc_BadRound_init, od_BadRound_init, .func (PySem.W.ksFn "__init__" "BadRound.__init__" (defArgs s_BadRound_init) (defBody s_BadRound_init) (defScope s_BadRound_init) .none kV_BadRound_init dc_BadRound_init pm_BadRound_init an_BadRound_init (.ref cda_BadRound_init) ct_BadRound_init cc_BadRound_init), sl_BadRound_init⟩)
    (cd__BadRound_init : PySem.W.codeIn K (.ref cda_BadRound_init) "BadRound.__init__" = true)
    (co_BadRound_init : K.lookup cda_BadRound_init = some ⟨ccl_BadRound_init, cdd_BadRound_init, .fields vs_BadRound_init, ccs_BadRound_init⟩)
    (fi_BadRound_init : vs_BadRound_init[2]? = some (.str file_BadRound_init tf_BadRound_init))
    (fe_BadRound_init : ((P.main.file : Str) == file_BadRound_init) = true)
    (ce_BadRound_init : K.lookup cc_BadRound_init = some ⟨cl_BadRound_init, cld_BadRound_init, .cell (some (.ref c_BadRound)), csl_BadRound_init⟩)
    (mr_BadRound : PySem.W.mroIn K c_BadRound (.ref c_BadRound) = some true)
    (in_BadRound : PySem.W.ks_superIn K c_BadRound c_BadRound "__init__" = some (some (.builtin "ValueError.__init__")))
    (sb_BadRound : PySem.W.subIn K (.ref c_BadRound) (.type "ValueError") = some true)
    (ga_BadRound : PySem.W.findIn K (.ref c_BadRound) "__getattribute__" = some (some (.builtin "BaseException.__getattribute__")))
    (gg_BadRound : PySem.W.findIn K (.ref c_BadRound) "__getattr__" = some none)
    (hd_BadRound : PySem.W.hasDictIn K c_BadRound = true)
    (ha_BadRound : PySem.W.findIn K (.ref c_BadRound) "__class__" = some (some (.builtin "object.__class__")))
    (hm_BadRound : PySem.W.mroIn K c_BadRound (.type "object") = some true)
    (no_BadRound : PySem.W.findIn K (.ref c_BadRound) "part" = some none)
    (xL_BadStop : K.lookup c_BadStop = some (excClassObj nm_BadStop q_BadStop c_BadStop N_BadStop bs_BadStop [.ref c_RoundError, .type "ValueError", .type "Exception", .type "BaseException", .type "object"] true sn_BadStop sub_BadStop ab_BadStop col_BadStop dd_BadStop m0_BadStop m1_BadStop m2_BadStop m3_BadStop m5_BadStop "ValueError.__new__"))
    (sa_BadStop : PySem.W.findIn K (.ref c_BadStop) "__setattr__" = some (some (.builtin "object.__setattr__")))
    (eC_BadStop : PySem.W.subIn K (.ref c_BadStop) (.type "BaseException") = some true)
    (tC_BadStop : PySem.W.typeIn K (.ref c_BadStop) = some (.type "type"))
    (kC_BadStop : PySem.W.keepIn K (.ref c_BadStop) = true)
    (iC_BadStop : PySem.W.findIn K (.ref c_BadStop) "__init__" = some (some (.ref f_BadStop_init)))
    (tI_BadStop : PySem.W.typeIn K (.ref f_BadStop_init) = some (.type "function"))
    (l_BadStop_init : K.lookup f_BadStop_init = some ⟨oc_BadStop_init, od_BadStop_init, .func (PySem.W.ksFn "__init__" "BadStop.__init__" (defArgs s_BadStop_init) (defBody s_BadStop_init) (defScope s_BadStop_init) .none kV_BadStop_init dc_BadStop_init pm_BadStop_init an_BadStop_init (.ref cda_BadStop_init) ct_BadStop_init cc_BadStop_init), sl_BadStop_init⟩)
    (cd__BadStop_init : PySem.W.codeIn K (.ref cda_BadStop_init) "BadStop.__init__" = true)
    (co_BadStop_init : K.lookup cda_BadStop_init = some ⟨ccl_BadStop_init, cdd_BadStop_init, .fields vs_BadStop_init, ccs_BadStop_init⟩)
    (fi_BadStop_init : vs_BadStop_init[2]? = some (.str file_BadStop_init tf_BadStop_init))
    (fe_BadStop_init : ((P.main.file : Str) == file_BadStop_init) = true)
    (ce_BadStop_init : K.lookup cc_BadStop_init = some ⟨cl_BadStop_init, cld_BadStop_init, .cell (some (.ref c_BadStop)), csl_BadStop_init⟩)
    (mr_BadStop : PySem.W.mroIn K c_BadStop (.ref c_BadStop) = some true)
    (in_BadStop : PySem.W.ks_superIn K c_BadStop c_BadStop "__init__" = some (some (.builtin "ValueError.__init__")))
    (sb_BadStop : PySem.W.subIn K (.ref c_BadStop) (.type "ValueError") = some true)
    (ga_BadStop : PySem.W.findIn K (.ref c_BadStop) "__getattribute__" = some (some (.builtin "BaseException.__getattribute__")))
    (gg_BadStop : PySem.W.findIn K (.ref c_BadStop) "__getattr__" = some none)
    (hd_BadStop : PySem.W.hasDictIn K c_BadStop = true)
    (ha_BadStop : PySem.W.findIn K (.ref c_BadStop) "__class__" = some (some (.builtin "object.__class__")))
    (hm_BadStop : PySem.W.mroIn K c_BadStop (.type "object") = some true)
    (no_BadStop : PySem.W.findIn K (.ref c_BadStop) "index" = some none)
    (tp : (P.main.scope.names.lookup ("super" : Str)).isSome = false)
    (oq : PySem.W.nsIn K cStatics "thirdparty.any" = some none)
    (hn : PySem.W.specialIn K (.builtin "object.__class__") "__get__" = some (some (.builtin "getset_descriptor.__get__")))
    (ht : PySem.W.takesIn K (.builtin "object.__class__") = some true)
    (z_all : PySem.W.nsIn K mainGlobals "all" = some none)
    (z_enumerate : PySem.W.nsIn K mainGlobals "enumerate" = some none)
    (z_isinstance : PySem.W.nsIn K mainGlobals "isinstance" = some none)
    (z_len : PySem.W.nsIn K mainGlobals "len" = some none)
    (z_max : PySem.W.nsIn K mainGlobals "max" = some none)
    (z_min : PySem.W.nsIn K mainGlobals "min" = some none)
    (z_range : PySem.W.nsIn K mainGlobals "range" = some none)
    (z_super : PySem.W.nsIn K mainGlobals "super" = some none)
    (z_tuple : PySem.W.nsIn K mainGlobals "tuple" = some none)
    (x_w_BadRound_BadRound : PySem.W.kitOne K (.ref c_BadRound) (.ref c_BadRound) = some true)
    (x_w_BadRound_BadStop : PySem.W.kitOne K (.ref c_BadRound) (.ref c_BadStop) = some false)
    (x_w_BadRound_BadName : PySem.W.kitOne K (.ref c_BadRound) (.ref c_BadName) = some false)
    (x_v_BadRound : PySem.W.kitAny K (.ref c_BadRound) [.ref c_BadName, .ref c_BadNet, .ref c_BadStop, .ref c_UnknownNode] = some false)
    (x_w_BadStop_BadRound : PySem.W.kitOne K (.ref c_BadStop) (.ref c_BadRound) = some false)
    (x_w_BadStop_BadStop : PySem.W.kitOne K (.ref c_BadStop) (.ref c_BadStop) = some true)
    (x_w_BadStop_BadName : PySem.W.kitOne K (.ref c_BadStop) (.ref c_BadName) = some false)
    (x_v_BadStop : PySem.W.kitAny K (.ref c_BadStop) [.ref c_BadName, .ref c_BadNet, .ref c_BadRound, .ref c_UnknownNode] = some false)
    (x_w_BadName_BadRound : PySem.W.kitOne K (.ref c_BadName) (.ref c_BadRound) = some false)
    (x_w_BadName_BadStop : PySem.W.kitOne K (.ref c_BadName) (.ref c_BadStop) = some false)
    (x_w_BadName_BadName : PySem.W.kitOne K (.ref c_BadName) (.ref c_BadName) = some true)
    (x_v_BadName : PySem.W.kitAny K (.ref c_BadName) [.ref c_BadNet, .ref c_BadRound, .ref c_BadStop, .ref c_UnknownNode] = some false)
    : Txt P K mg { f_law_source := f_law_source, d_law_source := PySem.W.fnOf "_law_source" "_law_source" (defArgs s_law_source) (defBody s_law_source) (defScope s_law_source) .none kV_law_source dc_law_source pm_law_source an_law_source cd_law_source ct_law_source, f_law_draw := f_law_draw, d_law_draw := PySem.W.fnOf "_law_draw" "_law_draw" (defArgs s_law_draw) (defBody s_law_draw) (defScope s_law_draw) .none kV_law_draw dc_law_draw pm_law_draw an_law_draw cd_law_draw ct_law_draw, f_is_name := f_is_name, d_is_name := PySem.W.fnOf "is_name" "is_name" (defArgs s_is_name) (defBody s_is_name) (defScope s_is_name) .none kV_is_name dc_is_name pm_is_name an_is_name cd_is_name ct_is_name, f_law_word := f_law_word, d_law_word := PySem.W.fnOf "_law_word" "_law_word" (defArgs s_law_word) (defBody s_law_word) (defScope s_law_word) .none kV_law_word dc_law_word pm_law_word an_law_word cd_law_word ct_law_word, f_law_told := f_law_told, d_law_told := PySem.W.fnOf "_law_told" "_law_told" (defArgs s_law_told) (defBody s_law_told) (defScope s_law_told) .none kV_law_told dc_law_told pm_law_told an_law_told cd_law_told ct_law_told, f_law_named := f_law_named, d_law_named := PySem.W.fnOf "_law_named" "_law_named" (defArgs s_law_named) (defBody s_law_named) (defScope s_law_named) .none kV_law_named dc_law_named pm_law_named an_law_named cd_law_named ct_law_named, f_law_is_name := f_law_is_name, d_law_is_name := PySem.W.fnOf "_law_is_name" "_law_is_name" (defArgs s_law_is_name) (defBody s_law_is_name) (defScope s_law_is_name) .none kV_law_is_name dc_law_is_name pm_law_is_name an_law_is_name cd_law_is_name ct_law_is_name, f_law_due := f_law_due, d_law_due := PySem.W.fnOf "_law_due" "_law_due" (defArgs s_law_due) (defBody s_law_due) (defScope s_law_due) .none kV_law_due dc_law_due pm_law_due an_law_due cd_law_due ct_law_due, f_law := f_law, d_law := PySem.W.fnOf "law" "law" (defArgs s_law) (defBody s_law) (defScope s_law) .none kV_law dc_law pm_law an_law cd_law ct_law, c_RoundError := c_RoundError, c_BadName := c_BadName, c_BadRound := c_BadRound, c_BadStop := c_BadStop, c_BadNet := c_BadNet, c_UnknownNode := c_UnknownNode, c_Round := c_Round, c_Courier := c_Courier, t_MOST_LETTERS := t_MOST_LETTERS, t_LONGEST_PERIOD := t_LONGEST_PERIOD, r_Round_of := r_Round_of, f_Round_init := f_Round_init, d_Round_init := PySem.W.fnOf "__init__" "Round.__init__" (defArgs s_Round_init) (defBody s_Round_init) (defScope s_Round_init) .none kV_Round_init dc_Round_init pm_Round_init an_Round_init cd_Round_init ct_Round_init, f_Round_of := f_Round_of, d_Round_of := PySem.W.fnOf "of" "Round.of" (defArgs s_Round_of) (defBody s_Round_of) (defScope s_Round_of) .none kV_Round_of dc_Round_of pm_Round_of an_Round_of cd_Round_of ct_Round_of, f_Courier_init := f_Courier_init, d_Courier_init := PySem.W.fnOf "__init__" "Courier.__init__" (defArgs s_Courier_init) (defBody s_Courier_init) (defScope s_Courier_init) .none kV_Courier_init dc_Courier_init pm_Courier_init an_Courier_init cd_Courier_init ct_Courier_init, f_BadName_init := f_BadName_init, d_BadName_init := PySem.W.ksFn "__init__" "BadName.__init__" (defArgs s_BadName_init) (defBody s_BadName_init) (defScope s_BadName_init) .none kV_BadName_init dc_BadName_init pm_BadName_init an_BadName_init (.ref cda_BadName_init) ct_BadName_init cc_BadName_init, cc_BadName_init := cc_BadName_init, cda_BadName_init := cda_BadName_init, f_BadRound_init := f_BadRound_init, d_BadRound_init := PySem.W.ksFn "__init__" "BadRound.__init__" (defArgs s_BadRound_init) (defBody s_BadRound_init) (defScope s_BadRound_init) .none kV_BadRound_init dc_BadRound_init pm_BadRound_init an_BadRound_init (.ref cda_BadRound_init) ct_BadRound_init cc_BadRound_init, cc_BadRound_init := cc_BadRound_init, cda_BadRound_init := cda_BadRound_init, f_BadStop_init := f_BadStop_init, d_BadStop_init := PySem.W.ksFn "__init__" "BadStop.__init__" (defArgs s_BadStop_init) (defBody s_BadStop_init) (defScope s_BadStop_init) .none kV_BadStop_init dc_BadStop_init pm_BadStop_init an_BadStop_init (.ref cda_BadStop_init) ct_BadStop_init cc_BadStop_init, cc_BadStop_init := cc_BadStop_init, cda_BadStop_init := cda_BadStop_init } :=
  { F_law_source := fun_mk l_law_source cd__law_source kp_law_source,
    g_law_source := PySem.W.mg_of X G g_law_source,
    b_law_source := (fun_mk (st := s_law_source) l_law_source cd__law_source kp_law_source).binds (ps := ["script", "index"]) fun _ _ _ _ _ _ us hl => match us, hl with | [_, _], _ => rfl,
    F_law_draw := fun_mk l_law_draw cd__law_draw kp_law_draw,
    g_law_draw := PySem.W.mg_of X G g_law_draw,
    b_law_draw := (fun_mk (st := s_law_draw) l_law_draw cd__law_draw kp_law_draw).binds (ps := ["source", "bound"]) fun _ _ _ _ _ _ us hl => match us, hl with | [_, _], _ => rfl,
    F_is_name := fun_mk l_is_name cd__is_name kp_is_name,
    g_is_name := PySem.W.mg_of X G g_is_name,
    b_is_name := (fun_mk (st := s_is_name) l_is_name cd__is_name kp_is_name).binds (ps := ["text"]) fun _ _ _ _ _ _ us hl => match us, hl with | [_], _ => rfl,
    F_law_word := fun_mk l_law_word cd__law_word kp_law_word,
    g_law_word := PySem.W.mg_of X G g_law_word,
    b_law_word := (fun_mk (st := s_law_word) l_law_word cd__law_word kp_law_word).binds (ps := ["e"]) fun _ _ _ _ _ _ us hl => match us, hl with | [_], _ => rfl,
    F_law_told := fun_mk l_law_told cd__law_told kp_law_told,
    g_law_told := PySem.W.mg_of X G g_law_told,
    b_law_told := (fun_mk (st := s_law_told) l_law_told cd__law_told kp_law_told).binds (ps := ["period", "stops", "way"]) fun _ _ _ _ _ _ us hl => match us, hl with | [_, _, _], _ => rfl,
    F_law_named := fun_mk l_law_named cd__law_named kp_law_named,
    g_law_named := PySem.W.mg_of X G g_law_named,
    b_law_named := (fun_mk (st := s_law_named) l_law_named cd__law_named kp_law_named).binds (ps := ["name"]) fun _ _ _ _ _ _ us hl => match us, hl with | [_], _ => rfl,
    F_law_is_name := fun_mk l_law_is_name cd__law_is_name kp_law_is_name,
    g_law_is_name := PySem.W.mg_of X G g_law_is_name,
    b_law_is_name := (fun_mk (st := s_law_is_name) l_law_is_name cd__law_is_name kp_law_is_name).binds (ps := ["text"]) fun _ _ _ _ _ _ us hl => match us, hl with | [_], _ => rfl,
    F_law_due := fun_mk l_law_due cd__law_due kp_law_due,
    g_law_due := PySem.W.mg_of X G g_law_due,
    b_law_due := (fun_mk (st := s_law_due) l_law_due cd__law_due kp_law_due).binds (ps := ["period", "stops"]) fun _ _ _ _ _ _ us hl => match us, hl with | [_, _], _ => rfl,
    F_law := fun_mk l_law cd__law kp_law,
    g_law := PySem.W.mg_of X G g_law,
    b_law := (fun_mk (st := s_law) l_law cd__law kp_law).binds (ps := ["script"]) fun _ _ _ _ _ _ us hl => match us, hl with | [_], _ => rfl,
    g_RoundError := PySem.W.mg_of X G gc_RoundError,
    g_BadName := PySem.W.mg_of X G gc_BadName,
    g_BadRound := PySem.W.mg_of X G gc_BadRound,
    g_BadStop := PySem.W.mg_of X G gc_BadStop,
    g_BadNet := PySem.W.mg_of X G gc_BadNet,
    g_UnknownNode := PySem.W.mg_of X G gc_UnknownNode,
    g_Round := PySem.W.mg_of X G gc_Round,
    g_Courier := PySem.W.mg_of X G gc_Courier,
    g_MOST_LETTERS := PySem.W.mg_of X G gk_MOST_LETTERS,
    g_LONGEST_PERIOD := PySem.W.mg_of X G gk_LONGEST_PERIOD,
    M_Round := ⟨mk_Round, iC_Round, fn_Round, kC_Round⟩,
    C_Round := ⟨pg_Round, hd_Round, po_Round, sa_Round⟩,
    no_Round_period := no_Round_period,
    no_Round_stops := no_Round_stops,
    R_Round := ⟨rd_Round, rg_Round⟩,
    m_Round_of := ⟨ma_Round, ⟨_, mr_Round⟩, mf_Round⟩,
    k_MOST := ⟨_, ca_Round, ⟨_, rfl⟩, cg_Round, by decide⟩,
    F_Round_init := fun_mk l_Round_init cd__Round_init kp_Round_init,
    F_Round_of := fun_mk l_Round_of cd__Round_of kp_Round_of,
    b_Round_of := (fun_mk (st := s_Round_of) l_Round_of cd__Round_of kp_Round_of).binds (ps := ["cls", "period", "stops"]) fun _ _ _ _ _ _ us hl => match us, hl with | [_, _, _], _ => rfl,
    M_Courier := ⟨mk_Courier, iC_Courier, fn_Courier, kC_Courier⟩,
    C_Courier := ⟨pg_Courier, hd_Courier, po_Courier, sa_Courier⟩,
    no_Courier_name := no_Courier_name,
    no_Courier_way := no_Courier_way,
    no_Courier_start := no_Courier_start,
    no_Courier_since := no_Courier_since,
    F_Courier_init := fun_mk l_Courier_init cd__Courier_init kp_Courier_init,
    b_Courier_init := (fun_mk (st := s_Courier_init) l_Courier_init cd__Courier_init kp_Courier_init).binds (ps := ["self", "name", "way", "start", "since"]) fun _ _ _ _ _ _ us hl => match us, hl with | [_, _, _, _, _], _ => rfl,
    x_BadName := x_BadName,
    x_BadRound := x_BadRound,
    x_BadStop := x_BadStop,
    E_BadName := ⟨⟨{ cls := ⟨_, _, _, _, _, _, _, _, _, _, _, _, _, _, _, xL_BadName, rfl⟩, sa := sa_BadName, exC := eC_BadName, tyC := tC_BadName, kC := kC_BadName }, ⟨_, _, _, _, l_BadName_init, _, rfl, rfl⟩, ⟨_, _, _, _, _, _, co_BadName_init, fi_BadName_init, fe_BadName_init⟩,
        ⟨_, _, _, ce_BadName_init⟩, cls_of xL_BadName, mr_BadName, PySem.W.mg_none_of X G z_super, tp, oq, in_BadName, sb_BadName⟩,
      ⟨ga_BadName, gg_BadName, eC_BadName, hd_BadName, ha_BadName, hn, ht, hm_BadName⟩, PySem.W.mg_of X G gc_BadName, iC_BadName, tI_BadName, ⟨_, _, _, _, _, _, _, _, rfl, l_BadName_init, cd__BadName_init⟩, nof1 no_BadName⟩,
    b_BadName_init := .all fun us hl => match us, hl with | [_, _], _ => rfl,
    E_BadRound := ⟨⟨{ cls := ⟨_, _, _, _, _, _, _, _, _, _, _, _, _, _, _, xL_BadRound, rfl⟩, sa := sa_BadRound, exC := eC_BadRound, tyC := tC_BadRound, kC := kC_BadRound }, ⟨_, _, _, _, l_BadRound_init, _, rfl, rfl⟩, ⟨_, _, _, _, _, _, co_BadRound_init, fi_BadRound_init, fe_BadRound_init⟩,
        ⟨_, _, _, ce_BadRound_init⟩, cls_of xL_BadRound, mr_BadRound, PySem.W.mg_none_of X G z_super, tp, oq, in_BadRound, sb_BadRound⟩,
      ⟨ga_BadRound, gg_BadRound, eC_BadRound, hd_BadRound, ha_BadRound, hn, ht, hm_BadRound⟩, PySem.W.mg_of X G gc_BadRound, iC_BadRound, tI_BadRound, ⟨_, _, _, _, _, _, _, _, rfl, l_BadRound_init, cd__BadRound_init⟩, nof1 no_BadRound⟩,
    b_BadRound_init := .all fun us hl => match us, hl with | [_, _], _ => rfl,
    E_BadStop := ⟨⟨{ cls := ⟨_, _, _, _, _, _, _, _, _, _, _, _, _, _, _, xL_BadStop, rfl⟩, sa := sa_BadStop, exC := eC_BadStop, tyC := tC_BadStop, kC := kC_BadStop }, ⟨_, _, _, _, l_BadStop_init, _, rfl, rfl⟩, ⟨_, _, _, _, _, _, co_BadStop_init, fi_BadStop_init, fe_BadStop_init⟩,
        ⟨_, _, _, ce_BadStop_init⟩, cls_of xL_BadStop, mr_BadStop, PySem.W.mg_none_of X G z_super, tp, oq, in_BadStop, sb_BadStop⟩,
      ⟨ga_BadStop, gg_BadStop, eC_BadStop, hd_BadStop, ha_BadStop, hn, ht, hm_BadStop⟩, PySem.W.mg_of X G gc_BadStop, iC_BadStop, tI_BadStop, ⟨_, _, _, _, _, _, _, _, rfl, l_BadStop_init, cd__BadStop_init⟩, nof1 no_BadStop⟩,
    b_BadStop_init := .all fun us hl => match us, hl with | [_, _], _ => rfl,
    n_all := PySem.W.mg_none_of X G z_all,
    n_enumerate := PySem.W.mg_none_of X G z_enumerate,
    n_isinstance := PySem.W.mg_none_of X G z_isinstance,
    n_len := PySem.W.mg_none_of X G z_len,
    n_max := PySem.W.mg_none_of X G z_max,
    n_min := PySem.W.mg_none_of X G z_min,
    n_range := PySem.W.mg_none_of X G z_range,
    n_super := PySem.W.mg_none_of X G z_super,
    n_tuple := PySem.W.mg_none_of X G z_tuple,
    w_BadRound_BadRound := x_w_BadRound_BadRound,
    w_BadRound_BadStop := x_w_BadRound_BadStop,
    w_BadRound_BadName := x_w_BadRound_BadName,
    v_BadRound := x_v_BadRound,
    w_BadStop_BadRound := x_w_BadStop_BadRound,
    w_BadStop_BadStop := x_w_BadStop_BadStop,
    w_BadStop_BadName := x_w_BadStop_BadName,
    v_BadStop := x_v_BadStop,
    w_BadName_BadRound := x_w_BadName_BadRound,
    w_BadName_BadStop := x_w_BadName_BadStop,
    w_BadName_BadName := x_w_BadName_BadName,
    v_BadName := x_v_BadName }
theorem walk {l : PySem.W.OpenLaw} {q : Program} {loose : List Str} {XP : (Str → Option Value) → Heap → Prop} {YP : World → Heap → Prop} {d : DefRec} {K : Params → PySem.W.Frag} (hn : l.most = some 63) (hdf : d.params.defaults = []) (hd : d.name = "law")
    (hY : ∀ (w : World) (h : Heap), YP w h → (K w.params).In h)
    (F : ∀ (w : World) (mg : Str → Option Value) (h : Heap), (K w.params).In h → h.Ns mainGlobals mg → ∃ Z : Ads, Txt l.prog (K w.params) mg Z) :
    PySem.W.WalkO q loose XP YP l.row.toRowW d [] (fun f vs => PySem.call f vs) := by
  refine L2.walk_of (n := 63) (k := 7) (x := "script") (CX := fun _ => CX0) (sp := fun w => spLaw (K w.params)) hn (by decide) hdf ⟨rfl, by decide, by decide⟩ hY (fun w mg fa h KX G hfa => ?_) (fun _ _ a ns hl _ hS => ⟨a, ns, rfl, hS, hl, fun _ => rfl⟩) fun _ _ _ _ _ z => z
  obtain ⟨Z, T⟩ := F w mg h KX G
  rw [hd] at hfa
  have e := hfa.symm.trans T.g_law
  cases e
  exact ⟨Z.d_law, fun s v => (by obtain ⟨oc, od, kV, doc, pm, an, cdv, ct, osl, e, _⟩ := T.F_law.ex; rw [e]; exact .of_eq rfl), fun base _ _ => ok_law T⟩
end Hr
open PySem PySem.W PyProof.Rows in
set_option maxRecDepth 100000 in
set_option maxHeartbeats 0 in
theorem PySem.Challenge.cw_handrounds_k03_invalid_rounds_holds : PySem.Challenge.rw_handrounds_k03_invalid_rounds.Holds := by
  w_on; o_law; k_head; (case hw => w_witness2)
  k_fill
  refine Hr.walk (l := PySem.Challenge.rw_handrounds_k03_invalid_rounds) rfl rfl rfl (fun w h Y => PySem.W.kIn_of Y) ?F
  case F =>
    intro w mg h KX G
    refine' ⟨_, Hr.txt_mk KX G ?g_law_source ?l_law_source ?cd__law_source ?kp_law_source ?g_law_draw ?l_law_draw ?cd__law_draw ?kp_law_draw ?g_is_name ?l_is_name ?cd__is_name ?kp_is_name ?g_law_word ?l_law_word ?cd__law_word ?kp_law_word ?g_law_told ?l_law_told ?cd__law_told ?kp_law_told ?g_law_named ?l_law_named ?cd__law_named ?kp_law_named ?g_law_is_name ?l_law_is_name ?cd__law_is_name ?kp_law_is_name ?g_law_due ?l_law_due ?cd__law_due ?kp_law_due ?g_law ?l_law ?cd__law ?kp_law ?gc_RoundError ?gc_BadName ?gc_BadRound ?gc_BadStop ?gc_BadNet ?gc_UnknownNode ?gc_Round ?gc_Courier ?gk_MOST_LETTERS ?gk_LONGEST_PERIOD ?mk_Round ?iC_Round ?fn_Round ?kC_Round ?pg_Round ?hd_Round ?po_Round ?sa_Round ?no_Round_period ?no_Round_stops ?rd_Round ?rg_Round ?ma_Round ?mr_Round ?mf_Round ?ca_Round ?cg_Round ?l_Round_init ?cd__Round_init ?kp_Round_init ?l_Round_of ?cd__Round_of ?kp_Round_of ?mk_Courier ?iC_Courier ?fn_Courier ?kC_Courier ?pg_Courier ?hd_Courier ?po_Courier ?sa_Courier ?no_Courier_name ?no_Courier_way ?no_Courier_start ?no_Courier_since ?l_Courier_init ?cd__Courier_init ?kp_Courier_init ?x_BadName ?x_BadRound ?x_BadStop ?xL_BadName ?sa_BadName ?eC_BadName ?tC_BadName ?kC_BadName ?iC_BadName ?tI_BadName ?l_BadName_init ?cd__BadName_init ?co_BadName_init ?fi_BadName_init ?fe_BadName_init ?ce_BadName_init ?mr_BadName ?in_BadName ?sb_BadName ?ga_BadName ?gg_BadName ?hd_BadName ?ha_BadName ?hm_BadName ?no_BadName ?xL_BadRound ?sa_BadRound ?eC_BadRound ?tC_BadRound ?kC_BadRound ?iC_BadRound ?tI_BadRound ?l_BadRound_init ?cd__BadRound_init ?co_BadRound_init ?fi_BadRound_init ?fe_BadRound_init ?ce_BadRound_init ?mr_BadRound ?in_BadRound ?sb_BadRound ?ga_BadRound ?gg_BadRound ?hd_BadRound ?ha_BadRound ?hm_BadRound ?no_BadRound ?xL_BadStop ?sa_BadStop ?eC_BadStop ?tC_BadStop ?kC_BadStop ?iC_BadStop ?tI_BadStop ?l_BadStop_init ?cd__BadStop_init ?co_BadStop_init ?fi_BadStop_init ?fe_BadStop_init ?ce_BadStop_init ?mr_BadStop ?in_BadStop ?sb_BadStop ?ga_BadStop ?gg_BadStop ?hd_BadStop ?ha_BadStop ?hm_BadStop ?no_BadStop ?tp ?oq ?hn ?ht ?z_all ?z_enumerate ?z_isinstance ?z_len ?z_max ?z_min ?z_range ?z_super ?z_tuple ?x_w_BadRound_BadRound ?x_w_BadRound_BadStop ?x_w_BadRound_BadName ?x_v_BadRound ?x_w_BadStop_BadRound ?x_w_BadStop_BadStop ?x_w_BadStop_BadName ?x_v_BadStop ?x_w_BadName_BadRound ?x_w_BadName_BadStop ?x_w_BadName_BadName ?x_v_BadName⟩
    (case g_law_source => k_is)
    (case l_law_source => k_is)
    (case cd__law_source => k_is)
    (case kp_law_source => k_is)
    (case g_law_draw => k_is)
    (case l_law_draw => k_is)
    (case cd__law_draw => k_is)
    (case kp_law_draw => k_is)
    (case g_is_name => k_is)
    (case l_is_name => k_is)
    (case cd__is_name => k_is)
    (case kp_is_name => k_is)
    (case g_law_word => k_is)
    (case l_law_word => k_is)
    (case cd__law_word => k_is)
    (case kp_law_word => k_is)
    (case g_law_told => k_is)
    (case l_law_told => k_is)
    (case cd__law_told => k_is)
    (case kp_law_told => k_is)
    (case g_law_named => k_is)
    (case l_law_named => k_is)
    (case cd__law_named => k_is)
    (case kp_law_named => k_is)
    (case g_law_is_name => k_is)
    (case l_law_is_name => k_is)
    (case cd__law_is_name => k_is)
    (case kp_law_is_name => k_is)
    (case g_law_due => k_is)
    (case l_law_due => k_is)
    (case cd__law_due => k_is)
    (case kp_law_due => k_is)
    (case g_law => k_is)
    (case l_law => k_is)
    (case cd__law => k_is)
    (case kp_law => k_is)
    (case gc_RoundError => k_is)
    (case gc_BadName => k_is)
    (case gc_BadRound => k_is)
    (case gc_BadStop => k_is)
    (case gc_BadNet => k_is)
    (case gc_UnknownNode => k_is)
    (case gc_Round => k_is)
    (case gc_Courier => k_is)
    (case gk_MOST_LETTERS => k_is)
    (case gk_LONGEST_PERIOD => k_is)
    (case mk_Round => k_is)
    (case iC_Round => k_is)
    (case fn_Round => k_is)
    (case kC_Round => k_is)
    (case pg_Round => k_is)
    (case hd_Round => k_is)
    (case po_Round => k_is)
    (case sa_Round => k_is)
    (case no_Round_period => k_is)
    (case no_Round_stops => k_is)
    (case rd_Round => k_is)
    (case rg_Round => k_is)
    (case ma_Round => k_is)
    (case mr_Round => k_is)
    (case mf_Round => k_is)
    (case ca_Round => k_is)
    (case cg_Round => k_is)
    (case l_Round_init => k_is)
    (case cd__Round_init => k_is)
    (case kp_Round_init => k_is)
    (case l_Round_of => k_is)
    (case cd__Round_of => k_is)
    (case kp_Round_of => k_is)
    (case mk_Courier => k_is)
    (case iC_Courier => k_is)
    (case fn_Courier => k_is)
    (case kC_Courier => k_is)
    (case pg_Courier => k_is)
    (case hd_Courier => k_is)
    (case po_Courier => k_is)
    (case sa_Courier => k_is)
    (case no_Courier_name => k_is)
    (case no_Courier_way => k_is)
    (case no_Courier_start => k_is)
    (case no_Courier_since => k_is)
    (case l_Courier_init => k_is)
    (case cd__Courier_init => k_is)
    (case kp_Courier_init => k_is)
    (case x_BadName => kernel_rfl)
    (case x_BadRound => kernel_rfl)
    (case x_BadStop => kernel_rfl)
    (case xL_BadName => k_is)
    (case sa_BadName => k_is)
    (case eC_BadName => k_is)
    (case tC_BadName => k_is)
    (case kC_BadName => k_is)
    (case iC_BadName => k_is)
    (case tI_BadName => k_is)
    (case l_BadName_init => k_is)
    (case cd__BadName_init => k_is)
    (case co_BadName_init => k_is)
    (case fi_BadName_init => rfl)
    (case fe_BadName_init => first | rfl | decide +kernel)
    (case ce_BadName_init => k_is)
    (case mr_BadName => k_is)
    (case in_BadName => ks_is)
    (case sb_BadName => k_is)
    (case ga_BadName => k_is)
    (case gg_BadName => k_is)
    (case hd_BadName => k_is)
    (case ha_BadName => k_is)
    (case hm_BadName => k_is)
    (case no_BadName => k_is)
    (case xL_BadRound => k_is)
    (case sa_BadRound => k_is)
    (case eC_BadRound => k_is)
    (case tC_BadRound => k_is)
    (case kC_BadRound => k_is)
    (case iC_BadRound => k_is)
    (case tI_BadRound => k_is)
    (case l_BadRound_init => k_is)
    (case cd__BadRound_init => k_is)
    (case co_BadRound_init => k_is)
    (case fi_BadRound_init => rfl)
    (case fe_BadRound_init => first | rfl | decide +kernel)
    (case ce_BadRound_init => k_is)
    (case mr_BadRound => k_is)
    (case in_BadRound => ks_is)
    (case sb_BadRound => k_is)
    (case ga_BadRound => k_is)
    (case gg_BadRound => k_is)
    (case hd_BadRound => k_is)
    (case ha_BadRound => k_is)
    (case hm_BadRound => k_is)
    (case no_BadRound => k_is)
    (case xL_BadStop => k_is)
    (case sa_BadStop => k_is)
    (case eC_BadStop => k_is)
    (case tC_BadStop => k_is)
    (case kC_BadStop => k_is)
    (case iC_BadStop => k_is)
    (case tI_BadStop => k_is)
    (case l_BadStop_init => k_is)
    (case cd__BadStop_init => k_is)
    (case co_BadStop_init => k_is)
    (case fi_BadStop_init => rfl)
    (case fe_BadStop_init => first | rfl | decide +kernel)
    (case ce_BadStop_init => k_is)
    (case mr_BadStop => k_is)
    (case in_BadStop => ks_is)
    (case sb_BadStop => k_is)
    (case ga_BadStop => k_is)
    (case gg_BadStop => k_is)
    (case hd_BadStop => k_is)
    (case ha_BadStop => k_is)
    (case hm_BadStop => k_is)
    (case no_BadStop => k_is)
    (case tp => first | rfl | decide +kernel)
    (case oq => k_is)
    (case hn => k_is)
    (case ht => k_is)
    (case z_all => k_is)
    (case z_enumerate => k_is)
    (case z_isinstance => k_is)
    (case z_len => k_is)
    (case z_max => k_is)
    (case z_min => k_is)
    (case z_range => k_is)
    (case z_super => k_is)
    (case z_tuple => k_is)
    (case x_w_BadRound_BadRound => kernel_rfl)
    (case x_w_BadRound_BadStop => kernel_rfl)
    (case x_w_BadRound_BadName => kernel_rfl)
    (case x_v_BadRound => kernel_rfl)
    (case x_w_BadStop_BadRound => kernel_rfl)
    (case x_w_BadStop_BadStop => kernel_rfl)
    (case x_w_BadStop_BadName => kernel_rfl)
    (case x_v_BadStop => kernel_rfl)
    (case x_w_BadName_BadRound => kernel_rfl)
    (case x_w_BadName_BadStop => kernel_rfl)
    (case x_w_BadName_BadName => kernel_rfl)
    (case x_v_BadName => kernel_rfl)
