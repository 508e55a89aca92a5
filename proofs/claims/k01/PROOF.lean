import PyProof.Rows.All
import Wide.All
import OpenK.AllK
import Wide.FinOn
import KE.KExcSuper
import HandS.ForMost
import HandS.Exc
import HandS.ExcInit
import HandS.Nested
import HandS.FStr
import HandS.ExcField
import HandS.IsInst
import HandS.Property
import KE.KExcIs
import HandS.Defaults
import HandS.Wide
import HandS.TupAny
import HandS.Evl
import HandS.Text
import KE.DataEq
import PySem.Challenge.RW_handrounds_k01_errors
set_option Elab.async false
set_option linter.all false
set_option maxRecDepth 100000
set_option maxHeartbeats 4000000
namespace Hr
open PySem PySem.Spec PyProof.Rows L2

/-! ### a body at a known activation (for super()) -/
structure PSsAt (X : Cx) (body st : List Stmt) (t : TS) : Prop where
  run : ∀ (pins : List (Addr × Obj)) (s : Shared) (σ : L2.St) (H : Hp) (D : Ends), Inv X pins σ H s → t D σ H →
    _root_.PySem.wpAt (model X.prog X.w) X.A (.func body X.env) (execs st X.env) (SP X pins D) X.xe s
theorem PSsAt.of {X : Cx} {body st : List Stmt} {t : TS} (h : PSs X st t) : PSsAt X body st t :=
  ⟨fun pins s σ H D I q => wpAt_of_wpAny (h.run pins s σ H D I q)⟩

/-- the words of a method that closes over __class__ -/
abbrev nfS (name qual : Str) (params : Arguments) (body : List Stmt) (scope : Scope) (cc cda : Addr) : NdefX.NF := ⟨name, qual, params, body, scope, [("__class__", cc)], cda⟩

theorem fnS_of {CX : CXT} {P : Program} {w : World} {K : PySem.W.Frag} {mg : Str → Option Value} {base : Heap} {k : Nat} {f cc cda D : Addr} {name qual : Str} {params : Arguments} {body : List Stmt} {scope : Scope} {dV kV doc pm ct oc cl : Value} {an od cld : Option Addr}
    {osl csl : Array (Option Value)} {N ps : List Str} {sp : Sp} (lk : K.lookup f = some ⟨oc, od, .func (PySem.W.ksFn name qual params body scope dV kV doc pm an (.ref cda) ct cc), osl⟩) (hcd : PySem.W.codeIn K (.ref cda) qual = true)
    (hcell : K.lookup cc = some ⟨cl, cld, .cell (some (.ref D)), csl⟩) (S : NdefX.NScope N ps ["__class__"] scope)
    (len : ∀ vs H Q E, sp vs H Q E → vs.length = ps.length)
    (hbody : ∀ (A : Around) (outer : List Env) (s : Shared) (H : Hp) (vs : List V) (Q : VK) (E : XK), Room k (A.deeper (NdefX.envF (nfS name qual params body scope cc cda) f s.heap.objs.size)) → sp vs H Q E →
      ∃ t, PSsAt (NdefX.ncx CX P w K mg base N (nfS name qual params body scope cc cda) f A outer s H E) body body t ∧ t { nx := fun _ H' => Q .non H', rt := Q } (NdefX.startF N vs [some (.ref D)]) H) :
    FnOk P w K mg base CX (k + 1) f (PySem.W.ksFn name qual params body scope dV kV doc pm an (.ref cda) ct cc) ps sp := by
  refine ⟨len, fun A outer s H args us vs Q E hr e0 hb r hsp => ?_⟩
  have hl := len _ _ _ _ hsp
  have KX : K.In s.heap := e0.mod.kin.keeps fun b o e => (e0.bs b o e).1
  have lim : s.heap.NoLimit := e0.mod.nolimit.keeps fun b o e => (e0.bs b o e).1
  have hloc : ∀ y ∈ ps.zip us, scope.names.lookup y.1 = some .local := fun ⟨n, v⟩ hy => S.par n (List.of_mem_zip hy).1
  refine ks_codeAny_call_defAt (fd := PySem.W.ksFn name qual params body scope dV kV doc pm an (.ref cda) ct cc) (body := body) (binds := ps.zip us) hr.depth (KX _ _ lk) rfl lim (PySem.W.codeRec_of KX hcd) rfl hb S.nocell hloc (fun h₁ hns kp => ?_) S.co S.gen S.kind
  obtain ⟨t, ht, hq⟩ := hbody A outer s H vs Q E (hr.deeper _) hsp
  have C : NdefX.CellsAt [("__class__", cc)] ["__class__"] [some (V.ref D)] s.heap H := by
    have e1 : base.get? cc = some _ := e0.mod.kin _ _ hcell
    have e2 := e0.bs _ _ e1
    refine ⟨rfl, fun y c e => ?_, fun x y c e1 e2 => ?_, fun i y e => ?_⟩
    · have ec : c = cc := by
        simp only [List.lookup] at e
        split at e
        · exact (Option.some.inj e).symm
        · cases e
      subst ec
      exact ⟨e2.2, _, _, e2.1, rfl⟩
    · have h1 : ∀ {z : Str}, List.lookup z [(("__class__" : Str), cc)] = some c → z = "__class__" := fun {z} e => by
        simp only [List.lookup] at e
        split at e
        · rename_i h
          exact beq_iff_eq.mp h
        · cases e
      rw [h1 e1, h1 e2]
    · cases i with
      | zero =>
        have ey : ("__class__" : Str) = y := Option.some.inj e
        subst ey
        refine ⟨cc, by simp [List.lookup], fun v ev => ?_⟩
        have ev' : V.ref D = v := Option.some.inj (Option.some.inj ev)
        subst ev'
        exact ⟨.ref D, rfl, _, e2.1, rfl⟩
      | succ i => simp at e
  have I := NdefX.inv_startN (CX := CX) (E := E) (f := f) (tk := s.toks + (ps.zip us).length) (F := nfS name qual params body scope cc cda) S hr.hd e0 hl r C hns kp
  refine ks_wpAt_mono (ht.run [] _ _ H _ I hq) (fun fl s' hs => ?_) fun e s' hs => hs
  have fin : ∀ {σ' : L2.St} {H' : Hp} {v : V} {u : Value}, Inv (NdefX.ncx CX P w K mg base N (nfS name qual params body scope cc cda) f A outer s H E) [] σ' H' s' → RelV v u → Q v H' → CE outer P w H s Q u s' :=
    fun {σ' H' v u} J rv q => ⟨v, H', J.os, J.bare, J.base, J.hok, rv, q⟩
  cases fl with
  | ret u =>
    obtain ⟨v, σ', H', J, rv, q⟩ := hs
    exact fin J rv q
  | next =>
    obtain ⟨σ', H', J, q⟩ := hs
    exact fin (v := V.non) (u := Value.none) J rfl q
  | brk =>
    obtain ⟨_, _, _, q⟩ := hs
    exact False.elim q
  | cont =>
    obtain ⟨_, _, _, q⟩ := hs
    exact False.elim q
end Hr

set_option maxHeartbeats 4000000
namespace Hr
open PySem PySem.Spec PyProof.Rows L2

/-- what the written part says of an error's __init__ at fI (class C, its cell cc, its code cda) -/
structure SupC (K : PySem.W.Frag) (mg : Str → Option Value) (prog : Program) (C fI cc cda : Addr) (ar : Str) : Prop where
  oex : OexC K C
  lk : ∃ oc od fd osl, K.lookup fI = some ⟨oc, od, .func fd, osl⟩ ∧ ∃ a : Arg, (fd.params.posonlyargs ++ fd.params.args).head? = some a ∧ a.arg = ar
  code : ∃ ccl cdd vs ccs file tf, K.lookup cda = some ⟨ccl, cdd, .fields vs, ccs⟩ ∧ vs[2]? = some (.str file tf) ∧ ((prog.main.file : Str) == file) = true
  cell : ∃ cl cld csl, K.lookup cc = some ⟨cl, cld, .cell (some (.ref C)), csl⟩
  cls : ∃ cd, PySem.W.clsIn K C = some cd
  mro : PySem.W.mroIn K C (.ref C) = some true
  sup : mg "super" = none
  top : (prog.main.scope.names.lookup ("super" : Str)).isSome = false
  opq : PySem.W.nsIn K cStatics "thirdparty.any" = some none
  ini : PySem.W.ks_superIn K C C "__init__" = some (some (.builtin "ValueError.__init__"))
  sub : PySem.W.subIn K (.ref C) (.type "ValueError") = some true

/-- call of the bound built-in __init__ -/
theorem call_mw {X : Cx} {pins : List (Addr × Obj)} {σ : L2.St} {H : Hp} {s : Shared} {a C u : Addr} {us : List Value} {Q : Value → Shared → Prop} {E : Value → Shared → Prop} (T : OexC X.K C) (I : Inv X pins σ H s) (e : H a = some (exo a C none))
    (hu : s.heap.get? u = some (PySem.W.kxs_mw "ValueError.__init__" a)) (hl : us.length ≤ sizeLine) (h : ∀ s', Inv X pins σ H s' → Q .none s') :
    wpAny (model X.prog X.w) X.A (call (.ref u) us) Q E s := by
  obtain ⟨nm, q, N, bs, bm, sn, sub, ab, col, dd, k0, k1, k2, k3, k5, hC, hbm⟩ := T.cls
  obtain ⟨t1, ho⟩ := exo_at I.hok e
  obtain ⟨hp, g, d, t, os⟩ := s
  have hCl := I.kIn _ _ hC
  refine wpAny_call (codeAny_of_tree ?_)
  show wpAny _ X.A.in1 (callAny (.ref u) ⟨us, []⟩) _ _ _
  simp only [callAny]
  refine wpAny_bind (wpAny_load hu ?_)
  simp only [PySem.W.kxs_mw, show (Value.type "method-wrapper" == Value.type "method" || Value.type "method-wrapper" == Value.type "builtin_function_or_method" || Value.type "method-wrapper" == Value.type "method-wrapper") = true by decide, if_true]
  refine PySem.W.KFB.if_so (by decide) ?_
  refine wpAny_bind (PySem.W.check_bound_init F.excBase_ValueError.toExcCallFacts hCl ho rfl ?_)
  refine wpAny_bind (wpAny_pure (wpAny_pure ?_))
  refine ⟨plainId_quiet F.excBase_ValueError.init.plain _, codeAny_builtin F.excBase_ValueError.initEntry ?_⟩
  refine PySem.W.exc_init_tree (cls := .ref C) (t0 := t1) (dv := none) (c2 := .none) (c3 := .none) (b4 := .bool false) ho hl ?_
  intro h' k hx _
  have J := I.write (t' := t) (x := a) (e := a) (o := exo a C none) (by rw [e]; exact True.intro) (.inl rfl) k ⟨_, hx⟩ (exo_ok hx)
  have eu : upd H a (exo a C none) = H := by
    funext b
    by_cases hb : b = a
    · rw [hb, upd_same, e]
    · rw [upd_ne hb]
  rw [eu] at J
  exact h _ J

/-- super().__init__(e, ..) -/
def tSup (C : Addr) (ta : TA) : TS := fun D σ H => ∃ a, σ[0]? = some (some (V.ref a)) ∧ H a = some (exo a C none) ∧ ta σ H fun vs H1 => vs.length ≤ 1000 ∧ H1 a = some (exo a C none) ∧ D.nx σ H1
theorem pssat_sup {X : Cx} {body rest : List Stmt} {C fI cc cda : Addr} {ar : Str} {e : Expr} {es : List Expr} {ta : TA} {t : TS} {p0 p1 p2 p3 p4 : Pos} {pl : Sem Bool} (T : SupC X.K X.mg X.prog C fI cc cda ar)
    (hks : X.env.kindOf "super" = some .globalImplicit) (hkc : X.env.kindOf "__class__" = some .free) (hka : X.env.kindOf ar = some .local) (hN : X.N[0]? = some ar) (hcl : X.env.cells.lookup ("__class__" : Str) = some cc)
    (hfu : X.env.func = some fI) (hco : X.env.code = .ref cda) (ha : PA X (e :: es) ta) (hr : PSsAt X body rest t) 
    (hi : interactive X.env = false)
    (hs : swapsWith (.Call (.Attribute (.Call (.Name "super" p0) [] [] p1) "__init__" p2) (e :: es) [] p3) none p4.line X.env = pure false := by rfl)
    (he : eval (.Call (.Attribute (.Call (.Name "super" p0) [] [] p1) "__init__" p2) (e :: es) [] p3) X.env = (do
      let ov ← attributeBase (.Call (.Name "super" p0) [] [] p1) "__init__" X.env (eval (.Call (.Name "super" p0) [] [] p1) X.env)
      standAt p2.atName
      let (f, first) ← holding [ov] (getMethod ov "__init__" pl)
      callWith p3 f first (backTo p3 (starEach (e :: es) X.env)) []) := by rfl)
    (hst : starEach (e :: es) X.env = (false, eval e X.env) :: starEach es X.env := by rfl) (hpl : (backTo p3 (starEach es X.env)).any (·.1) = false := by rfl) :
    PSsAt X body (.Expr (.Call (.Attribute (.Call (.Name "super" p0) [] [] p1) "__init__" p2) (e :: es) [] p3) p4 :: rest) (tSeq (tSup C ta) t) := by
  refine ⟨fun pins s σ H D I h => ?_⟩
  obtain ⟨a, h0, ea, h⟩ := h
  obtain ⟨oc, od, fd, osl, lk, arg, hp, hpa⟩ := T.lk
  obtain ⟨ccl, cdd, vs, ccs, file, tf, hcode, hvs, hfile⟩ := T.code
  obtain ⟨cl, cld, csl, hcell⟩ := T.cell
  obtain ⟨cd, hD⟩ := T.cls
  subst hpa
  have KX := I.kIn
  obtain ⟨oD, hD1, hD2⟩ : ∃ oD, s.heap.get? C = some oD ∧ oD.data = .cls cd := by
    unfold PySem.W.clsIn at hD
    split at hD
    · rename_i c d cd' sl ho
      cases hD
      exact ⟨_, KX _ _ ho, rfl⟩
    · cases hD
  obtain ⟨t1, ho⟩ := exo_at I.hok ea
  obtain ⟨m, hn, hlook⟩ := id I.loc
  obtain ⟨u, ru, hlk⟩ := hlook 0 _ _ hN h0 (.inl hka)
  obtain rfl : u = Value.ref a := ru
  have hm : m arg.arg = some (.ref a) := by
    rcases hlk with ⟨_, q⟩ | ⟨q, _⟩
    · exact q
    · rw [hka] at q
      rcases q with q | q <;> cases q
  have hT : PySem.W.InstAt s.heap a _ C none := ⟨ho, rfl, rfl, trivial⟩
  have hne : a ≠ C := PySem.W.ks_ne KX hT hD
  have hIn : PySem.W.Looks (model X.prog X.w) s.heap (isInstance (.ref a) (.type "ValueError")) true := hT.type.andThen (PySem.W.looks_subIn KX T.sub)
  obtain ⟨hh, g, d, tk, os⟩ := s
  refine ks_wpAt_execs_cons (ks_wpAt_Expr_any (ks_wpAt_MethodCall ?_ he) hi hs)
  refine ks_wpAt_super_base hks hkc (by decide) hfu (KX _ _ lk) rfl hp hco (KX _ _ hcode) rfl hvs hfile T.top ?_
  obtain ⟨mb, b1, b2⟩ := I.mod.blt
  refine PySem.W.ks_loadName_global I.ok.kind hks (Calls.loadGlobal_builtin (by rw [I.ok.glob]; exact I.mod.glob.keeps I.bk) T.sup (by rw [I.ok.blt]; exact b1.keeps I.bk) ((b2 "super" (by decide)).trans PyProof.Rows.Boot.«super») ⟨rfl, ?_⟩)
  refine wpAny_loadName_free I.ok.kind hkc hcl ⟨_, KX _ _ hcell, rfl⟩ ?_
  refine wpAny_loadName_local I.ok.kind hka hn hm ?_
  refine ks_wpAny_isType_cls hD1 hD2 ⟨rfl, ?_⟩
  refine ks_wpAny_call_super hD1 hD2 ho rfl (fun c e => by cases e) (PySem.W.looks_mroIn KX T.mro) (fun h' eo k => ?_)
  have I1 : Inv X pins σ H ⟨h', g, d, tk, os⟩ := I.kept (t' := tk) k
  have KX1 := I1.kIn
  have hini := T.ini
  unfold PySem.W.ks_superIn at hini
  rw [hD] at hini
  have hT1 : PySem.W.InstAt h' a _ C none := ⟨k _ _ ho, rfl, rfl, trivial⟩
  have hIn1 : PySem.W.Looks (model X.prog X.w) h' (isInstance (.ref a) (.type "ValueError")) true := hT1.type.andThen (PySem.W.looks_subIn KX1 T.sub)
  refine PySem.W.kxs_getMethod PySem.W.kxs_ValueError eo (PySem.W.looks_opaque KX1 T.opq) (l₀ := cd.mro) (fun A Q E s k q => wpAny_bind ((PySem.W.looks_clsIn KX1 hD) A _ E s k (wpAny_pure q))) rfl KX1 hini hIn1 hne (by decide) ?_
  -- the wrapper at u
  have k2 : ∀ b o, h'.get? b = some o → (h'.push (PySem.W.kxs_mw "ValueError.__init__" a)).get? b = some o := fun b o e => Heap.get?_push_of_some _ e
  have hu : (h'.push (PySem.W.kxs_mw "ValueError.__init__" a)).get? h'.objs.size = some (PySem.W.kxs_mw "ValueError.__init__" a) := Heap.get?_push_at rfl rfl
  have I2 : Inv X pins σ H ⟨h'.push (PySem.W.kxs_mw "ValueError.__init__" a), g, d, tk + 1, os⟩ := I1.kept (t' := tk + 1) k2
  have hnu : H h'.objs.size = none := I1.hok.fresh (Nat.le_refl _)
  have I3 : Inv X ((h'.objs.size, PySem.W.kxs_mw "ValueError.__init__" a) :: pins) σ H ⟨h'.push (PySem.W.kxs_mw "ValueError.__init__" a), g, d, tk + 1, os⟩ := by
    refine ⟨I2.ok, I2.os, I2.bare, I2.base, I2.loc, I2.cell, I2.free, I2.freeC, fun p hp => ?_, I2.hok, I2.len⟩
    rcases List.mem_append.mp hp with hp | hp
    · exact I2.pin p (List.mem_append_left _ hp)
    · rcases List.mem_cons.mp hp with rfl | hp
      · exact ⟨hu, hnu, Nat.ne_of_gt I1.lt, I1.nofs (Nat.le_refl _), fun v z => by cases z⟩
      · exact I2.pin p (List.mem_append_right _ hp)
  show wpAny _ _ (callWith p3 (.ref h'.objs.size) [] (backTo p3 (starEach (e :: es) X.env)) []) _ _ _
  have fin := ha.run p3 _ _ σ H _ I3 h
  rw [hst] at fin ⊢
  refine PySem.W.kxs_callWith (i := "ValueError.__init__") (x := a) (by show (false || (backTo p3 (starEach es X.env)).any (·.1)) = false; rw [hpl]; rfl) ?_
  refine Calls.evalArgs_plain (thn fin fun us s1 hh => ?_)
  obtain ⟨vs', H1, J, rv, hz, ea1, q⟩ := hh
  refine ⟨(J.pin (h'.objs.size, _) (by simp)).1, ?_⟩
  have J0 : Inv X pins σ H1 s1 := by
    refine ⟨J.ok, J.os, J.bare, J.base, J.loc, J.cell, J.free, J.freeC, fun p hp => ?_, J.hok, J.len⟩
    rcases List.mem_append.mp hp with hp | hp
    · exact J.pin p (List.mem_append_left _ hp)
    · exact J.pin p (List.mem_append_right _ (List.mem_cons_of_mem _ hp))
  refine call_mw (us := [] ++ us) T.oex J0 ea1 (J.pin (h'.objs.size, _) (by simp)).1 ?_ fun s' J' => ?_
  · rw [List.nil_append, ← Paired.length rv, sizeLine_eq]
    omega
  · exact hr.run pins s' σ H1 D J' q
end Hr

set_option maxHeartbeats 4000000
/-! A class of errors is called, with keywords or without: the object is born by the built-in maker, which does not look at the keywords, then the class's own __init__ runs with all that was given. -/
namespace Hr
open PySem PySem.W PySem.Calls PyProof.Rows

/-- at C in the heap: a class of the program's own over ValueError, as the top lays it -/
def ErrCl (h : Heap) (C : Addr) (bm : List Value) : Prop :=
  ∃ nm q N bs sn sub ab col dd k0 k1 k2 k3 k5, h.get? C = some (excClassObj nm q C N bs bm true sn sub ab col dd k0 k1 k2 k3 k5 "ValueError.__new__") ∧ PySem.HandSPX.refsVE bm = true
theorem ErrCl.keep {h h' : Heap} {C : Addr} {bm : List Value} (c : ErrCl h C bm) (k : ∀ b o, h.get? b = some o → h'.get? b = some o) : ErrCl h' C bm := by
  obtain ⟨nm, q, N, bs, sn, sub, ab, col, dd, k0, k1, k2, k3, k5, e, r⟩ := c
  exact ⟨nm, q, N, bs, sn, sub, ab, col, dd, k0, k1, k2, k3, k5, k _ _ e, r⟩
/-- which built-in classes stand above such a class -/
theorem above {C : Addr} {bm : List Value} (r : PySem.HandSPX.refsVE bm = true) (T : String) {b : Bool} (hb : [Value.type "ValueError", .type "Exception", .type "BaseException", .type "object"].contains (.type T) = b) : (Value.ref C :: bm).contains (.type T) = b := by
  have z := PySem.HandSPX.refsVE_contains T bm r
  simp only [List.contains_cons, z, show (Value.type T == Value.ref C) = false from rfl, Bool.false_or]
  exact hb

section
variable {prog : Program} {w : World} {A : Around} {E : Value → Shared → Prop} {R : Result → Shared → Prop} {g : Array GenState} {d : Drawn} {t : Nat} {os : OsState} {C : Addr} {bm : List Value}
/-- the object of a new error -/
abbrev newErr (C t : Addr) : Obj := PySem.HandSPX.excO C t
abbrev born (h : Heap) (C : Addr) (rest : List Value) : Heap := (h.push (W.kdv_tup rest)).push (newErr C h.objs.size)
theorem born_keeps {h : Heap} {rest : List Value} : ∀ b o, h.get? b = some o → (born h C rest).get? b = some o := fun b o e => Heap.get?_push_of_some _ (Heap.get?_push_of_some _ e)
theorem born_at {h : Heap} {rest : List Value} : (born h C rest).get? (h.objs.size + 1) = some (newErr C h.objs.size) := by heap_get

/-- the maker may be asked -/
theorem ask_maker {M : Model} {h : Heap} {rest : List Value} {kw : List (Str × Value)} {Q : Unit → Shared → Prop} (c : ErrCl h C bm) (q : Q () ⟨h, g, d, t, os⟩) :
    wpAny M A (checkBuiltinCall "ValueError.__new__" ⟨.ref C :: rest, kw⟩) Q E ⟨h, g, d, t, os⟩ := by
  obtain ⟨nm, qn, N, bs, sn, sub, ab, col, dd, k0, k1, k2, k3, k5, cl, r⟩ := c
  have isV := above (C := C) r "ValueError" (b := true) (by decide +kernel)
  have star := F.excBase_ValueError.noStar
  simp only [checkBuiltinCall, F.excBase_ValueError.newKind, F.excBase_ValueError.newSplit, F.excBase_ValueError.newRow]
  repeat (first
    | refine wpAny_loadPart_at cl ?_
    | (refine wpAny_isSubtype_exc cl ?_; rw [isV])
    | refine wpAny_staticBase_exc cl ?_
    | refine wpAny_madeBy_exc cl ?_
    | simp only [bne_self_eq_false, Bool.false_eq_true, if_false]
    | wp_step)
  exact q

/-- the maker's run: the arguments in a tuple, the object -/
theorem maker_run {h : Heap} {rest : List Value} {kw : List (Str × Value)} (c : ErrCl h C bm) (few : rest.length ≤ sizeLine) (q : R (.ok (.ret (.ref (h.objs.size + 1)))) ⟨born h C rest, g, d, t, os⟩) :
    codeAny (model prog w) A (.builtin "ValueError.__new__" ⟨.ref C :: rest, kw⟩) R ⟨h, g, d, t, os⟩ := by
  obtain ⟨nm, qn, N, bs, sn, sub, ab, col, dd, k0, k1, k2, k3, k5, cl, r⟩ := c
  have fends := F.excBase_ValueError.ends
  have isV := above (C := C) r "ValueError" (b := true) (by decide +kernel)
  have noA := above (C := C) r "AttributeError" (b := false) (by decide +kernel)
  have noN := above (C := C) r "NameError" (b := false) (by decide +kernel)
  refine codeAny_builtinAt F.excBase_ValueError.entry ?_
  unfold Builtin.«BaseException.__new__»
  refine PyProof.Rows.wpAt_bind (show PyProof.Rows.wpAt _ _ _ (stack >>= _) _ _ _ from PyProof.Rows.wpAt_bind (PyProof.Rows.wpAt_stack fun p0 under => PyProof.Rows.wpAt_of_any ?_))
  wp_walk
  refine PyProof.Rows.wpAt_of_any ?_
  rw [F.excBase_ValueError.owner]
  repeat (first
    | with_reducible refine wpAny_madeHere_exc F.excBase_ValueError.canon cl ?_
    | with_reducible refine wpAny_loadPart_at cl ?_
    | (with_reducible refine wpAny_isSubtype_exc cl ?_; first | rw [isV] | rw [noA] | rw [noN])
    | wp_step)
  have e : (h.push (W.kdv_tup rest)).objs.size = h.objs.size + 1 := Heap.size_push _ _
  rw [← e] at q
  exact q

/-- type.__call__ of such a class: the maker, then __init__ at fI -/
theorem call_run {h : Heap} {rest : List Value} {kw : List (Str × Value)} {fI : Addr} {Q : Fin → Shared → Prop} (c : ErrCl h C bm) (ini : W.Looks (model prog w) h (typeLookup (.ref C) "__init__") (some (.ref fI)))
    (bnd : ∀ x, W.Looks (model prog w) h (bindSpecial (.ref fI) x) (.ref fI, [x])) (few : rest.length ≤ sizeLine)
    (run : codeAny (model prog w) A (.call (.ref fI) ⟨.ref (h.objs.size + 1) :: rest, kw⟩)
      (fun | .ok (.ret v), s' => v = .none ∧ Q (.done (.ret (.ref (h.objs.size + 1)))) s' | .ok _, _ => False | .error e, s' => E e s') ⟨born h C rest, g, d, t, os⟩) :
    wpAny (model prog w) A (Builtin.«type.__call__» ⟨.ref C :: rest, kw⟩) Q E ⟨h, g, d, t, os⟩ := by
  have c' := c
  obtain ⟨nm, qn, N, bs, sn, sub, ab, col, dd, k0, k1, k2, k3, k5, cl, r⟩ := c
  have cl2 := born_keeps (rest := rest) (C := C) _ _ cl
  have ob := born_at (h := h) (C := C) (rest := rest)
  have self : (Value.ref C :: bm).contains (.ref C) = true := by rw [List.contains_cons, beq_self_eq_true, Bool.true_or]
  have ini2 := ini.keeps (born_keeps (C := C) (rest := rest))
  have bnd2 := (bnd (.ref (h.objs.size + 1))).keeps (born_keeps (C := C) (rest := rest))
  repeat (first
    | with_reducible refine wpAny_loadPart_at cl ?_
    | with_reducible refine wpAny_madeBy_exc cl ?_
    | wp_step)
  refine codeAny_call_builtin_code (Code.quiet_builtin _ F.excBase_ValueError.quiet) (ask_maker c' (maker_run c' few ?_))
  unfold isInstance
  repeat (first
    | with_reducible refine wpAny_loadPart_at ob ?_
    | (with_reducible refine wpAny_isSubtype_exc cl2 ?_; rw [self])
    | wp_step)
  refine show wpAny _ _ (typeLookup (.ref C) _) _ _ _ from ini2.at (wpAny_holding (wpAny_bind (bnd2.at (wpAny_bind (wpAny_call (codeAny_mono run ?_))))))
  rintro (e | (v | _ | _ | _)) s' z
  case error => exact z
  case ok.ret =>
    obtain ⟨rfl, z⟩ := z
    exact wpAny_pure (wpAny_pure z)
  all_goals exact z.elim
/-- the class called -/
theorem call_err {h : Heap} {rest : List Value} {kw : List (Str × Value)} {fI : Addr} (c : ErrCl h C bm) (ini : W.Looks (model prog w) h (typeLookup (.ref C) "__init__") (some (.ref fI)))
    (bnd : ∀ x, W.Looks (model prog w) h (bindSpecial (.ref fI) x) (.ref fI, [x])) (few : rest.length ≤ sizeLine)
    (run : codeAny (model prog w) (A.under (.builtin "type.__call__" ⟨.ref C :: rest, kw⟩)) (.call (.ref fI) ⟨.ref (h.objs.size + 1) :: rest, kw⟩) (W.InitBack (h.objs.size + 1) R) ⟨born h C rest, g, d, t, os⟩) :
    codeAny (model prog w) A (.call (.ref C) ⟨rest, kw⟩) R ⟨h, g, d, t, os⟩ := by
  have c' := c
  obtain ⟨nm, qn, N, bs, sn, sub, ab, col, dd, k0, k1, k2, k3, k5, cl, r⟩ := c
  have lk := tc_lookup
  have bd := tc_bind (.ref C)
  have ty : (⟨h, g, d, t, os⟩ : Shared).TypeIs (.ref C) "type" := ⟨_, cl, rfl⟩
  refine codeAny_of_tree (show wpAny _ _ (callAny (.ref C) _) _ _ _ from ?_)
  repeat (any_goals (first
    | with_reducible refine wpAny_loadPart_at cl ?_
    | assumption
    | wp_step))
  refine ⟨rfl, codeAny_call_builtin_at (Code.quiet_builtin _ (by decide +kernel)) entry_typeCall (wpAny_check_type_call_sub cl (call_run c' ini bnd few (codeAny_mono run ?_)))⟩
  rintro (e | (v | _ | _ | _)) s' z <;> exact z
end
end Hr

set_option maxHeartbeats 4000000
namespace Hr
open PySem PySem.Spec PyProof.Rows L2

def tMkX (C : Addr) (sp : Sp) (ta : TA) : TE := fun σ H Q => ta σ H fun vs H1 => vs.length ≤ 1000 ∧ ∀ a, H1 a = none → sp (.ref a :: vs) (upd H1 a (exo a C none)) (fun v H2 => v = .non ∧ Q (.ref a) H2) (fun _ _ _ => False)
section
variable {X : Cx} {pins : List (Addr × Obj)} {σ : L2.St} {H : Hp} {s : Shared} {Q : VK} {CX : CXT} {C fI : Addr} {k : Nat} {fd : FuncData} {ps : List Str} {sp : Sp}
/-- the class is called: values us, keywords ks with values ws -/
theorem run_mkX {us ws : List Value} {vs zs : List V} {ks : List Str} (T : OexC X.K C) (iC : PySem.W.findIn X.K (.ref C) "__init__" = some (some (.ref fI))) (tI : PySem.W.typeIn X.K (.ref fI) = some (.type "function"))
    (F1 : FnOk X.prog X.w X.K X.mg X.base CX k fI fd ps sp) (hr : Room (k + 1) X.A) (hx : Passes CX X (fun _ _ _ => False)) (I : Inv X pins σ H s) (r : Vals vs us) (rz : Vals zs ws)
    (hb : ∀ (s : Shared) (self : Value), X.K.In s.heap → (self :: (us ++ ws)).length = ps.length → BindsTo s fd ⟨self :: us, ks.zip ws⟩ (ps.zip (self :: (us ++ ws))))
    (hz : vs.length ≤ 1000) (h : ∀ a, H a = none → sp (.ref a :: (vs ++ zs)) (upd H a (exo a C none)) (fun v H2 => v = .non ∧ Q (.ref a) H2) (fun _ _ _ => False)) :
    wpAny (model X.prog X.w) X.A (call (.ref C) us (ks.zip ws)) (EP X pins σ Q) X.xe s := by
  obtain ⟨nm, q, N, bs, bm, sn, sub, ab, col, dd, k0, k1, k2, k3, k5, hC, hbm⟩ := T.cls
  obtain ⟨hp, g, dr, tk, os⟩ := s
  have hsz : hp.objs.size ≤ hp.objs.size + 1 := Nat.le_succ _
  have hn : H (hp.objs.size + 1) = none := I.hok.fresh hsz
  have hq := h (hp.objs.size + 1) hn
  have kk : ∀ b o, hp.get? b = some o → ((hp.push (PySem.W.kdv_tup us)).push (PySem.HandSPX.excO C hp.objs.size)).get? b = some o := fun b o e => Heap.get?_push_of_some _ (Heap.get?_push_of_some _ e)
  have hget : ((hp.push (PySem.W.kdv_tup us)).push (PySem.HandSPX.excO C hp.objs.size)).get? (hp.objs.size + 1) = some (PySem.HandSPX.excO C hp.objs.size) := by heap_get
  have I2 : Inv X pins σ (upd H (hp.objs.size + 1) (exo (hp.objs.size + 1) C none)) ⟨(hp.push (PySem.W.kdv_tup us)).push (PySem.HandSPX.excO C hp.objs.size), g, dr, tk, os⟩ :=
    I.laid (t' := tk) (a := hp.objs.size + 1) (o := exo (hp.objs.size + 1) C none) (h' := (hp.push (PySem.W.kdv_tup us)).push (PySem.HandSPX.excO C hp.objs.size)) kk hsz (exo_ok hget)
  have r2 : Vals (V.ref (hp.objs.size + 1) :: (vs ++ zs)) (Value.ref (hp.objs.size + 1) :: (us ++ ws)) := .cons rfl (r.append rz)
  have hl : (Value.ref (hp.objs.size + 1) :: (us ++ ws)).length = ps.length := by
    have e := r2.length
    rw [F1.len _ _ _ _ hq] at e
    exact e.symm
  have hus : us.length ≤ sizeLine := by
    rw [← Paired.length r, sizeLine_eq]
    omega
  refine wpAny_call (call_err ⟨nm, q, N, bs, sn, sub, ab, col, dd, k0, k1, k2, k3, k5, I.kIn _ _ hC, hbm⟩ (PySem.W.looks_findIn I.kIn iC) (fun self => PySem.W.bind_fn I.kIn self tI) hus
    (codeAny_mono (F1.run _ X.stack _ _ ⟨Value.ref (hp.objs.size + 1) :: us, ks.zip ws⟩ (Value.ref (hp.objs.size + 1) :: (us ++ ws)) _ _ (fun _ _ _ => False) (hr.make C us (ks.zip ws)) (I2.env0.make C us (ks.zip ws)) (hb _ (Value.ref (hp.objs.size + 1)) I2.kIn hl) r2 hq) fun r s' hq' => ?_))
  cases r with
  | error er => exact hx pins σ _ _ er s' I2 hq'
  | ok fl =>
    cases fl with
    | ret u =>
      obtain ⟨v, H', I3, rv, ev, q3⟩ := I2.after hq'
      subst ev
      exact ⟨rv, ⟨V.ref (hp.objs.size + 1), H', I3, rfl, q3⟩⟩
    | next => exact False.elim hq'
    | brk => exact False.elim hq'
    | cont => exact False.elim hq'
variable {x : Str} {e : Expr} {es : List Expr} {kws : List Keyword} {ta tk : TA} {p pos : Pos} {ks : List Str}
/-- C(e, ..) as a value -/
theorem pe_mkX (T : OexC X.K C) (iC : PySem.W.findIn X.K (.ref C) "__init__" = some (some (.ref fI))) (tI : PySem.W.typeIn X.K (.ref fI) = some (.type "function"))
    (F1 : FnOk X.prog X.w X.K X.mg X.base CX k fI fd ps sp) (hr : Room (k + 1) X.A) (hb : Binds X.K fd ps []) (hx : Passes CX X (fun _ _ _ => False)) (hg : Gl X x) (hm : X.mg x = some (.ref C)) (ha : PA X (e :: es) ta)
    (hdb : (x == ("__debug__" : Str)) = false := by decide) (he : starEach (e :: es) X.env = (false, eval e X.env) :: starEach es X.env := by rfl) (hpl : (backTo pos (starEach es X.env)).any (·.1) = false := by rfl) :
    PE X (.Call (.Name x p) (e :: es) [] pos) (tMkX C sp ta) := by
  refine ⟨fun pins s σ H Q I h => ?_⟩
  refine wpAny_Call_Name_kw (ld_glob I hg hm ?_ hdb)
  refine PySem.W.callWith_K (h₀ := X.base) I.ok.mod.kin T.kC (thn (ha.run pos pins s σ H _ I h) fun us s1 ⟨vs, H1, I1, r1, hz, q1⟩ => ⟨I1.kIn, ?_⟩) he hpl
  show wpAny _ _ (call (.ref C) us) _ _ _
  refine run_mkX (ws := []) (zs := []) (ks := []) T iC tI F1 hr hx I1 r1 .nil (fun s self KX hl => ?_) hz (fun a ha => ?_)
  · rw [List.append_nil] at hl ⊢
    have q := hb s (self :: us) KX (by rw [List.append_nil]; exact hl)
    rw [List.append_nil] at q
    exact q
  · rw [List.append_nil]
    exact q1 a ha
theorem pe_mkX0 (T : OexC X.K C) (iC : PySem.W.findIn X.K (.ref C) "__init__" = some (some (.ref fI))) (tI : PySem.W.typeIn X.K (.ref fI) = some (.type "function"))
    (F1 : FnOk X.prog X.w X.K X.mg X.base CX k fI fd ps sp) (hr : Room (k + 1) X.A) (hb : Binds X.K fd ps []) (hx : Passes CX X (fun _ _ _ => False)) (hg : Gl X x) (hm : X.mg x = some (.ref C))
    (hdb : (x == ("__debug__" : Str)) = false := by decide) : PE X (.Call (.Name x p) [] [] pos) (tMkX C sp tNil) := by
  refine ⟨fun pins s σ H Q I h => ?_⟩
  refine wpAny_Call_Name_kw (ld_glob I hg hm ?_ hdb)
  refine PySem.W.callWith_K0 I.kIn T.kC ?_
  show wpAny _ _ (call (.ref C) []) _ _ _
  refine run_mkX (us := []) (vs := []) (ws := []) (zs := []) (ks := []) T iC tI F1 hr hx I .nil .nil (fun s self KX hl => ?_) h.1 (fun a ha => h.2 a ha)
  exact hb s [self] KX hl
/-- C(f = e) as a value -/
theorem pe_mkXk (T : OexC X.K C) (iC : PySem.W.findIn X.K (.ref C) "__init__" = some (some (.ref fI))) (tI : PySem.W.typeIn X.K (.ref fI) = some (.type "function"))
    (F1 : FnOk X.prog X.w X.K X.mg X.base CX k fI fd ps sp) (hr : Room (k + 1) X.A) (hb : KBn X.K fd ps 1 ks (fun us ws => us ++ ws) (fun vs zs => vs ++ zs)) (hx : Passes CX X (fun _ _ _ => False)) (hg : Gl X x) (hm : X.mg x = some (.ref C)) (hkw : PK X kws tk) (hps : ps.length = ks.length + 1)
    (hdb : (x == ("__debug__" : Str)) = false := by decide) (hall : (backToKw pos (keywordEach kws X.env)).all (·.1.isSome) = true := by rfl) (hks : (backToKw pos (keywordEach kws X.env)).filterMap (·.1) = ks := by rfl)
    (hpl : ((backTo pos (starEach [] X.env)).any (·.1) || (backToKw pos (keywordEach kws X.env)).any (·.1.isNone)) = false := by rfl) :
    PE X (.Call (.Name x p) [] kws pos) (tMkX C sp tk) := by
  refine ⟨fun pins s σ H Q I h => ?_⟩
  refine wpAny_Call_Name_kw (ld_glob I hg hm ?_ hdb)
  refine PySem.W.callWith_KW0 (h₀ := X.base) I.ok.mod.kin T.kC hall (thn (hkw.run pos pins s σ H _ I h) fun ws s1 ⟨zs, H1, I1, r1, hz, q1⟩ => ⟨I1.kIn, ?_⟩) hpl
  rw [hks]
  show wpAny _ _ (call (.ref C) ([] : List Value) _) _ _ _
  refine run_mkX (us := []) (vs := []) T iC tI F1 hr hx I1 .nil r1 (fun s self KX hl => ?_) (Nat.zero_le _) (fun a ha => q1 a ha)
  have l2 : ws.length = ks.length := by
    rw [hps, List.length_cons, List.nil_append] at hl
    omega
  exact hb.to s [self] ws KX rfl l2

/-! ### the field, isinstance -/
/-- what the written part says of an error's class -/
structure ExK (K : PySem.W.Frag) (C : Addr) : Prop where
  ga : PySem.W.findIn K (.ref C) "__getattribute__" = some (some (.builtin "BaseException.__getattribute__"))
  gg : PySem.W.findIn K (.ref C) "__getattr__" = some none
  exC : PySem.W.subIn K (.ref C) (.type "BaseException") = some true
  hdC : PySem.W.hasDictIn K C = true
  ha : PySem.W.findIn K (.ref C) "__class__" = some (some (.builtin "object.__class__"))
  hn : PySem.W.specialIn K (.builtin "object.__class__") "__get__" = some (some (.builtin "getset_descriptor.__get__"))
  ht : PySem.W.takesIn K (.builtin "object.__class__") = some true
  hm : PySem.W.mroIn K C (.type "object") = some true
/-- e.f of an error that is a value -/
def tXv (K : PySem.W.Frag) (f : Str) (te : TE) : TE := fun σ H Q => te σ H fun x H1 => ∃ (a C d : Addr) (fs : List (Str × V)) (v : V), x = .ref a ∧ ExK K C ∧ PySem.W.findIn K (.ref C) f = some none ∧ H1 a = some (exo a C (some d)) ∧ H1 d = some (exd d fs) ∧ fs.lookup f = some v ∧ Q v H1
theorem pe_xv {e : Expr} {te : TE} {f : Str} {pos : Pos} (he : PE X e te) (hb : attributeBase e f X.env (eval e X.env) = eval e X.env := by rfl) : PE X (.Attribute e f pos) (tXv X.K f te) := by
  refine ⟨fun pins s σ H Q I h => ?_⟩
  refine attr_of hb (thn (he.run pins s σ H _ I h) fun u s1 hh => ?_)
  obtain ⟨x, H1, I1, rx, a, C, d, fs, v, ex, T, hno, ea, ed, l, q⟩ := hh
  subst ex
  obtain rfl : u = Value.ref a := rx
  obtain ⟨t1, ho⟩ := exo_at I1.hok ea
  obtain ⟨mA, hns, hr⟩ := exd_at I1.hok ed
  obtain ⟨od, hod, hl⟩ := lookIn_ns hns
  obtain ⟨u, hu, ru⟩ := RelO.some_of (v := v) (o := mA f) (by rw [← l]; exact hr f)
  have J : PySem.W.InstAt s1.heap a _ C (some od) := ⟨ho, rfl, rfl, hod⟩
  exact HandSPX.exc_get I1.kIn J T.ga T.gg T.exC (PySem.W.findObj_own T.hdC hno rfl (by rw [hl, hu])) (handed_of ru) ⟨v, H1, I1.tok _, ru, q⟩
/-- an error at a of the class C: with its dict, or without -/
def XAt (H : Hp) (a C : Addr) : Prop := H a = some (exo a C none) ∨ ∃ d fs, H a = some (exo a C (some d)) ∧ H d = some (exd d fs)
theorem kit_x {K : PySem.W.Frag} {a C : Addr} (T : ExK K C) (od : Option Obj) : PySem.W.KitX K (.ref a) (.ref C) (fun h => ∃ ox, PySem.W.InstAt h a ox C od) := by
  have hcl : (PySem.W.clsIn K C).isSome = true := by
    obtain ⟨cd, hc, _⟩ := PySem.W.any_some T.hdC
    rw [hc]; rfl
  have base := fun ox => PySem.W.kitx_exc (K := K) (x := a) (C := C) (ox := ox) (od := od) hcl T.ga T.gg T.exC T.ha T.hn T.ht T.hm
  exact ⟨fun M h X ⟨ox, I⟩ => (base ox).ty M h X I, fun M h X ⟨ox, I⟩ => (base ox).it M h X I, fun h tp dd its n sl X e => (base default).ne h tp dd its n sl X e, fun X ⟨ox, I⟩ q => (base ox).ca X I q⟩
/-- isinstance(e, c) of such a value -/
def rIsX (K : PySem.W.Frag) : List V → Hp → VK → Prop := fun xs H Q => ∃ (a C : Addr) (c : V) (cv : Value) (b : Bool), xs = [.ref a, c] ∧ XAt H a C ∧ ExK K C ∧ ClsV c cv ∧ PySem.W.kitOne K (.ref C) cv = some b ∧ Q (.bl b) H
theorem call_isX : CallR X (.builtin "isinstance") (rIsX X.K) := by
  intro pins s σ H xs us Q I r h
  obtain ⟨a, C, c, cv, b, rfl, hx, T, kc, e, q⟩ := h
  obtain ⟨u1, u2, rfl, r1, r2⟩ := vals2 r
  have e2 := kc.eq r2
  subst e2
  obtain rfl : u1 = Value.ref a := r1
  rcases hx with ea | ⟨d, fs, ea, ed⟩
  · obtain ⟨t1, ho⟩ := exo_at I.hok ea
    exact PySem.W.kia_one (kit_x T none) I.kIn ⟨_, ho, rfl, rfl, trivial⟩ e (fun z => nomatch z) fun tk => ⟨.bl b, H, I.tok tk, rfl, q⟩
  · obtain ⟨t1, ho⟩ := exo_at I.hok ea
    obtain ⟨mA, hns, hr⟩ := exd_at I.hok ed
    obtain ⟨od, hod, hl⟩ := lookIn_ns hns
    exact PySem.W.kia_one (kit_x T (some od)) I.kIn ⟨_, ho, rfl, rfl, hod⟩ e (fun z => nomatch z) fun tk => ⟨.bl b, H, I.tok tk, rfl, q⟩
end
end Hr

set_option maxHeartbeats 4000000
namespace Hr
open PySem PySem.Spec PyProof.Rows L2
open Evl (Ex)

/-! ### operators whatever their operands are -/
def CPowW (i j : Int) : Prop := 0 ≤ j ∧ j ≤ 64 ∧ i.natAbs.log2 < 1000000
section
variable {X : Cx}
theorem op_powW : OpR X (binaryOp .Pow) (rI CPowW fun i j => .int (i ^ j.toNat)) := opI fun i j _ _ _ _ _ hc q => by
  refine pow_int hc.1 ?_ q
  have h1 : Builtin.Int.intBits i ≤ i.natAbs.log2 + 1 := by
    unfold Builtin.Int.intBits
    split <;> omega
  have h2 := hc.2.1
  have h3 := hc.2.2
  have h4 : (Builtin.Int.intBits i : Int) ≤ 1000000 := by omega
  have h5 : (Builtin.Int.intBits i : Int) * j ≤ 1000000 * 64 := Int.mul_le_mul h4 h2 hc.1 (by decide)
  exact Int.le_trans h5 (by decide)
def rAddU (K : PySem.W.Frag) : R2 := fun x y H Q => rI0 (fun i j => .int (i + j)) x y H Q ∨ (fun x y H Q => ∃ i j, x = V.str i ∧ y = V.str j ∧ i.length + j.length ≤ sizeLine ∧ Q (V.str (i ++ j)) H) x y H Q ∨ rCat x y H Q ∨ rCatA K x y H Q
theorem op_addU : OpR X (binaryOp .Add) (rAddU X.K) := op_add.or (op_add_str.or (op_cat.or op_catA))
def rMulU : R2 := fun x y H Q => rI CMulW (fun i j => .int (i * j)) x y H Q ∨ rRep x y H Q
theorem op_mulU : OpR X (binaryOp .Mult) rMulU := op_mulW.or op_rep
/-- == of scalars, of data at any depth -/
def rEqU (K : PySem.W.Frag) : R2 := fun x y H Q => rEq x y H Q ∨ rEqD K x y H Q
def rNeU (K : PySem.W.Frag) : R2 := fun x y H Q => rNe x y H Q ∨ rNeD K x y H Q
theorem op_eqU {K : PySem.W.Frag} (hK : X.K = K) (hu : X.A.units + 64 < cLine) : OpR X (compareOp .Eq) (rEqU K) := by
  subst hK
  exact op_eq.or (op_eqD hu)
theorem op_neU {K : PySem.W.Frag} (hK : X.K = K) (hu : X.A.units + 64 < cLine) : OpR X (compareOp .NotEq) (rNeU K) := by
  subst hK
  exact op_ne.or (op_neD hu)
/-- slices -/
def rSlU (K : PySem.W.Frag) : V → Option Int → Option Int → Hp → VK → Prop := fun x lo hi H Q => rSlL K x lo hi H Q ∨ rSlA K x lo hi H Q ∨ rSlS x lo hi H Q
theorem sl_U : SlR X (rSlU X.K) := sl_list.or (sl_tupA.or sl_str)
/-- a list or a tuple walked -/
def iSeq (K : PySem.W.Frag) (tl : TE) : TI := fun σ H R => iList K tl σ H R ∨ iTup K tl σ H R
theorem pi_seq {tg l : Expr} {tl : TE} (hl : PE X l tl) : PI X tg l (iSeq X.K tl) := ⟨fun pins s σ H R I h => by
  rcases h with h | h
  · exact (pi_list hl).run pins s σ H R I h
  · exact (pi_tup hl).run pins s σ H R I h⟩
/-- isinstance of an error that is a value, of anything else -/
def rIsU (K : PySem.W.Frag) : List V → Hp → VK → Prop := fun xs H Q => rIsX K xs H Q ∨ rIsi K xs H Q
theorem call_isU : CallR X (.builtin "isinstance") (rIsU X.K) := by
  intro pins s σ H xs us Q I r h
  rcases h with h | h
  · exact call_isX pins s σ H xs us Q I r h
  · exact call_isi pins s σ H xs us Q I r h
/-- an attribute: of an instance, of an error -/
def tFldU (K : PySem.W.Frag) (f : Str) (te : TE) : TE := fun σ H Q => tFld K te f σ H Q ∨ tXv K f te σ H Q
theorem pe_fldU {e : Expr} {te : TE} {f : Str} {pos : Pos} (he : PE X e te) (hb : attributeBase e f X.env (eval e X.env) = eval e X.env := by rfl) : PE X (.Attribute e f pos) (tFldU X.K f te) := ⟨fun pins s σ H Q I h => by
  rcases h with h | h
  · exact (pe_fld he hb).run pins s σ H Q I h
  · exact (pe_xv he hb).run pins s σ H Q I h⟩
end

/-! ### the same with K named (within a comprehension the context's own K is not seen through) -/
section
variable {X : Cx} {K : PySem.W.Frag}
theorem kAdd (hK : X.K = K) : OpR X (binaryOp .Add) (rAddU K) := by
  subst hK
  exact op_addU
theorem kIxU (hK : X.K = K) : IxR X (rIx K) := by
  subst hK
  exact ix_seq
theorem kSlU (hK : X.K = K) : SlR X (rSlU K) := by
  subst hK
  exact sl_U
theorem kSeq {tg l : Expr} {tl : TE} (hK : X.K = K) (hl : PE X l tl) : PI X tg l (iSeq K tl) := by
  subst hK
  exact pi_seq hl
theorem kIs (hK : X.K = K) : CallR X (.builtin "isinstance") (rIsU K) := by
  subst hK
  exact call_isU
def rLenU (K : PySem.W.Frag) : List V → Hp → VK → Prop := fun xs H Q => ∃ x n, xs = [x] ∧ LenV K x H n ∧ Q (.int n) H
theorem kLen (hK : X.K = K) : CallR X (.builtin "len") (rLenU K) := by
  subst hK
  exact call_len
theorem kFld {e : Expr} {te : TE} {f : Str} {pos : Pos} (hK : X.K = K) (he : PE X e te) (hb : attributeBase e f X.env (eval e X.env) = eval e X.env := by rfl) : PE X (.Attribute e f pos) (tFldU K f te) := by
  subst hK
  exact pe_fldU he hb
def rListU (K : PySem.W.Frag) : List V → Hp → VK → Prop := fun xs H Q => ∃ p ys, xs = [.ref p] ∧ (SqL K H p ys ∨ SqT K H p ys) ∧ ∀ l, H l = none → Q (.ref l) (upd H l (.lst ys))
theorem kList (hK : X.K = K) : CallR X (.type "list") (rListU K) := by
  subst hK
  exact call_list_of
def rTupleU (K : PySem.W.Frag) : List V → Hp → VK → Prop := fun xs H Q => ∃ p ys, xs = [.ref p] ∧ ((SqL K H p ys ∧ ∀ l, H l = none → Q (.ref l) (upd H l (.tup ys))) ∨ (SqT K H p ys ∧ Q (.ref p) H))
theorem kTuple (hK : X.K = K) : CallR X (.type "tuple") (rTupleU K) := by
  subst hK
  exact call_tuple_of
theorem kTup {es : List Expr} {k : Nat} {t : TGs} {n : Nat} {pos : Pos} (hK : X.K = K) (hc : X.calm = true) (h : PGs X es t) (hn : (assignEach es X.env).length = n := by rfl) (hst : (assignEach es X.env).findIdx? (·.1) = none := by rfl) : PG X (.Tuple es k pos) (gTup K n t) := by
  subst hK
  exact pg_tup hc h hn hst
def rJoinU (K : PySem.W.Frag) : V → List V → Hp → VK → Prop := fun x xs H Q => ∃ a p, ∃ ys : List Str, x = .str a ∧ xs = [.ref p] ∧ (SqL K H p (ys.map V.str) ∨ SqT K H p (ys.map V.str)) ∧ (ys.map (·.length)).sum + ys.length * a.length ≤ 16777216 ∧ Q (.str (Txt.join a ys)) H
theorem kJoin {o e : Expr} {to te : TE} {apos pos : Pos} (hK : X.K = K) (ho : PE X o to) (he : PE X e te) (hs : starEach [e] X.env = [(false, eval e X.env)] := by rfl) (hbase : attributeBase o "join" X.env (eval o X.env) = eval o X.env := by rfl) (hline : (apos.endLine == pos.line) = true := by rfl) :
    PE X (.Call (.Attribute o "join" apos) [e] [] pos) (tM1 (rJoinU K) to te) := by
  subst hK
  exact pe_join ho he hs hbase hline
theorem kApp {o e : Expr} {to te : TE} {apos cpos : Pos} (hK : X.K = K) (ho : PE X o to) (he : PE X e te)
    (hbase : attributeBase o "append" X.env (eval o X.env) = eval o X.env := by rfl)
    (hfew : ((backTo cpos (starEach (e :: []) X.env)).all (fun x => !x.1) && (backToKw cpos (keywordEach [] X.env)).all (fun x => x.1.isSome)
      && decide ((e :: []).length + ([] : List Keyword).length + (if ([] : List Keyword).isEmpty then 0 else 1) < 30)) = true := by rfl)
    (hline : (apos.endLine == cpos.line) = true := by rfl) (hs : starEach (e :: []) X.env = (false, eval e X.env) :: starEach [] X.env := by rfl) (hplain : (backTo cpos (starEach [] X.env)).any (·.1) = false := by rfl) :
    PE X (.Call (.Attribute o "append" apos) (e :: []) [] cpos) (tBM K "list" rAppend to (tCons te tNil)) := by
  subst hK
  exact pe_bm PySem.F.plainAttrs_list PySem.F.slot_list_append PySem.F.type_list_append mt_append ho (pa_cons he pa_nil hs) hbase hfew hline hs hplain
end

/-! ### the draws: a list of three ints that a draw changes -/
/-- the source at s, n draws so far at most -/
def Src (H : Hp) (s : Addr) (n : Nat) : Prop := ∃ a b c : Int, H s = some (.lst [.int a, .int b, .int c]) ∧ 0 ≤ b ∧ b < 2 ^ 200 ∧ 0 ≤ c ∧ c ≤ n
theorem Src.mono {H : Hp} {s : Addr} {n m : Nat} (h : Src H s n) (l : n ≤ m) : Src H s m := by
  obtain ⟨a, b, c, h1, h2, h3, h4, h5⟩ := h
  exact ⟨a, b, c, h1, h2, h3, h4, by omega⟩
/-- all but the source is kept -/
def Kp (s : Addr) (H H' : Hp) : Prop := ∀ a o, a ≠ s → H a = some o → H' a = some o
theorem Kp.refl (s : Addr) (H : Hp) : Kp s H H := fun _ _ _ h => h
theorem Kp.trans {s : Addr} {H H1 H2 : Hp} (a : Kp s H H1) (b : Kp s H1 H2) : Kp s H H2 := fun x o n h => b x o n (a x o n h)
theorem Kp.of {s : Addr} {H H' : Hp} (h : Ex H H') : Kp s H H' := fun a o _ e => h a o e
theorem Kp.src {s : Addr} {H : Hp} {o : HO} : Kp s H (upd H s o) := fun a u n e => by rw [upd_ne n]; exact e
theorem Kp.new {s p : Addr} {H H' : Hp} {o : HO} (h : Kp s H H') (n : H' p = none) : Kp s H (upd H' p o) := fun a u m e => by
  have e' := h a u m e
  rw [upd_ne (ne_of_none e' n)]
  exact e'
/-- an object that H does not know changes -/
theorem Kp.mut {s p : Addr} {H H' : Hp} {o : HO} (h : Kp s H H') (n : H p = none) : Kp s H (upd H' p o) := fun a u m e => by
  rw [upd_ne (ne_of_none e n)]
  exact h a u m e
theorem Src.at {H : Hp} {s : Addr} {n : Nat} (h : Src H s n) : ∃ xs, H s = some (.lst xs) := by
  obtain ⟨a, b, c, e, _⟩ := h
  exact ⟨_, e⟩
theorem Src.ne {H : Hp} {s p : Addr} {n : Nat} (h : Src H s n) (e : H p = none) : s ≠ p := by
  obtain ⟨xs, q⟩ := h.at
  exact ne_of_none q e
theorem Src.upd {H : Hp} {s p : Addr} {n : Nat} {o : HO} (h : Src H s n) (e : s ≠ p) : Src (L2.upd H p o) s n := by
  obtain ⟨a, b, c, q, r⟩ := h
  exact ⟨a, b, c, by rw [upd_ne e]; exact q, r⟩
theorem log2_lt_of {i : Int} {n : Nat} (h0 : 0 < n) (h : i.natAbs < 2 ^ n) : i.natAbs.log2 < n := PySem.Flt.log2_lt_of h0 h
/-- what a draw from a source gives -/
def spDraw : Sp := fun vs H Q _ => ∃ (s : Addr) (k : Int) (n : Nat), vs = [.ref s, .int k] ∧ 0 < k ∧ k < 2 ^ 2000 ∧ Src H s n ∧ n ≤ 1000000 ∧
  ∀ (d : Int) (H' : Hp), 0 ≤ d → d < k → Kp s H H' → Src H' s (n + 1) → Q (.int d) H'
/-- a source is made of a cell of the script -/
def spSource (K : PySem.W.Frag) : Sp := fun vs H Q _ => ∃ (a : Addr) (ns : List Int) (i : Nat), vs = [.ref a, .int i] ∧ SqL K H a (ns.map V.int) ∧ i ≤ 1000 ∧
  ∀ (s : Addr) (H' : Hp), H s = none → Ex H H' → Src H' s 0 → Q (.ref s) H'
theorem cpow_lit {i j : Int} (h1 : 0 ≤ j) (h2 : j ≤ 64) (h3 : i.natAbs.log2 < 1000000) : CPowW i j := ⟨h1, h2, h3⟩
theorem cmul_of {i j : Int} {a b : Nat} (ha : i.natAbs < 2 ^ a) (hb : j.natAbs < 2 ^ b) (h0 : 0 < a := by decide) (h1 : 0 < b := by decide) (h : a + b ≤ 1000000 := by decide) : CMulW i j := wide_mul ha hb h0 h1 h
theorem at_nat {xs : List V} {j : Nat} {v : V} (h : xs[j]? = some v) : atI xs (j : Int) = some v := atI_nat h
theorem Src.kp {s : Addr} {H : Hp} {n : Nat} (a b c : Int) (h1 : 0 ≤ b) (h2 : b < 2 ^ 200) (h3 : 0 ≤ c) (h4 : c ≤ n) : Src (L2.upd H s (.lst [.int a, .int b, .int c])) s n := ⟨a, b, c, upd_same, h1, h2, h3, h4⟩
end Hr

set_option maxHeartbeats 4000000
namespace Hr
open PySem PySem.Spec PyProof.Rows L2

/-- all that the top has written of an own error's class: at C, its __init__ at fI (fd), the cell of __class__ at cc, the code at cda -/
structure ErrT (K : PySem.W.Frag) (mg : Str → Option Value) (prog : Program) (name qual : Str) (ps : List Str) (st : Stmt) (C fI cc cda : Addr) (fd : FuncData) : Prop where
  sup : SupC K mg prog C fI cc cda "self"
  ex : ExK K C
  gC : mg name = some (.ref C)
  iC : PySem.W.findIn K (.ref C) "__init__" = some (some (.ref fI))
  tI : PySem.W.typeIn K (.ref fI) = some (.type "function")
  fn : ∃ (oc : Value) (od : Option Addr) (kV doc pm : Value) (an : Option Addr) (ct : Value) (osl : Array (Option Value)),
    fd = PySem.W.ksFn "__init__" qual (defArgs st) (defBody st) (defScope st) .none kV doc pm an (.ref cda) ct cc ∧ K.lookup fI = some ⟨oc, od, .func fd, osl⟩ ∧ PySem.W.codeIn K (.ref cda) qual = true
  noF : ∀ f ∈ ps.drop 1, PySem.W.findIn K (.ref C) f = some none
theorem ErrT.oex {K mg prog name qual ps st C fI cc cda fd} (E : ErrT K mg prog name qual ps st C fI cc cda fd) : OexC K C := E.sup.oex
/-- a value that an f-string shows -/
def FmtOk (y : V) : Prop := (∃ z : Str, y = .str z ∧ z.length ≤ 1000) ∨ ∃ i : Int, y = .int i ∧ i.natAbs.log2 < 1920
/-- C(y): its own __init__ stores y as f -/
def spErr (C : Addr) (f : Str) : Sp := fun vs H Q _ => ∃ (a : Addr) (y : V), vs = [.ref a, y] ∧ FmtOk y ∧ H a = some (exo a C none) ∧
  ∀ dx, H dx = none → dx ≠ a → Q .non (upd (upd H dx (exd dx [(f, y)])) a (exo a C (some dx)))
def spErr0 (C : Addr) : Sp := fun vs H Q _ => ∃ a : Addr, vs = [.ref a] ∧ H a = some (exo a C none) ∧ Q .non H
theorem str_len {i : Int} (h : i.natAbs.log2 < 1920) : (Str.ofString (toString i)).length ≤ 2000 := by
  have e := int_text_length_le (k := 1920) (by decide) h
  rw [PySem.ofString_length]; omega
theorem fmt_reads {σ : L2.St} {H : Hp} {Q : VK} {te : TE} {y : V} (h : FmtOk y) (ht : ∀ R : VK, R y H → te σ H R) (q : ∀ z : Str, z.length ≤ 2000 → Q (.str z) H) : tFmt te σ H Q := by
  refine ht _ ?_
  rcases h with ⟨z, rfl, hz⟩ | ⟨i, rfl, hi⟩
  · exact .inl ⟨z, rfl, by rw [sizeLine_eq]; omega, q z (by omega)⟩
  · exact .inr ⟨i, rfl, hi, q _ (str_len hi)⟩
theorem rd_err1 {K : PySem.W.Frag} {C a : Addr} {f lit : Str} {y : V} {H : Hp} {Q : VK} {rest : L2.St} (T : OexC K C) (hno : PySem.W.findIn K (.ref C) f = some none) (hlit : lit.length ≤ 1000) (hy : FmtOk y) (ha : H a = some (exo a C none))
    (k : ∀ dx, H dx = none → dx ≠ a → Q .non (upd (upd H dx (exd dx [(f, y)])) a (exo a C (some dx)))) :
    tSeq (tSup C (tCons (fun σ H Q => tJs [tC (.str lit), tFmt (tVar 1)] Str.empty σ H fun out H1 => Q (.str out) H1) tNil)) (tOst K f (tVar 0) (tVar 1)) { nx := fun _ H' => Q .non H', rt := Q } (some (.ref a) :: some y :: rest) H := by
  refine ⟨a, rfl, ha, ?_⟩
  refine ⟨lit, rfl, ?_, fmt_reads hy (fun R r => ⟨y, rfl, r⟩) fun z hz => ⟨z, rfl, ?_, ?_⟩⟩
  · show (Str.empty ++ lit).length ≤ sizeLine
    rw [Str.length_append, sizeLine_eq]
    show 0 + lit.length ≤ _
    omega
  · show (Str.empty ++ lit ++ z).length ≤ sizeLine
    rw [Str.length_append, Str.length_append, sizeLine_eq]
    show 0 + lit.length + z.length ≤ _
    omega
  · refine ⟨by show 1 ≤ 1000; decide, ha, ?_⟩
    exact ⟨y, rfl, .ref a, rfl, a, C, rfl, T, hno, .inl ⟨ha, fun dx n1 n2 => k dx n1 n2⟩⟩
theorem emod_lt_200 (z : Int) (i : Nat) (hi : i ≤ 1000) : 0 ≤ z % (10 ^ 37 + 43) + 1299709 * (i : Int) ∧ z % (10 ^ 37 + 43) + 1299709 * (i : Int) < 2 ^ 200 := by
  have h1 := Int.emod_nonneg z (show (10 ^ 37 + 43 : Int) ≠ 0 by decide)
  have h2 := Int.emod_lt_of_pos z (show (0 : Int) < 10 ^ 37 + 43 by decide)
  have h3 : (10 ^ 37 + 43 : Int) + 1299709 * 1000 < 2 ^ 200 := by decide
  omega
theorem source_end {H : Hp} {Q : VK} {x z : Int} {i : Nat} (k : ∀ (s : Addr) (H' : Hp), H s = none → Evl.Ex H H' → Src H' s 0 → Q (.ref s) H') (hi : i ≤ 1000) :
    [V.int x, V.int (z % (10 ^ (37 : Int).toNat + 43) + 1299709 * (i : Int)), V.int 0].length ≤ sizeLine ∧ ∀ p, H p = none → Q (.ref p) (upd H p (.lst [V.int x, V.int (z % (10 ^ (37 : Int).toNat + 43) + 1299709 * (i : Int)), V.int 0])) :=
  ⟨by show 3 ≤ sizeLine; decide, fun p hp => k p _ hp (Evl.Ex.new hp) (Src.kp _ _ _ (emod_lt_200 z i hi).1 (emod_lt_200 z i hi).2 (Int.le_refl 0) (Int.le_refl 0))⟩
theorem natAbs_lt {k : Int} {n : Nat} (h0 : 0 < k) (h : k < 2 ^ n) : k.natAbs < 2 ^ n := by
  have e : ((k.natAbs : Nat) : Int) = k := Int.natAbs_of_nonneg (by omega)
  have h2 : ((k.natAbs : Nat) : Int) < ((2 ^ n : Nat) : Int) := by
    rw [e]
    simpa using h
  exact Int.ofNat_lt.mp h2
theorem natAbs_lt64 {k : Int} (h0 : 0 ≤ k) (h : k < 2 ^ 64) : k.natAbs < 2 ^ 64 := by omega
theorem cpow_of {i j : Int} {n : Nat} (h1 : 0 ≤ j) (h2 : j ≤ 64) (h : i.natAbs < 2 ^ n) (h0 : 0 < n) (hn : n ≤ 1000000) : CPowW i j := ⟨h1, h2, Nat.lt_of_lt_of_le (log2_lt_of h0 h) hn⟩
theorem draw_b {b c : Int} (b0 : 0 ≤ b) (b1 : b < 2 ^ 200) (c0 : 0 ≤ c) (c1 : c ≤ 1000000) : (b + 15485863 * (c + 1)).natAbs < 2 ^ 201 := by
  have h : (2 : Int) ^ 200 + 15485863 * 1000001 < 2 ^ 201 := by decide
  have h2 : b + 15485863 * (c + 1) < 2 ^ 201 := by omega
  have h3 : 0 ≤ b + 15485863 * (c + 1) := by omega
  have e : (((b + 15485863 * (c + 1)).natAbs : Nat) : Int) = b + 15485863 * (c + 1) := Int.natAbs_of_nonneg h3
  have q : (((b + 15485863 * (c + 1)).natAbs : Nat) : Int) < ((2 ^ 201 : Nat) : Int) := by
    rw [e]
    simpa using h2
  exact Int.ofNat_lt.mp q
theorem draw_m {m c : Int} (b0 : 0 ≤ m) (b1 : m < 10 ^ (35 : Int).toNat + 69) (c0 : 0 ≤ c) (c1 : c ≤ 1000000) : (m + 32452843 * (c + 1)).natAbs < 2 ^ 201 := by
  have h : ((10 : Int) ^ (35 : Int).toNat + 69) + 32452843 * 1000001 < 2 ^ 201 := by decide
  have h2 : m + 32452843 * (c + 1) < 2 ^ 201 := by omega
  have h3 : 0 ≤ m + 32452843 * (c + 1) := by omega
  have e : (((m + 32452843 * (c + 1)).natAbs : Nat) : Int) = m + 32452843 * (c + 1) := Int.natAbs_of_nonneg h3
  have q : (((m + 32452843 * (c + 1)).natAbs : Nat) : Int) < ((2 ^ 201 : Nat) : Int) := by
    rw [e]
    simpa using h2
  exact Int.ofNat_lt.mp q
theorem rd_err0 {C a : Addr} {lit : Str} {H : Hp} {Q : VK} {rest : L2.St} (ha : H a = some (exo a C none)) (k : Q .non H) :
    tSeq (tSup C (tCons (tC (.str lit)) tNil)) tNext { nx := fun _ H' => Q .non H', rt := Q } (some (.ref a) :: rest) H :=
  ⟨a, rfl, ha, by show 1 ≤ 1000; decide, ha, k⟩
end Hr

set_option maxHeartbeats 4000000
/-! data within the heap, comprehensions that make data -/
namespace Hr
open PySem PySem.Spec PyProof.Rows L2
open Evl (Ex)

mutual
theorem dp_ex {K : PySem.W.Frag} {H H' : Hp} (e : Ex H H') : ∀ (d : PyData) (v : V), Dp K H v d → Dp K H' v d
  | .none, _, h => by cases h; exact .non
  | .bool b, _, h => by cases h; exact .bl b
  | .int i, _, h => by cases h; exact .int i
  | .str x, _, h => by cases h; exact .str x
  | .list ds, _, h => by
    cases h with
    | lst h1 h2 => exact .lst (Evl.ex_l e h1) (dpAll_ex e ds _ h2)
  | .tuple ds, _, h => by
    cases h with
    | tup h1 h2 => exact .tup (Evl.ex_t e h1) (dpAll_ex e ds _ h2)
  | .dict _, _, h => by cases h
theorem dpAll_ex {K : PySem.W.Frag} {H H' : Hp} (e : Ex H H') : ∀ (ds : List PyData) (vs : List V), DpAll K H vs ds → DpAll K H' vs ds
  | [], _, h => by cases h; exact .nil
  | d :: ds, _, h => by
    cases h with
    | cons h1 h2 => exact .cons (dp_ex e d _ h1) (dpAll_ex e ds _ h2)
end
theorem _root_.L2.Dp.ex' {K : PySem.W.Frag} {H H' : Hp} {d : PyData} {v : V} (h : Dp K H v d) (e : Ex H H') : Dp K H' v d := dp_ex e d v h
theorem _root_.L2.DpAll.ex' {K : PySem.W.Frag} {H H' : Hp} {ds : List PyData} {vs : List V} (h : DpAll K H vs ds) (e : Ex H H') : DpAll K H' vs ds := dpAll_ex e ds vs h
theorem _root_.L2.DpAll.snoc {K : PySem.W.Frag} {H : Hp} {v : V} {d : PyData} : ∀ {vs : List V} {ds : List PyData}, DpAll K H vs ds → Dp K H v d → DpAll K H (vs ++ [v]) (ds ++ [d])
  | _, _, .nil, h => .cons h .nil
  | _, _, .cons h1 h2, h => .cons h1 (L2.DpAll.snoc h2 h)
theorem _root_.L2.DpAll.len {K : PySem.W.Frag} {H : Hp} : ∀ {vs : List V} {ds : List PyData}, DpAll K H vs ds → vs.length = ds.length
  | _, _, .nil => rfl
  | _, _, .cons _ h => congrArg Nat.succ (L2.DpAll.len h)
theorem _root_.L2.DpAll.get {K : PySem.W.Frag} {H : Hp} : ∀ {vs : List V} {ds : List PyData} {i : Nat} {d : PyData}, DpAll K H vs ds → ds[i]? = some d → ∃ v, vs[i]? = some v ∧ Dp K H v d
  | _, _, _, _, .nil, e => by simp at e
  | _, _, 0, d, .cons (v := v) h _, e => by
    have e' := Option.some.inj e
    subst e'
    exact ⟨v, rfl, h⟩
  | _, _, i + 1, d, .cons _ h, e => by
    obtain ⟨v, h1, h2⟩ := L2.DpAll.get (i := i) h (by simpa using e)
    exact ⟨v, by simpa using h1, h2⟩
theorem _root_.L2.DpAll.getV {K : PySem.W.Frag} {H : Hp} {vs : List V} {ds : List PyData} {i : Nat} {v : V} (h : DpAll K H vs ds) (e : vs[i]? = some v) : ∃ d, ds[i]? = some d ∧ Dp K H v d := by
  have hi : i < ds.length := by
    rw [← h.len]
    exact (List.getElem?_eq_some_iff.mp e).1
  obtain ⟨v', h1, h2⟩ := h.get (List.getElem?_eq_getElem hi)
  rw [e] at h1
  cases h1
  exact ⟨_, List.getElem?_eq_getElem hi, h2⟩
/-- ints, texts, truth values as data -/
theorem dpAll_int {K : PySem.W.Frag} {H : Hp} : ∀ ns : List Int, DpAll K H (ns.map V.int) (ns.map PyData.int)
  | [] => .nil
  | n :: r => .cons (.int n) (dpAll_int r)
theorem dpAll_str {K : PySem.W.Frag} {H : Hp} : ∀ ns : List Str, DpAll K H (ns.map V.str) (ns.map PyData.str)
  | [] => .nil
  | n :: r => .cons (.str n) (dpAll_str r)
theorem dpAll_bl {K : PySem.W.Frag} {H : Hp} : ∀ ns : List Bool, DpAll K H (ns.map V.bl) (ns.map PyData.bool)
  | [] => .nil
  | n :: r => .cons (.bl n) (dpAll_bl r)

/-- the heap without what stands at D -/
def msk (H : Hp) (D : Addr) : Hp := fun a => if a = D then none else H a
theorem msk_same {H : Hp} {D : Addr} : msk H D D = none := if_pos rfl
theorem msk_ne {H : Hp} {D a : Addr} (h : a ≠ D) : msk H D a = H a := if_neg h
theorem msk_ex {H : Hp} {D : Addr} : Ex (msk H D) H := fun a o e => by
  by_cases h : a = D
  · rw [h, msk_same] at e
    cases e
  · rw [msk_ne h] at e
    exact e
theorem ex_msk {H H' : Hp} {D : Addr} (e : ∀ a o, a ≠ D → H a = some o → H' a = some o) : Ex (msk H D) (msk H' D) := fun a o h => by
  by_cases q : a = D
  · rw [q, msk_same] at h
    cases h
  · rw [msk_ne q] at h ⊢
    exact e a o q h
theorem ex_to_msk {H H' : Hp} {D : Addr} (e : Ex H H') (n : H D = none) : Ex H (msk H' D) := fun a o h => by
  rw [msk_ne (ne_of_none h n)]
  exact e a o h
theorem Ex.kpD {H H' : Hp} (e : Ex H H') (D : Addr) : ∀ a o, a ≠ D → H a = some o → H' a = some o := fun a o _ h => e a o h

section
variable {K : PySem.W.Frag} {lo : Int} {n j : Nat} {te : TE} {vs : List Nat} {σ : L2.St} {H1 : Hp} {D : Addr} {Qd : Hp → Prop}
/-- [te for x in range(..)], nothing changed by te: f i tells the data of the i-th -/
theorem lcD_range (f : Nat → PyData → Prop) (nD : H1 D = none) (hn : n < sizeLine) (hw : ∀ v, wipe ((wipe σ vs).set j (some v)) vs = wipe σ vs)
    (hs : ∀ i H (R : VK), i < n → Ex H1 H → H D ≠ none → (∀ v d H2, f i d → Ex H H2 → Dp K (msk H2 D) v d → R v H2) → te ((wipe σ vs).set j (some (.int (lo + i)))) H R)
    (hd : ∀ H xs ds, Ex H1 H → H D = some (.lst xs) → DpAll K (msk H D) xs ds → ds.length = n → (∀ i d, ds[i]? = some d → f i d) → Qd H) :
    ∃ W : Nat → Nat → Hp → Prop, (∃ m, W 0 m (upd H1 D (.lst []))) ∧ ∀ i m H, W i m H →
      ((Itr lo n).stop i H ∧ Qd H) ∨ ((Itr lo n).go i H ∧ ∃ Nx : Hp → Prop, (∀ H', Nx H' → ∃ m', m' < m ∧ W (i + 1) m' H') ∧ ∀ x H', (Itr lo n).yld i H x H' → gName j x (wipe σ vs) H' fun σ2 H2 => wipe σ2 vs = wipe σ vs ∧ tYes σ2 H2 fun b H3 =>
        if b = true then te σ2 H3 fun y H4 => ∃ acc, H4 D = some (.lst acc) ∧ acc.length < sizeLine ∧ Nx (upd H4 D (.lst (acc ++ [y]))) else Nx H3) := by
  refine lc_range (lo := lo) (n := n) (fun i H => i ≤ n ∧ Ex H1 H ∧ ∃ xs ds, H D = some (.lst xs) ∧ DpAll K (msk H D) xs ds ∧ ds.length = i ∧ ∀ k d, ds[k]? = some d → f k d) ⟨Nat.zero_le _, Ex.new nD, [], [], upd_same, .nil, rfl, fun k d e => by simp at e⟩ ?_ ?_
  · rintro i H hi ⟨_, e, xs, ds, hD, ha, hl, hf⟩
    refine ⟨hw _, ?_⟩
    refine show te (List.set (wipe σ vs) j (some (V.int (lo + ↑i)))) H _ from (hs i H _ hi e (by rw [hD]; exact fun z => nomatch z) fun v d H2 fd e2 hv => ?_)
    refine ⟨xs, e2 _ _ hD, by rw [ha.len, hl]; omega, hi, fun a o h => ?_, xs ++ [v], ds ++ [d], upd_same, ?_, ?_, fun k d' hk => ?_⟩
    · rw [upd_ne (ne_of_none h nD)]
      exact e2 _ _ (e _ _ h)
    · have q : Ex (msk H2 D) (msk (upd H2 D (.lst (xs ++ [v]))) D) := ex_msk fun a o na h => by rw [upd_ne na]; exact h
      exact ((ha.ex' (ex_msk fun a o na h => e2 a o h)).ex' q).snoc (hv.ex' q)
    · rw [List.length_append, hl]; rfl
    · by_cases hk2 : k < ds.length
      · rw [List.getElem?_append_left hk2] at hk
        exact hf k d' hk
      · rw [List.getElem?_append_right (by omega)] at hk
        have hk3 : k - ds.length = 0 := by
          by_cases z : k - ds.length = 0
          · exact z
          · rw [List.getElem?_eq_none (by show 1 ≤ _; omega)] at hk
            cases hk
        rw [hk3] at hk
        have hk4 : d = d' := Option.some.inj hk
        subst hk4
        have : k = i := by omega
        rw [this]
        exact fd
  · rintro H ⟨_, e, xs, ds, hD, ha, hl, hf⟩
    exact hd H xs ds e hD ha hl hf
/-- .. drawing: at most m draws a turn -/
theorem lcS_range {s : Addr} {N m : Nat} (f : Nat → PyData → Prop) (nD : H1 D = none) (hn : n < sizeLine) (hS : Src H1 s N) (hw : ∀ v, wipe ((wipe σ vs).set j (some v)) vs = wipe σ vs)
    (hs : ∀ i H (R : VK), i < n → Kp s H1 H → Src H s (N + m * i) → H D ≠ none → s ≠ D → (∀ v d H2, f i d → Kp s H H2 → Src H2 s (N + m * i + m) → Dp K (msk (msk H2 s) D) v d → R v H2) → te ((wipe σ vs).set j (some (.int (lo + i)))) H R)
    (hd : ∀ H xs ds, Kp s H1 H → Src H s (N + m * n) → H D = some (.lst xs) → DpAll K (msk (msk H s) D) xs ds → s ≠ D → ds.length = n → (∀ i d, ds[i]? = some d → f i d) → Qd H) :
    ∃ W : Nat → Nat → Hp → Prop, (∃ m, W 0 m (upd H1 D (.lst []))) ∧ ∀ i m H, W i m H →
      ((Itr lo n).stop i H ∧ Qd H) ∨ ((Itr lo n).go i H ∧ ∃ Nx : Hp → Prop, (∀ H', Nx H' → ∃ m', m' < m ∧ W (i + 1) m' H') ∧ ∀ x H', (Itr lo n).yld i H x H' → gName j x (wipe σ vs) H' fun σ2 H2 => wipe σ2 vs = wipe σ vs ∧ tYes σ2 H2 fun b H3 =>
        if b = true then te σ2 H3 fun y H4 => ∃ acc, H4 D = some (.lst acc) ∧ acc.length < sizeLine ∧ Nx (upd H4 D (.lst (acc ++ [y]))) else Nx H3) := by
  have nsD : s ≠ D := hS.ne nD
  refine lc_range (lo := lo) (n := n) (fun i H => i ≤ n ∧ Kp s H1 H ∧ Src H s (N + m * i) ∧ ∃ xs ds, H D = some (.lst xs) ∧ DpAll K (msk (msk H s) D) xs ds ∧ ds.length = i ∧ ∀ k d, ds[k]? = some d → f k d)
    ⟨Nat.zero_le _, Kp.of (Ex.new nD), (hS.upd nsD).mono (by omega), [], [], upd_same, .nil, rfl, fun k d e => by simp at e⟩ ?_ ?_
  · rintro i H hi ⟨_, e, hSi, xs, ds, hD, ha, hl, hf⟩
    refine ⟨hw _, ?_⟩
    refine show te (List.set (wipe σ vs) j (some (V.int (lo + ↑i)))) H _ from (hs i H _ hi e hSi (by rw [hD]; exact fun z => nomatch z) nsD fun v d H2 fd e2 hS2 hv => ?_)
    have hD2 : H2 D = some (.lst xs) := e2 _ _ nsD.symm hD
    refine ⟨xs, hD2, by rw [ha.len, hl]; omega, hi, fun a o na h => ?_, ?_, xs ++ [v], ds ++ [d], upd_same, ?_, ?_, fun k d' hk => ?_⟩
    · rw [upd_ne (ne_of_none h nD)]
      exact e2 _ _ na (e _ _ na h)
    · have q := hS2.upd (o := .lst (xs ++ [v])) nsD
      rw [show N + m * (i + 1) = N + m * i + m by rw [Nat.mul_succ]; omega]
      exact q
    · have q : Ex (msk (msk H2 s) D) (msk (msk (upd H2 D (.lst (xs ++ [v]))) s) D) := ex_msk fun a o na h => by
        by_cases z : a = s
        · rw [z, msk_same] at h
          cases h
        · rw [msk_ne z] at h ⊢
          rw [upd_ne na]
          exact h
      exact ((ha.ex' (ex_msk fun a o na h => by
        by_cases z : a = s
        · rw [z, msk_same] at h
          cases h
        · rw [msk_ne z] at h ⊢
          exact e2 a o z h)).ex' q).snoc (hv.ex' q)
    · rw [List.length_append, hl]; rfl
    · by_cases hk2 : k < ds.length
      · rw [List.getElem?_append_left hk2] at hk
        exact hf k d' hk
      · rw [List.getElem?_append_right (by omega)] at hk
        have hk3 : k - ds.length = 0 := by
          by_cases z : k - ds.length = 0
          · exact z
          · rw [List.getElem?_eq_none (by show 1 ≤ _; omega)] at hk
            cases hk
        rw [hk3] at hk
        have hk4 : d = d' := Option.some.inj hk
        subst hk4
        have : k = i := by omega
        rw [this]
        exact fd
  · rintro H ⟨_, e, hSn, xs, ds, hD, ha, hl, hf⟩
    exact hd H xs ds e hSn hD ha nsD hl hf
/-- [te for x in xs], xs a list that stands -/
theorem lcD_list {a : Addr} {ys : List V} (f : Nat → PyData → Prop) (nD : H1 D = none) (hL : SqL K H1 a ys) (hn : ys.length < sizeLine) (hw : ∀ v, wipe ((wipe σ vs).set j (some v)) vs = wipe σ vs)
    (hs : ∀ i x H (R : VK), ys[i]? = some x → Ex H1 H → H D ≠ none → (∀ v d H2, f i d → Ex H H2 → Dp K (msk H2 D) v d → R v H2) → te ((wipe σ vs).set j (some x)) H R)
    (hd : ∀ H xs ds, Ex H1 H → H D = some (.lst xs) → DpAll K (msk H D) xs ds → ds.length = ys.length → (∀ i d, ds[i]? = some d → f i d) → Qd H) :
    ∃ W : Nat → Nat → Hp → Prop, (∃ m, W 0 m (upd H1 D (.lst []))) ∧ ∀ i m H, W i m H →
      ((Itl K a).stop i H ∧ Qd H) ∨ ((Itl K a).go i H ∧ ∃ Nx : Hp → Prop, (∀ H', Nx H' → ∃ m', m' < m ∧ W (i + 1) m' H') ∧ ∀ x H', (Itl K a).yld i H x H' → gName j x (wipe σ vs) H' fun σ2 H2 => wipe σ2 vs = wipe σ vs ∧ tYes σ2 H2 fun b H3 =>
        if b = true then te σ2 H3 fun y H4 => ∃ acc, H4 D = some (.lst acc) ∧ acc.length < sizeLine ∧ Nx (upd H4 D (.lst (acc ++ [y]))) else Nx H3) := by
  refine lc_list (K := K) (a := a) (xs := ys) (fun i H => i ≤ ys.length ∧ Ex H1 H ∧ ∃ xs ds, H D = some (.lst xs) ∧ DpAll K (msk H D) xs ds ∧ ds.length = i ∧ ∀ k d, ds[k]? = some d → f k d) ⟨Nat.zero_le _, Ex.new nD, [], [], upd_same, .nil, rfl, fun k d e => by simp at e⟩ (fun i H _ h => Evl.ex_l h.2.1 hL) ?_ ?_
  · rintro i x H hx ⟨_, e, xs, ds, hD, ha, hl, hf⟩
    have hi : i < ys.length := (List.getElem?_eq_some_iff.mp hx).1
    refine ⟨hw _, ?_⟩
    refine show te (List.set (wipe σ vs) j (some x)) H _ from (hs i x H _ hx e (by rw [hD]; exact fun z => nomatch z) fun v d H2 fd e2 hv => ?_)
    refine ⟨xs, e2 _ _ hD, by rw [ha.len, hl]; omega, hi, fun a o h => ?_, xs ++ [v], ds ++ [d], upd_same, ?_, ?_, fun k d' hk => ?_⟩
    · rw [upd_ne (ne_of_none h nD)]
      exact e2 _ _ (e _ _ h)
    · have q : Ex (msk H2 D) (msk (upd H2 D (.lst (xs ++ [v]))) D) := ex_msk fun a o na h => by rw [upd_ne na]; exact h
      exact ((ha.ex' (ex_msk fun a o na h => e2 a o h)).ex' q).snoc (hv.ex' q)
    · rw [List.length_append, hl]; rfl
    · by_cases hk2 : k < ds.length
      · rw [List.getElem?_append_left hk2] at hk
        exact hf k d' hk
      · rw [List.getElem?_append_right (by omega)] at hk
        have hk3 : k - ds.length = 0 := by
          by_cases z : k - ds.length = 0
          · exact z
          · rw [List.getElem?_eq_none (by show 1 ≤ _; omega)] at hk
            cases hk
        rw [hk3] at hk
        have hk4 : d = d' := Option.some.inj hk
        subst hk4
        have : k = i := by omega
        rw [this]
        exact fd
  · rintro H ⟨_, e, xs, ds, hD, ha, hl, hf⟩
    exact hd H xs ds e hD ha hl hf
end
/-- plain items stand in every heap -/
def flatD : PyData → Bool
  | .none | .bool _ | .int _ | .str _ => true
  | _ => false
theorem dp_flat {K : PySem.W.Frag} {H H' : Hp} {d : PyData} {v : V} (h : Dp K H v d) (f : flatD d = true) : Dp K H' v d := by
  cases h with
  | non => exact .non
  | bl b => exact .bl b
  | int i => exact .int i
  | str x => exact .str x
  | lst _ _ => cases f
  | tup _ _ => cases f
theorem dpAll_flat {K : PySem.W.Frag} {H H' : Hp} : ∀ {vs : List V} {ds : List PyData}, DpAll K H vs ds → (∀ d ∈ ds, flatD d = true) → DpAll K H' vs ds
  | _, _, .nil, _ => .nil
  | _, _, .cons h1 h2, f => .cons (dp_flat h1 (f _ List.mem_cons_self)) (dpAll_flat h2 fun d m => f d (List.mem_cons_of_mem _ m))
theorem strs_of {K : PySem.W.Frag} {H : Hp} {Pz : Str → Prop} : ∀ {vs : List V} {ds : List PyData}, DpAll K H vs ds → (∀ (i : Nat) (d : PyData), ds[i]? = some d → ∃ z : Str, d = PyData.str z ∧ Pz z) → ∃ ys : List Str, vs = ys.map V.str ∧ ys.length = ds.length ∧ ∀ z ∈ ys, Pz z
  | _, _, .nil, _ => ⟨[], rfl, rfl, fun z h => by cases h⟩
  | _, _, .cons h1 h2, f => by
    obtain ⟨z, e, pz⟩ := f 0 _ rfl
    subst e
    cases h1
    obtain ⟨ys, rfl, hl, ha⟩ := strs_of h2 fun i d e => f (i + 1) d (by simpa using e)
    exact ⟨z :: ys, rfl, congrArg Nat.succ hl, fun w hw => by
      rcases List.mem_cons.mp hw with rfl | hw
      · exact pz
      · exact ha w hw⟩
theorem sum_len1 : ∀ ys : List Str, (∀ z ∈ ys, z.length = 1) → (ys.map (·.length)).sum = ys.length
  | [], _ => rfl
  | y :: r, h => by
    rw [List.map_cons, List.sum_cons, h y List.mem_cons_self, sum_len1 r fun z m => h z (List.mem_cons_of_mem _ m), List.length_cons]
    omega
theorem join_len (ys : List Str) (h : ∀ z ∈ ys, z.length = 1) : (Txt.join Str.empty ys).length ≤ ys.length := by
  have q := StrLaws.join_length_le Str.empty ys
  rw [sum_len1 ys h] at q
  rw [TL.join_eq]
  have z : (Str.empty : Str).length = 0 := rfl
  rw [z, Nat.mul_zero] at q
  exact q
theorem strOk_append (a b : Str) : PyData.strOk (a ++ b) = (PyData.strOk a && PyData.strOk b) := by
  show (a.cps ++ b.cps).all (· < 0x110000) = _
  rw [Array.all_append]
  rfl
theorem strOk_join {sep : Str} (hs : PyData.strOk sep = true) : ∀ ys : List Str, (∀ z ∈ ys, PyData.strOk z = true) → PyData.strOk (Txt.join sep ys) = true := by
  intro ys h
  rw [TL.join_eq]
  induction ys with
  | nil =>
    show PyData.strOk Str.empty = true
    decide +kernel
  | cons x r ih =>
    cases r with
    | nil => exact h x List.mem_cons_self
    | cons y r =>
      show PyData.strOk (x ++ sep ++ Str.join sep (y :: r)) = true
      rw [strOk_append, strOk_append, h x List.mem_cons_self, hs, ih fun z m => h z (List.mem_cons_of_mem _ m)]
      rfl
/-- what is told of each place is told of the whole -/
theorem list_of {α : Type} {ds : List α} {n : Nat} {F : Nat → α} (hl : ds.length = n) (h : ∀ i d, ds[i]? = some d → d = F i) : ds = (List.range n).map F := by
  apply List.ext_getElem?
  intro i
  by_cases hi : i < ds.length
  · rw [List.getElem?_eq_getElem hi, List.getElem?_map, List.getElem?_range (by omega)]
    rw [h i _ (List.getElem?_eq_getElem hi)]
    rfl
  · rw [List.getElem?_eq_none (by omega), List.getElem?_eq_none (by rw [List.length_map, List.length_range]; omega)]

/-! ### one reading from its head -/
section
variable {D : Ends} {σ : L2.St} {H : Hp} {t u : TS} {te : TE} {ta : TA} {tt : TT} {g : TG} {i : Nat} {Q : VK} {QA : List V → Hp → Prop} {QT : Bool → Hp → Prop} {r : R2} {ta' tb' : TE}
theorem hSeq (h : t { D with nx := u D } σ H) : tSeq t u D σ H := h
theorem hAsg (h : te σ H fun x H1 => D.nx (σ.set i (some x)) H1) : tAsg te (gName i) D σ H := h
theorem hGN {v : V} {QQ : L2.St → Hp → Prop} (h : QQ (σ.set i (some v)) H) : gName i v σ H QQ := h
theorem hLst (h : ta σ H fun xs H1 => xs.length ≤ sizeLine ∧ ∀ p, H1 p = none → Q (.ref p) (upd H1 p (.lst xs))) : tLst ta σ H Q := h
theorem hTup (h : ta σ H fun xs H1 => xs.length ≤ sizeLine ∧ ∀ p, H1 p = none → Q (.ref p) (upd H1 p (.tup xs))) : tTup ta σ H Q := h
theorem hCons (h : te σ H fun x H1 => ta σ H1 fun xs H2 => QA (x :: xs) H2) : tCons te ta σ H QA := h
theorem hNil (h : QA [] H) : tNil σ H QA := h
theorem hOp (h : ta' σ H fun x H1 => tb' σ H1 fun y H2 => r x y H2 Q) : tOp r ta' tb' σ H Q := h
theorem hVar {v : V} (e : σ[i]? = some (some v)) (h : Q v H) : tVar i σ H Q := ⟨v, e, h⟩
theorem hIf (h : tt σ H fun b H1 => if b = true then t D σ H1 else u D σ H1) : tIfS tt t u D σ H := h
theorem hTest (h : te σ H fun x H' => ∃ k, x = .bl k ∧ QT k H') : tTest te σ H QT := h
theorem hRet (h : te σ H D.rt) : tRet te D σ H := h
theorem hNext (h : D.nx σ H) : tNext D σ H := h
end

/-! ### errors that are values -/
def ErrAt (H : Hp) (a C : Addr) (f : Str) (y : V) : Prop := ∃ d, H a = some (exo a C (some d)) ∧ H d = some (exd d [(f, y)])
theorem ErrAt.ex {H H' : Hp} {a C : Addr} {f : Str} {y : V} (h : ErrAt H a C f y) (e : Ex H H') : ErrAt H' a C f y := by
  obtain ⟨d, h1, h2⟩ := h
  exact ⟨d, e _ _ h1, e _ _ h2⟩
theorem ErrAt.xat {H : Hp} {a C : Addr} {f : Str} {y : V} (h : ErrAt H a C f y) : XAt H a C := by
  obtain ⟨d, h1, h2⟩ := h
  exact .inr ⟨d, _, h1, h2⟩
theorem XAt.ex {H H' : Hp} {a C : Addr} (h : XAt H a C) (e : Ex H H') : XAt H' a C := by
  rcases h with h | ⟨d, fs, h1, h2⟩
  · exact .inl (e _ _ h)
  · exact .inr ⟨d, fs, e _ _ h1, e _ _ h2⟩
theorem mkX_reads {C : Addr} {f : Str} {y : V} {σ : L2.St} {H : Hp} {Q : VK} {ta : TA} (hy : FmtOk y) (ht : ∀ R : List V → Hp → Prop, R [y] H → ta σ H R)
    (k : ∀ a H', H a = none → Ex H H' → ErrAt H' a C f y → Q (.ref a) H') : tMkX C (spErr C f) ta σ H Q := by
  refine ht _ ⟨by show 1 ≤ 1000; decide, fun a ha => ⟨a, y, rfl, hy, upd_same, fun dx m1 m2 => ⟨rfl, k a _ ha ?_ ?_⟩⟩⟩
  · intro b o e
    have n1 : b ≠ a := ne_of_none e ha
    have n2 : b ≠ dx := fun z => by
      rw [← z, upd_ne n1, e] at m1
      cases m1
    rw [upd_ne n1, upd_ne n2, upd_ne n1]
    exact e
  · refine ⟨dx, upd_same, ?_⟩
    rw [upd_ne m2, upd_same]
theorem mkX0_reads {C : Addr} {σ : L2.St} {H : Hp} {Q : VK} (k : ∀ a H', H a = none → Ex H H' → H' a = some (exo a C none) → Q (.ref a) H') : tMkX C (spErr0 C) tNil σ H Q :=
  ⟨Nat.zero_le _, fun a ha => ⟨a, rfl, upd_same, rfl, k a _ ha (Ex.new ha) upd_same⟩⟩
theorem xv_reads {K : PySem.W.Frag} {C a : Addr} {f : Str} {y : V} {σ : L2.St} {H : Hp} {Q : VK} {te : TE} (hE : ExK K C) (hno : PySem.W.findIn K (.ref C) f = some none) (hx : ErrAt H a C f y) (ht : ∀ R : VK, R (.ref a) H → te σ H R) (q : Q y H) : tFldU K f te σ H Q := by
  obtain ⟨d, h1, h2⟩ := hx
  exact .inr (ht _ ⟨a, C, d, _, y, rfl, hE, hno, h1, h2, by simp [List.lookup], q⟩)
/-- C(y).f -/
theorem xvm_reads {K : PySem.W.Frag} {C : Addr} {f : Str} {y : V} {σ : L2.St} {H : Hp} {Q : VK} {ta : TA} (hE : ExK K C) (hno : PySem.W.findIn K (.ref C) f = some none) (hy : FmtOk y) (ht : ∀ R : List V → Hp → Prop, R [y] H → ta σ H R) (q : ∀ H', Ex H H' → Q y H') :
    tFldU K f (tMkX C (spErr C f) ta) σ H Q :=
  .inr (mkX_reads hy ht fun a H' _ e ⟨d, h1, h2⟩ => ⟨a, C, d, _, y, rfl, hE, hno, h1, h2, by simp [List.lookup], q H' e⟩)
/-- which of the classes Ds the class C is one of -/
def flagB (K : PySem.W.Frag) (C : Addr) : List Addr → List Bool → Bool
  | [], [] => true
  | D :: Ds, b :: bs => (PySem.W.kitOne K (.ref C) (.ref D) == some b) && flagB K C Ds bs
  | _, _ => false
theorem flagB_cons {K : PySem.W.Frag} {C D : Addr} {Ds : List Addr} {b : Bool} {bs : List Bool} (h : flagB K C (D :: Ds) (b :: bs) = true) : PySem.W.kitOne K (.ref C) (.ref D) = some b ∧ flagB K C Ds bs = true := by
  unfold flagB at h
  rw [Bool.and_eq_true] at h
  exact ⟨eq_of_beq h.1, h.2⟩
theorem XAt.new {H : Hp} {a C p : Addr} {o : HO} (h : XAt H a C) (n : H p = none) : XAt (upd H p o) a C := h.ex (Ex.new n)
end Hr

set_option maxHeartbeats 8000000
namespace Hr
open PySem PySem.Spec PyProof.Rows L2
open Evl (Ex)

def top (i : Nat) : Stmt := PySem.Challenge.pw_handrounds_k01_errors.main.body.getD i (.Pass ⟨0, 0, 0, 0⟩)
abbrev s_BadName_init : Stmt := inClass (top 2) 0
abbrev s_BadRound_init : Stmt := inClass (top 3) 0
abbrev s_BadStop_init : Stmt := inClass (top 4) 0
abbrev s_BadNet_init : Stmt := inClass (top 5) 0
abbrev s_UnknownNode_init : Stmt := inClass (top 6) 0
abbrev s_BadChange_init : Stmt := inClass (top 7) 0
abbrev s_BadLetter_init : Stmt := inClass (top 8) 0
abbrev s_NotInTime_init : Stmt := inClass (top 9) 0
abbrev s_TooFew_init : Stmt := inClass (top 10) 0
abbrev s_UnknownField_init : Stmt := inClass (top 11) 0
abbrev s_law_source : Stmt := top 13
theorem sc_law_source : FnScope ["script", "cell_number", "cell"] ["script", "cell_number"] (defScope s_law_source) := ⟨rfl, rfl, rfl, by decide +kernel, rfl, by decide +kernel, by decide +kernel⟩
abbrev s_law_draw : Stmt := top 14
theorem sc_law_draw : FnScope ["source", "bound", "digit", "mixed"] ["source", "bound"] (defScope s_law_draw) := ⟨rfl, rfl, rfl, by decide +kernel, rfl, by decide +kernel, by decide +kernel⟩
abbrev s_law_flags : Stmt := top 16
theorem sc_law_flags : FnScope ["e", "flags"] ["e"] (defScope s_law_flags) := ⟨rfl, rfl, rfl, by decide +kernel, rfl, by decide +kernel, by decide +kernel⟩
abbrev s_law : Stmt := top 17
theorem sc_law : FnScope ["script", "turn", "source", "some", "other", "chars", "text", "errors", "due", "first", "letter", "second", "error"] ["script"] (defScope s_law) := ⟨rfl, rfl, rfl, by decide +kernel, rfl, by decide +kernel, by decide +kernel⟩
structure Ads where
  f_BadName_init : Addr
  d_BadName_init : FuncData
  cc_BadName_init : Addr
  cda_BadName_init : Addr
  f_BadRound_init : Addr
  d_BadRound_init : FuncData
  cc_BadRound_init : Addr
  cda_BadRound_init : Addr
  f_BadStop_init : Addr
  d_BadStop_init : FuncData
  cc_BadStop_init : Addr
  cda_BadStop_init : Addr
  f_BadNet_init : Addr
  d_BadNet_init : FuncData
  cc_BadNet_init : Addr
  cda_BadNet_init : Addr
  f_UnknownNode_init : Addr
  d_UnknownNode_init : FuncData
  cc_UnknownNode_init : Addr
  cda_UnknownNode_init : Addr
  f_BadChange_init : Addr
  d_BadChange_init : FuncData
  cc_BadChange_init : Addr
  cda_BadChange_init : Addr
  f_BadLetter_init : Addr
  d_BadLetter_init : FuncData
  cc_BadLetter_init : Addr
  cda_BadLetter_init : Addr
  f_NotInTime_init : Addr
  d_NotInTime_init : FuncData
  cc_NotInTime_init : Addr
  cda_NotInTime_init : Addr
  f_TooFew_init : Addr
  d_TooFew_init : FuncData
  cc_TooFew_init : Addr
  cda_TooFew_init : Addr
  f_UnknownField_init : Addr
  d_UnknownField_init : FuncData
  cc_UnknownField_init : Addr
  cda_UnknownField_init : Addr
  f_law_source : Addr
  d_law_source : FuncData
  f_law_draw : Addr
  d_law_draw : FuncData
  f_law_flags : Addr
  d_law_flags : FuncData
  f_law : Addr
  d_law : FuncData
  c_RoundError : Addr
  c_BadName : Addr
  c_BadRound : Addr
  c_BadStop : Addr
  c_BadNet : Addr
  c_UnknownNode : Addr
  c_BadChange : Addr
  c_BadLetter : Addr
  c_NotInTime : Addr
  c_TooFew : Addr
  c_UnknownField : Addr
structure Txt (P : Program) (K : PySem.W.Frag) (mg : Str → Option Value) (Z : Ads) : Prop where
  F_law_source : Fun K "_law_source" "_law_source" s_law_source Z.f_law_source Z.d_law_source
  g_law_source : mg "_law_source" = some (.ref Z.f_law_source)
  b_law_source : Binds K Z.d_law_source ["script", "cell_number"] []
  F_law_draw : Fun K "_law_draw" "_law_draw" s_law_draw Z.f_law_draw Z.d_law_draw
  g_law_draw : mg "_law_draw" = some (.ref Z.f_law_draw)
  b_law_draw : Binds K Z.d_law_draw ["source", "bound"] []
  F_law_flags : Fun K "_law_flags" "_law_flags" s_law_flags Z.f_law_flags Z.d_law_flags
  g_law_flags : mg "_law_flags" = some (.ref Z.f_law_flags)
  b_law_flags : Binds K Z.d_law_flags ["e"] []
  F_law : Fun K "law" "law" s_law Z.f_law Z.d_law
  g_law : mg "law" = some (.ref Z.f_law)
  b_law : Binds K Z.d_law ["script"] []
  E_BadName : ErrT K mg P "BadName" "BadName.__init__" ["self", "name"] s_BadName_init Z.c_BadName Z.f_BadName_init Z.cc_BadName_init Z.cda_BadName_init Z.d_BadName_init
  b_BadName_init : Binds K Z.d_BadName_init ["self", "name"] []
  k_BadName_init : KBn K Z.d_BadName_init ["self", "name"] 1 ["name"] (fun us ws => us ++ ws) (fun vs zs => vs ++ zs)
  E_BadRound : ErrT K mg P "BadRound" "BadRound.__init__" ["self", "part"] s_BadRound_init Z.c_BadRound Z.f_BadRound_init Z.cc_BadRound_init Z.cda_BadRound_init Z.d_BadRound_init
  b_BadRound_init : Binds K Z.d_BadRound_init ["self", "part"] []
  k_BadRound_init : KBn K Z.d_BadRound_init ["self", "part"] 1 ["part"] (fun us ws => us ++ ws) (fun vs zs => vs ++ zs)
  E_BadStop : ErrT K mg P "BadStop" "BadStop.__init__" ["self", "index"] s_BadStop_init Z.c_BadStop Z.f_BadStop_init Z.cc_BadStop_init Z.cda_BadStop_init Z.d_BadStop_init
  b_BadStop_init : Binds K Z.d_BadStop_init ["self", "index"] []
  k_BadStop_init : KBn K Z.d_BadStop_init ["self", "index"] 1 ["index"] (fun us ws => us ++ ws) (fun vs zs => vs ++ zs)
  E_BadNet : ErrT K mg P "BadNet" "BadNet.__init__" ["self", "name"] s_BadNet_init Z.c_BadNet Z.f_BadNet_init Z.cc_BadNet_init Z.cda_BadNet_init Z.d_BadNet_init
  b_BadNet_init : Binds K Z.d_BadNet_init ["self", "name"] []
  k_BadNet_init : KBn K Z.d_BadNet_init ["self", "name"] 1 ["name"] (fun us ws => us ++ ws) (fun vs zs => vs ++ zs)
  E_UnknownNode : ErrT K mg P "UnknownNode" "UnknownNode.__init__" ["self", "name"] s_UnknownNode_init Z.c_UnknownNode Z.f_UnknownNode_init Z.cc_UnknownNode_init Z.cda_UnknownNode_init Z.d_UnknownNode_init
  b_UnknownNode_init : Binds K Z.d_UnknownNode_init ["self", "name"] []
  k_UnknownNode_init : KBn K Z.d_UnknownNode_init ["self", "name"] 1 ["name"] (fun us ws => us ++ ws) (fun vs zs => vs ++ zs)
  E_BadChange : ErrT K mg P "BadChange" "BadChange.__init__" ["self", "index"] s_BadChange_init Z.c_BadChange Z.f_BadChange_init Z.cc_BadChange_init Z.cda_BadChange_init Z.d_BadChange_init
  b_BadChange_init : Binds K Z.d_BadChange_init ["self", "index"] []
  k_BadChange_init : KBn K Z.d_BadChange_init ["self", "index"] 1 ["index"] (fun us ws => us ++ ws) (fun vs zs => vs ++ zs)
  E_BadLetter : ErrT K mg P "BadLetter" "BadLetter.__init__" ["self", "name"] s_BadLetter_init Z.c_BadLetter Z.f_BadLetter_init Z.cc_BadLetter_init Z.cda_BadLetter_init Z.d_BadLetter_init
  b_BadLetter_init : Binds K Z.d_BadLetter_init ["self", "name"] []
  k_BadLetter_init : KBn K Z.d_BadLetter_init ["self", "name"] 1 ["name"] (fun us ws => us ++ ws) (fun vs zs => vs ++ zs)
  E_NotInTime : ErrT K mg P "NotInTime" "NotInTime.__init__" ["self"] s_NotInTime_init Z.c_NotInTime Z.f_NotInTime_init Z.cc_NotInTime_init Z.cda_NotInTime_init Z.d_NotInTime_init
  b_NotInTime_init : Binds K Z.d_NotInTime_init ["self"] []
  E_TooFew : ErrT K mg P "TooFew" "TooFew.__init__" ["self", "count"] s_TooFew_init Z.c_TooFew Z.f_TooFew_init Z.cc_TooFew_init Z.cda_TooFew_init Z.d_TooFew_init
  b_TooFew_init : Binds K Z.d_TooFew_init ["self", "count"] []
  k_TooFew_init : KBn K Z.d_TooFew_init ["self", "count"] 1 ["count"] (fun us ws => us ++ ws) (fun vs zs => vs ++ zs)
  E_UnknownField : ErrT K mg P "UnknownField" "UnknownField.__init__" ["self", "name"] s_UnknownField_init Z.c_UnknownField Z.f_UnknownField_init Z.cc_UnknownField_init Z.cda_UnknownField_init Z.d_UnknownField_init
  b_UnknownField_init : Binds K Z.d_UnknownField_init ["self", "name"] []
  k_UnknownField_init : KBn K Z.d_UnknownField_init ["self", "name"] 1 ["name"] (fun us ws => us ++ ws) (fun vs zs => vs ++ zs)
  g_RoundError : mg "RoundError" = some (.ref Z.c_RoundError)
  g_BadName : mg "BadName" = some (.ref Z.c_BadName)
  g_BadRound : mg "BadRound" = some (.ref Z.c_BadRound)
  g_BadStop : mg "BadStop" = some (.ref Z.c_BadStop)
  g_BadNet : mg "BadNet" = some (.ref Z.c_BadNet)
  g_UnknownNode : mg "UnknownNode" = some (.ref Z.c_UnknownNode)
  g_BadChange : mg "BadChange" = some (.ref Z.c_BadChange)
  g_BadLetter : mg "BadLetter" = some (.ref Z.c_BadLetter)
  g_NotInTime : mg "NotInTime" = some (.ref Z.c_NotInTime)
  g_TooFew : mg "TooFew" = some (.ref Z.c_TooFew)
  g_UnknownField : mg "UnknownField" = some (.ref Z.c_UnknownField)
  n_ValueError : mg "ValueError" = none
  n_isinstance : mg "isinstance" = none
  n_len : mg "len" = none
  n_max : mg "max" = none
  n_min : mg "min" = none
  n_range : mg "range" = none
  n_super : mg "super" = none
  fl_BadName : flagB K Z.c_BadName [Z.c_BadName, Z.c_BadRound, Z.c_BadStop, Z.c_BadNet, Z.c_UnknownNode, Z.c_BadChange, Z.c_BadLetter, Z.c_NotInTime, Z.c_TooFew, Z.c_UnknownField, Z.c_RoundError] [true, false, false, false, false, false, false, false, false, false, true] = true
  fv_BadName : PySem.W.kitOne K (.ref Z.c_BadName) (.type "ValueError") = some true
  fl_BadRound : flagB K Z.c_BadRound [Z.c_BadName, Z.c_BadRound, Z.c_BadStop, Z.c_BadNet, Z.c_UnknownNode, Z.c_BadChange, Z.c_BadLetter, Z.c_NotInTime, Z.c_TooFew, Z.c_UnknownField, Z.c_RoundError] [false, true, false, false, false, false, false, false, false, false, true] = true
  fv_BadRound : PySem.W.kitOne K (.ref Z.c_BadRound) (.type "ValueError") = some true
  fl_BadStop : flagB K Z.c_BadStop [Z.c_BadName, Z.c_BadRound, Z.c_BadStop, Z.c_BadNet, Z.c_UnknownNode, Z.c_BadChange, Z.c_BadLetter, Z.c_NotInTime, Z.c_TooFew, Z.c_UnknownField, Z.c_RoundError] [false, false, true, false, false, false, false, false, false, false, true] = true
  fv_BadStop : PySem.W.kitOne K (.ref Z.c_BadStop) (.type "ValueError") = some true
  fl_BadNet : flagB K Z.c_BadNet [Z.c_BadName, Z.c_BadRound, Z.c_BadStop, Z.c_BadNet, Z.c_UnknownNode, Z.c_BadChange, Z.c_BadLetter, Z.c_NotInTime, Z.c_TooFew, Z.c_UnknownField, Z.c_RoundError] [false, false, false, true, false, false, false, false, false, false, true] = true
  fv_BadNet : PySem.W.kitOne K (.ref Z.c_BadNet) (.type "ValueError") = some true
  fl_UnknownNode : flagB K Z.c_UnknownNode [Z.c_BadName, Z.c_BadRound, Z.c_BadStop, Z.c_BadNet, Z.c_UnknownNode, Z.c_BadChange, Z.c_BadLetter, Z.c_NotInTime, Z.c_TooFew, Z.c_UnknownField, Z.c_RoundError] [false, false, false, false, true, false, false, false, false, false, true] = true
  fv_UnknownNode : PySem.W.kitOne K (.ref Z.c_UnknownNode) (.type "ValueError") = some true
  fl_BadChange : flagB K Z.c_BadChange [Z.c_BadName, Z.c_BadRound, Z.c_BadStop, Z.c_BadNet, Z.c_UnknownNode, Z.c_BadChange, Z.c_BadLetter, Z.c_NotInTime, Z.c_TooFew, Z.c_UnknownField, Z.c_RoundError] [false, false, false, false, false, true, false, false, false, false, true] = true
  fv_BadChange : PySem.W.kitOne K (.ref Z.c_BadChange) (.type "ValueError") = some true
  fl_BadLetter : flagB K Z.c_BadLetter [Z.c_BadName, Z.c_BadRound, Z.c_BadStop, Z.c_BadNet, Z.c_UnknownNode, Z.c_BadChange, Z.c_BadLetter, Z.c_NotInTime, Z.c_TooFew, Z.c_UnknownField, Z.c_RoundError] [false, false, false, false, false, false, true, false, false, false, true] = true
  fv_BadLetter : PySem.W.kitOne K (.ref Z.c_BadLetter) (.type "ValueError") = some true
  fl_NotInTime : flagB K Z.c_NotInTime [Z.c_BadName, Z.c_BadRound, Z.c_BadStop, Z.c_BadNet, Z.c_UnknownNode, Z.c_BadChange, Z.c_BadLetter, Z.c_NotInTime, Z.c_TooFew, Z.c_UnknownField, Z.c_RoundError] [false, false, false, false, false, false, false, true, false, false, true] = true
  fv_NotInTime : PySem.W.kitOne K (.ref Z.c_NotInTime) (.type "ValueError") = some true
  fl_TooFew : flagB K Z.c_TooFew [Z.c_BadName, Z.c_BadRound, Z.c_BadStop, Z.c_BadNet, Z.c_UnknownNode, Z.c_BadChange, Z.c_BadLetter, Z.c_NotInTime, Z.c_TooFew, Z.c_UnknownField, Z.c_RoundError] [false, false, false, false, false, false, false, false, true, false, true] = true
  fv_TooFew : PySem.W.kitOne K (.ref Z.c_TooFew) (.type "ValueError") = some true
  fl_UnknownField : flagB K Z.c_UnknownField [Z.c_BadName, Z.c_BadRound, Z.c_BadStop, Z.c_BadNet, Z.c_UnknownNode, Z.c_BadChange, Z.c_BadLetter, Z.c_NotInTime, Z.c_TooFew, Z.c_UnknownField, Z.c_RoundError] [false, false, false, false, false, false, false, false, false, true, true] = true
  fv_UnknownField : PySem.W.kitOne K (.ref Z.c_UnknownField) (.type "ValueError") = some true
end Hr

set_option maxHeartbeats 8000000
namespace Hr
open PySem PySem.Spec PyProof.Rows L2
open Evl (Ex)
/-- what _law_flags tells of an error of the class C -/
def spFlags (K : PySem.W.Frag) (Z : Ads) : Sp := fun vs H Q _ => ∃ (a C : Addr) (b0 b1 b2 b3 b4 b5 b6 b7 b8 b9 br bv : Bool), vs = [.ref a] ∧ XAt H a C ∧ ExK K C ∧ flagB K C [Z.c_BadName, Z.c_BadRound, Z.c_BadStop, Z.c_BadNet, Z.c_UnknownNode, Z.c_BadChange, Z.c_BadLetter, Z.c_NotInTime, Z.c_TooFew, Z.c_UnknownField, Z.c_RoundError] [b0, b1, b2, b3, b4, b5, b6, b7, b8, b9, br] = true ∧
  PySem.W.kitOne K (.ref C) (.type "ValueError") = some bv ∧
  ∀ p H', H p = none → Ex H H' → H' p = some (.lst ([b0, b1, b2, b3, b4, b5, b6, b7, b8, b9, !br, !bv].map V.bl)) → Q (.ref p) H'
def spLaw (K : PySem.W.Frag) : Sp := fun vs H Q _ => ∃ (a : Addr) (ns : List Int), vs = [.ref a] ∧ SqL K H a (ns.map V.int) ∧ ns.length ≤ 63 ∧ ∀ H', Q (.bl true) H'
structure Es (K : PySem.W.Frag) (Z : Ads) (t : Str) (m o : Int) (p a0 a1 a2 a3 a4 a5 a6 a7 a8 a9 : Addr) (G : Hp) : Prop where
  L : SqL K G p [V.ref a0, V.ref a1, V.ref a2, V.ref a3, V.ref a4, V.ref a5, V.ref a6, V.ref a7, V.ref a8, V.ref a9]
  x0 : ErrAt G a0 Z.c_BadName "name" (.str t)
  x1 : ErrAt G a1 Z.c_BadRound "part" (.str t)
  x2 : ErrAt G a2 Z.c_BadStop "index" (.int o)
  x3 : ErrAt G a3 Z.c_BadNet "name" (.str t)
  x4 : ErrAt G a4 Z.c_UnknownNode "name" (.str t)
  x5 : ErrAt G a5 Z.c_BadChange "index" (.int m)
  x6 : ErrAt G a6 Z.c_BadLetter "name" (.str t)
  x7 : G a7 = some (exo a7 Z.c_NotInTime none)
  x8 : ErrAt G a8 Z.c_TooFew "count" (.int o)
  x9 : ErrAt G a9 Z.c_UnknownField "name" (.str t)
theorem Es.ex {K : PySem.W.Frag} {Z : Ads} {t : Str} {m o : Int} {p a0 a1 a2 a3 a4 a5 a6 a7 a8 a9 : Addr} {G G2 : Hp} (h : Es K Z t m o p a0 a1 a2 a3 a4 a5 a6 a7 a8 a9 G) (e : Ex G G2) : Es K Z t m o p a0 a1 a2 a3 a4 a5 a6 a7 a8 a9 G2 :=
  ⟨Evl.ex_l e h.L, h.x0.ex e, h.x1.ex e, h.x2.ex e, h.x3.ex e, h.x4.ex e, h.x5.ex e, h.x6.ex e, e _ _ h.x7, h.x8.ex e, h.x9.ex e⟩
def row (i : Nat) : PyData := .list ((List.range 12).map fun k => .bool (decide (i = k)))
theorem Es.row {P : Program} {K : PySem.W.Frag} {mg : Str → Option Value} {Z : Ads} {t : Str} {m o : Int} {p a0 a1 a2 a3 a4 a5 a6 a7 a8 a9 : Addr} {G : Hp} (T : Txt P K mg Z) (h : Es K Z t m o p a0 a1 a2 a3 a4 a5 a6 a7 a8 a9 G) : ∀ (i : Nat) (x : V), [V.ref a0, V.ref a1, V.ref a2, V.ref a3, V.ref a4, V.ref a5, V.ref a6, V.ref a7, V.ref a8, V.ref a9][i]? = some x →
    ∃ (a C : Addr) (b0 b1 b2 b3 b4 b5 b6 b7 b8 b9 : Bool), x = .ref a ∧ XAt G a C ∧ ExK K C ∧ flagB K C [Z.c_BadName, Z.c_BadRound, Z.c_BadStop, Z.c_BadNet, Z.c_UnknownNode, Z.c_BadChange, Z.c_BadLetter, Z.c_NotInTime, Z.c_TooFew, Z.c_UnknownField, Z.c_RoundError] [b0, b1, b2, b3, b4, b5, b6, b7, b8, b9, true] = true ∧ PySem.W.kitOne K (.ref C) (.type "ValueError") = some true ∧
      row i = .list ([b0, b1, b2, b3, b4, b5, b6, b7, b8, b9, !true, !true].map PyData.bool)
  | 0, x, e => ⟨a0, Z.c_BadName, _, _, _, _, _, _, _, _, _, _, (Option.some.inj e).symm, h.x0.xat, T.E_BadName.ex, T.fl_BadName, T.fv_BadName, rfl⟩
  | 1, x, e => ⟨a1, Z.c_BadRound, _, _, _, _, _, _, _, _, _, _, (Option.some.inj e).symm, h.x1.xat, T.E_BadRound.ex, T.fl_BadRound, T.fv_BadRound, rfl⟩
  | 2, x, e => ⟨a2, Z.c_BadStop, _, _, _, _, _, _, _, _, _, _, (Option.some.inj e).symm, h.x2.xat, T.E_BadStop.ex, T.fl_BadStop, T.fv_BadStop, rfl⟩
  | 3, x, e => ⟨a3, Z.c_BadNet, _, _, _, _, _, _, _, _, _, _, (Option.some.inj e).symm, h.x3.xat, T.E_BadNet.ex, T.fl_BadNet, T.fv_BadNet, rfl⟩
  | 4, x, e => ⟨a4, Z.c_UnknownNode, _, _, _, _, _, _, _, _, _, _, (Option.some.inj e).symm, h.x4.xat, T.E_UnknownNode.ex, T.fl_UnknownNode, T.fv_UnknownNode, rfl⟩
  | 5, x, e => ⟨a5, Z.c_BadChange, _, _, _, _, _, _, _, _, _, _, (Option.some.inj e).symm, h.x5.xat, T.E_BadChange.ex, T.fl_BadChange, T.fv_BadChange, rfl⟩
  | 6, x, e => ⟨a6, Z.c_BadLetter, _, _, _, _, _, _, _, _, _, _, (Option.some.inj e).symm, h.x6.xat, T.E_BadLetter.ex, T.fl_BadLetter, T.fv_BadLetter, rfl⟩
  | 7, x, e => ⟨a7, Z.c_NotInTime, _, _, _, _, _, _, _, _, _, _, (Option.some.inj e).symm, .inl h.x7, T.E_NotInTime.ex, T.fl_NotInTime, T.fv_NotInTime, rfl⟩
  | 8, x, e => ⟨a8, Z.c_TooFew, _, _, _, _, _, _, _, _, _, _, (Option.some.inj e).symm, h.x8.xat, T.E_TooFew.ex, T.fl_TooFew, T.fv_TooFew, rfl⟩
  | 9, x, e => ⟨a9, Z.c_UnknownField, _, _, _, _, _, _, _, _, _, _, (Option.some.inj e).symm, h.x9.xat, T.E_UnknownField.ex, T.fl_UnknownField, T.fv_UnknownField, rfl⟩
  | i + 10, x, e => by simp at e
end Hr

set_option maxHeartbeats 8000000
namespace Hr
open PySem PySem.Spec PyProof.Rows L2
open Evl (Ex)
section
variable {P : Program} {w : World} {K : PySem.W.Frag} {mg : Str → Option Value} {base : Heap} {Z : Ads}
theorem ok_BadName_init (T : Txt P K mg Z) : FnOk P w K mg base CX0 1 Z.f_BadName_init Z.d_BadName_init ["self", "name"] (spErr Z.c_BadName "name") := by
  have E := T.E_BadName
  obtain ⟨oc, od, kV, doc, pm, an, ct, osl, ed, lk, hcd⟩ := E.fn
  obtain ⟨cl, cld, csl, hcell⟩ := E.sup.cell
  rw [ed] at lk ⊢
  refine fnS_of (D := Z.c_BadName) lk hcd hcell (NdefX.nscope_by (N := ["self", "name", "__class__"]) (ps := ["self", "name"]) (fr := ["__class__"]) (by decide +kernel)) (fun vs H Q E h => ?_) (fun A outer s H vs Q _ hr h => ?_)
  · obtain ⟨a, y, rfl, _⟩ := h
    rfl
  · obtain ⟨a, y, rfl, hy, ha, k⟩ := h
    refine ⟨_, pssat_sup E.sup rfl rfl rfl rfl rfl rfl rfl (pa_cons (pe_joined (PJ.cons pe_str (PJ.cons (pe_fmt (pv 1)) PJ.nil))) pa_nil) (PSsAt.of (pss_one (ps_ost (pv 0) (pv 1)))) (by rfl), ?_⟩
    exact rd_err1 E.oex (E.noF _ (by simp)) (by decide) hy ha k
theorem ok_BadRound_init (T : Txt P K mg Z) : FnOk P w K mg base CX0 1 Z.f_BadRound_init Z.d_BadRound_init ["self", "part"] (spErr Z.c_BadRound "part") := by
  have E := T.E_BadRound
  obtain ⟨oc, od, kV, doc, pm, an, ct, osl, ed, lk, hcd⟩ := E.fn
  obtain ⟨cl, cld, csl, hcell⟩ := E.sup.cell
  rw [ed] at lk ⊢
  refine fnS_of (D := Z.c_BadRound) lk hcd hcell (NdefX.nscope_by (N := ["self", "part", "__class__"]) (ps := ["self", "part"]) (fr := ["__class__"]) (by decide +kernel)) (fun vs H Q E h => ?_) (fun A outer s H vs Q _ hr h => ?_)
  · obtain ⟨a, y, rfl, _⟩ := h
    rfl
  · obtain ⟨a, y, rfl, hy, ha, k⟩ := h
    refine ⟨_, pssat_sup E.sup rfl rfl rfl rfl rfl rfl rfl (pa_cons (pe_joined (PJ.cons pe_str (PJ.cons (pe_fmt (pv 1)) PJ.nil))) pa_nil) (PSsAt.of (pss_one (ps_ost (pv 0) (pv 1)))) (by rfl), ?_⟩
    exact rd_err1 E.oex (E.noF _ (by simp)) (by decide) hy ha k
theorem ok_BadStop_init (T : Txt P K mg Z) : FnOk P w K mg base CX0 1 Z.f_BadStop_init Z.d_BadStop_init ["self", "index"] (spErr Z.c_BadStop "index") := by
  have E := T.E_BadStop
  obtain ⟨oc, od, kV, doc, pm, an, ct, osl, ed, lk, hcd⟩ := E.fn
  obtain ⟨cl, cld, csl, hcell⟩ := E.sup.cell
  rw [ed] at lk ⊢
  refine fnS_of (D := Z.c_BadStop) lk hcd hcell (NdefX.nscope_by (N := ["self", "index", "__class__"]) (ps := ["self", "index"]) (fr := ["__class__"]) (by decide +kernel)) (fun vs H Q E h => ?_) (fun A outer s H vs Q _ hr h => ?_)
  · obtain ⟨a, y, rfl, _⟩ := h
    rfl
  · obtain ⟨a, y, rfl, hy, ha, k⟩ := h
    refine ⟨_, pssat_sup E.sup rfl rfl rfl rfl rfl rfl rfl (pa_cons (pe_joined (PJ.cons pe_str (PJ.cons (pe_fmt (pv 1)) PJ.nil))) pa_nil) (PSsAt.of (pss_one (ps_ost (pv 0) (pv 1)))) (by rfl), ?_⟩
    exact rd_err1 E.oex (E.noF _ (by simp)) (by decide) hy ha k
theorem ok_BadNet_init (T : Txt P K mg Z) : FnOk P w K mg base CX0 1 Z.f_BadNet_init Z.d_BadNet_init ["self", "name"] (spErr Z.c_BadNet "name") := by
  have E := T.E_BadNet
  obtain ⟨oc, od, kV, doc, pm, an, ct, osl, ed, lk, hcd⟩ := E.fn
  obtain ⟨cl, cld, csl, hcell⟩ := E.sup.cell
  rw [ed] at lk ⊢
  refine fnS_of (D := Z.c_BadNet) lk hcd hcell (NdefX.nscope_by (N := ["self", "name", "__class__"]) (ps := ["self", "name"]) (fr := ["__class__"]) (by decide +kernel)) (fun vs H Q E h => ?_) (fun A outer s H vs Q _ hr h => ?_)
  · obtain ⟨a, y, rfl, _⟩ := h
    rfl
  · obtain ⟨a, y, rfl, hy, ha, k⟩ := h
    refine ⟨_, pssat_sup E.sup rfl rfl rfl rfl rfl rfl rfl (pa_cons (pe_joined (PJ.cons pe_str (PJ.cons (pe_fmt (pv 1)) PJ.nil))) pa_nil) (PSsAt.of (pss_one (ps_ost (pv 0) (pv 1)))) (by rfl), ?_⟩
    exact rd_err1 E.oex (E.noF _ (by simp)) (by decide) hy ha k
theorem ok_UnknownNode_init (T : Txt P K mg Z) : FnOk P w K mg base CX0 1 Z.f_UnknownNode_init Z.d_UnknownNode_init ["self", "name"] (spErr Z.c_UnknownNode "name") := by
  have E := T.E_UnknownNode
  obtain ⟨oc, od, kV, doc, pm, an, ct, osl, ed, lk, hcd⟩ := E.fn
  obtain ⟨cl, cld, csl, hcell⟩ := E.sup.cell
  rw [ed] at lk ⊢
  refine fnS_of (D := Z.c_UnknownNode) lk hcd hcell (NdefX.nscope_by (N := ["self", "name", "__class__"]) (ps := ["self", "name"]) (fr := ["__class__"]) (by decide +kernel)) (fun vs H Q E h => ?_) (fun A outer s H vs Q _ hr h => ?_)
  · obtain ⟨a, y, rfl, _⟩ := h
    rfl
  · obtain ⟨a, y, rfl, hy, ha, k⟩ := h
    refine ⟨_, pssat_sup E.sup rfl rfl rfl rfl rfl rfl rfl (pa_cons (pe_joined (PJ.cons pe_str (PJ.cons (pe_fmt (pv 1)) PJ.nil))) pa_nil) (PSsAt.of (pss_one (ps_ost (pv 0) (pv 1)))) (by rfl), ?_⟩
    exact rd_err1 E.oex (E.noF _ (by simp)) (by decide) hy ha k
theorem ok_BadChange_init (T : Txt P K mg Z) : FnOk P w K mg base CX0 1 Z.f_BadChange_init Z.d_BadChange_init ["self", "index"] (spErr Z.c_BadChange "index") := by
  have E := T.E_BadChange
  obtain ⟨oc, od, kV, doc, pm, an, ct, osl, ed, lk, hcd⟩ := E.fn
  obtain ⟨cl, cld, csl, hcell⟩ := E.sup.cell
  rw [ed] at lk ⊢
  refine fnS_of (D := Z.c_BadChange) lk hcd hcell (NdefX.nscope_by (N := ["self", "index", "__class__"]) (ps := ["self", "index"]) (fr := ["__class__"]) (by decide +kernel)) (fun vs H Q E h => ?_) (fun A outer s H vs Q _ hr h => ?_)
  · obtain ⟨a, y, rfl, _⟩ := h
    rfl
  · obtain ⟨a, y, rfl, hy, ha, k⟩ := h
    refine ⟨_, pssat_sup E.sup rfl rfl rfl rfl rfl rfl rfl (pa_cons (pe_joined (PJ.cons pe_str (PJ.cons (pe_fmt (pv 1)) PJ.nil))) pa_nil) (PSsAt.of (pss_one (ps_ost (pv 0) (pv 1)))) (by rfl), ?_⟩
    exact rd_err1 E.oex (E.noF _ (by simp)) (by decide) hy ha k
theorem ok_BadLetter_init (T : Txt P K mg Z) : FnOk P w K mg base CX0 1 Z.f_BadLetter_init Z.d_BadLetter_init ["self", "name"] (spErr Z.c_BadLetter "name") := by
  have E := T.E_BadLetter
  obtain ⟨oc, od, kV, doc, pm, an, ct, osl, ed, lk, hcd⟩ := E.fn
  obtain ⟨cl, cld, csl, hcell⟩ := E.sup.cell
  rw [ed] at lk ⊢
  refine fnS_of (D := Z.c_BadLetter) lk hcd hcell (NdefX.nscope_by (N := ["self", "name", "__class__"]) (ps := ["self", "name"]) (fr := ["__class__"]) (by decide +kernel)) (fun vs H Q E h => ?_) (fun A outer s H vs Q _ hr h => ?_)
  · obtain ⟨a, y, rfl, _⟩ := h
    rfl
  · obtain ⟨a, y, rfl, hy, ha, k⟩ := h
    refine ⟨_, pssat_sup E.sup rfl rfl rfl rfl rfl rfl rfl (pa_cons (pe_joined (PJ.cons pe_str (PJ.cons (pe_fmt (pv 1)) PJ.nil))) pa_nil) (PSsAt.of (pss_one (ps_ost (pv 0) (pv 1)))) (by rfl), ?_⟩
    exact rd_err1 E.oex (E.noF _ (by simp)) (by decide) hy ha k
theorem ok_NotInTime_init (T : Txt P K mg Z) : FnOk P w K mg base CX0 1 Z.f_NotInTime_init Z.d_NotInTime_init ["self"] (spErr0 Z.c_NotInTime) := by
  have E := T.E_NotInTime
  obtain ⟨oc, od, kV, doc, pm, an, ct, osl, ed, lk, hcd⟩ := E.fn
  obtain ⟨cl, cld, csl, hcell⟩ := E.sup.cell
  rw [ed] at lk ⊢
  refine fnS_of (D := Z.c_NotInTime) lk hcd hcell (NdefX.nscope_by (N := ["self", "__class__"]) (ps := ["self"]) (fr := ["__class__"]) (by decide +kernel)) (fun vs H Q E h => ?_) (fun A outer s H vs Q _ hr h => ?_)
  · obtain ⟨a, rfl, _⟩ := h
    rfl
  · obtain ⟨a, rfl, ha, k⟩ := h
    refine ⟨_, pssat_sup E.sup rfl rfl rfl rfl rfl rfl rfl (pa_cons pe_str pa_nil) (PSsAt.of pss_nil) (by rfl), ?_⟩
    exact rd_err0 ha k
theorem ok_TooFew_init (T : Txt P K mg Z) : FnOk P w K mg base CX0 1 Z.f_TooFew_init Z.d_TooFew_init ["self", "count"] (spErr Z.c_TooFew "count") := by
  have E := T.E_TooFew
  obtain ⟨oc, od, kV, doc, pm, an, ct, osl, ed, lk, hcd⟩ := E.fn
  obtain ⟨cl, cld, csl, hcell⟩ := E.sup.cell
  rw [ed] at lk ⊢
  refine fnS_of (D := Z.c_TooFew) lk hcd hcell (NdefX.nscope_by (N := ["self", "count", "__class__"]) (ps := ["self", "count"]) (fr := ["__class__"]) (by decide +kernel)) (fun vs H Q E h => ?_) (fun A outer s H vs Q _ hr h => ?_)
  · obtain ⟨a, y, rfl, _⟩ := h
    rfl
  · obtain ⟨a, y, rfl, hy, ha, k⟩ := h
    refine ⟨_, pssat_sup E.sup rfl rfl rfl rfl rfl rfl rfl (pa_cons (pe_joined (PJ.cons pe_str (PJ.cons (pe_fmt (pv 1)) PJ.nil))) pa_nil) (PSsAt.of (pss_one (ps_ost (pv 0) (pv 1)))) (by rfl), ?_⟩
    exact rd_err1 E.oex (E.noF _ (by simp)) (by decide) hy ha k
theorem ok_UnknownField_init (T : Txt P K mg Z) : FnOk P w K mg base CX0 1 Z.f_UnknownField_init Z.d_UnknownField_init ["self", "name"] (spErr Z.c_UnknownField "name") := by
  have E := T.E_UnknownField
  obtain ⟨oc, od, kV, doc, pm, an, ct, osl, ed, lk, hcd⟩ := E.fn
  obtain ⟨cl, cld, csl, hcell⟩ := E.sup.cell
  rw [ed] at lk ⊢
  refine fnS_of (D := Z.c_UnknownField) lk hcd hcell (NdefX.nscope_by (N := ["self", "name", "__class__"]) (ps := ["self", "name"]) (fr := ["__class__"]) (by decide +kernel)) (fun vs H Q E h => ?_) (fun A outer s H vs Q _ hr h => ?_)
  · obtain ⟨a, y, rfl, _⟩ := h
    rfl
  · obtain ⟨a, y, rfl, hy, ha, k⟩ := h
    refine ⟨_, pssat_sup E.sup rfl rfl rfl rfl rfl rfl rfl (pa_cons (pe_joined (PJ.cons pe_str (PJ.cons (pe_fmt (pv 1)) PJ.nil))) pa_nil) (PSsAt.of (pss_one (ps_ost (pv 0) (pv 1)))) (by rfl), ?_⟩
    exact rd_err1 E.oex (E.noF _ (by simp)) (by decide) hy ha k
end
end Hr

set_option maxHeartbeats 8000000
namespace Hr
open PySem PySem.Spec PyProof.Rows L2
open Evl (Ex)
section
variable {P : Program} {w : World} {K : PySem.W.Frag} {mg : Str → Option Value} {base : Heap} {Z : Ads}
theorem ok_law_source (T : Txt P K mg Z) : FnOk P w K mg base CX0 1 Z.f_law_source Z.d_law_source ["script", "cell_number"] (spSource K) := by
  refine T.F_law_source.ok sc_law_source (fun vs H Q E h => ?_) (fun cdv A_ outer s H vs Q E hr h => ?_)
  · obtain ⟨a, ns, i, rfl, hS, hi, k⟩ := h
    rfl
  · obtain ⟨a, ns, i, rfl, hS, hi, k⟩ := h
    have hu := hr.units
    refine ⟨_, (pss_cons (ps_set (i := 2) sc_law_source.nd rfl (.inl rfl) pe_int)
    (pss_cons (ps_if (pt_cmpR op_lt (pv 1) (pe_callB (kLen (K := K) rfl) (by rfl) T.n_len PySem.boot_len (pa_cons (pv 0) pa_nil)) (nomark _))
      (pss_one (ps_set (i := 2) sc_law_source.nd rfl (.inl rfl) (pe_ix (kIxU (K := K) rfl) (pv 0) (pv 1) (fun _ _ => rfl)))) pss_nil)
    (pss_one (ps_ret (pe_lst (pa_cons (pe_callB (call_max2 rfl) (by rfl) T.n_max (by decide +kernel) (pa_cons pe_int (pa_cons (pe_op op_sub (pv 2) (pe_op op_powW pe_int pe_int)) pa_nil))) (pa_cons (pe_op (kAdd (K := K) rfl) (pe_op op_mod (pv 2) (pe_op (kAdd (K := K) rfl) (pe_op op_powW pe_int pe_int) pe_int)) (pe_op op_mulU pe_int (pv 1))) (pa_cons pe_int pa_nil)))))))), ?_⟩
    refine ⟨_, rfl, _, rfl, _, _, rfl, .inl ⟨_, hS, rfl⟩, _, _, rfl, rfl, _, rfl, ite2 (fun c => ?_) (fun c => ?_)⟩
    · have c1 : i < ns.length := by
        have q := of_decide_eq_true c
        rw [List.length_map] at q
        omega
      refine ⟨_, rfl, _, rfl, .inl ⟨_, _, _, .int ns[i], rfl, rfl, hS, at_nat (by rw [List.getElem?_map, List.getElem?_eq_getElem c1]; rfl), ?_⟩⟩
      refine ⟨_, rfl, _, _, rfl, rfl, cpow_lit (by decide) (by decide) (by decide), _, _, rfl, rfl, _, _, rfl, ?_⟩
      refine ⟨_, rfl, _, _, rfl, rfl, cpow_lit (by decide) (by decide) (by decide), .inl ⟨_, _, rfl, rfl, _, _, rfl, rfl, by show (0 : Int) < 10 ^ (37 : Int).toNat + 43; decide, _, rfl, .inl ⟨_, _, rfl, rfl, cmul_of (a := 64) (b := 64) (by decide) (by omega), .inl ⟨_, _, rfl, rfl, ?_⟩⟩⟩⟩
      exact source_end k hi
    · refine ⟨_, rfl, _, _, rfl, rfl, cpow_lit (by decide) (by decide) (by decide), _, _, rfl, rfl, _, _, rfl, ?_⟩
      refine ⟨_, rfl, _, _, rfl, rfl, cpow_lit (by decide) (by decide) (by decide), .inl ⟨_, _, rfl, rfl, _, _, rfl, rfl, by show (0 : Int) < 10 ^ (37 : Int).toNat + 43; decide, _, rfl, .inl ⟨_, _, rfl, rfl, cmul_of (a := 64) (b := 64) (by decide) (by omega), .inl ⟨_, _, rfl, rfl, ?_⟩⟩⟩⟩
      exact source_end k hi
end
end Hr

set_option maxHeartbeats 8000000
namespace Hr
open PySem PySem.Spec PyProof.Rows L2
open Evl (Ex)
section
variable {P : Program} {w : World} {K : PySem.W.Frag} {mg : Str → Option Value} {base : Heap} {Z : Ads}
theorem ok_law_draw (T : Txt P K mg Z) : FnOk P w K mg base CX0 1 Z.f_law_draw Z.d_law_draw ["source", "bound"] spDraw := by
  refine T.F_law_draw.ok sc_law_draw (fun vs H Q E h => ?_) (fun cdv A_ outer s H vs Q E hr h => ?_)
  · obtain ⟨s, k, n, rfl, k0, k1, hs, hn, q⟩ := h
    rfl
  · obtain ⟨s, k, n, rfl, k0, k1, hs, hn, q⟩ := h
    have hu := hr.units
    refine ⟨_, (pss_cons (ps_if (pt_cmpR op_gt (pe_ix (kIxU (K := K) rfl) (pv 0) pe_int (fun _ _ => rfl)) pe_int (nomark _))
      (pss_cons (ps_set (i := 2) sc_law_draw.nd rfl (.inl rfl) (pe_op op_mod (pe_ix (kIxU (K := K) rfl) (pv 0) pe_int (fun _ _ => rfl)) (pv 1)))
    (pss_cons (ps_asg (pe_op op_fdivW (pe_ix (kIxU (K := K) rfl) (pv 0) pe_int (fun _ _ => rfl)) (pv 1)) (pg_sub (pv 0) pe_int set_list))
    (pss_one (ps_ret (pv 2))))) pss_nil)
    (pss_cons (ps_asg (pe_op (kAdd (K := K) rfl) (pe_ix (kIxU (K := K) rfl) (pv 0) pe_int (fun _ _ => rfl)) pe_int) (pg_sub (pv 0) pe_int set_list))
    (pss_cons (ps_set (i := 3) sc_law_draw.nd rfl (.inl rfl) (pe_op op_mod (pe_op op_powW (pe_op (kAdd (K := K) rfl) (pe_ix (kIxU (K := K) rfl) (pv 0) pe_int (fun _ _ => rfl)) (pe_op op_mulU pe_int (pe_ix (kIxU (K := K) rfl) (pv 0) pe_int (fun _ _ => rfl)))) pe_int) (pe_op (kAdd (K := K) rfl) (pe_op op_powW pe_int pe_int) pe_int)))
    (pss_cons (ps_set (i := 3) sc_law_draw.nd rfl (.inl rfl) (pe_op op_mod (pe_op op_powW (pe_op (kAdd (K := K) rfl) (pv 3) (pe_op op_mulU pe_int (pe_ix (kIxU (K := K) rfl) (pv 0) pe_int (fun _ _ => rfl)))) pe_int) (pe_op (kAdd (K := K) rfl) (pe_op op_powW pe_int pe_int) pe_int)))
    (pss_one (ps_ret (pe_op op_mod (pe_op op_fdivW (pv 3) pe_int) (pv 1)))))))), ?_⟩
    obtain ⟨a, b, c, hL, b0, b1, c0, c1⟩ := hs
    have hl : SqL K H s [.int a, .int b, .int c] := SqL.of hL
    refine ⟨_, rfl, .inl ⟨_, _, _, .int a, rfl, rfl, hl, rfl, _, _, rfl, rfl, _, rfl, ite2 (fun d => ?_) (fun d => ?_)⟩⟩
    · have a0 : 0 < a := of_decide_eq_true d
      refine ⟨_, rfl, .inl ⟨_, _, _, .int a, rfl, rfl, hl, rfl, _, rfl, _, _, rfl, rfl, k0, ?_⟩⟩
      refine ⟨_, rfl, .inl ⟨_, _, _, .int a, rfl, rfl, hl, rfl, _, rfl, _, _, rfl, rfl, wide_div k0 (natAbs_lt k0 k1) (by decide) (by decide), ?_⟩⟩
      refine ⟨_, rfl, _, _, _, 0, rfl, rfl, hL, rfl, ?_⟩
      exact ⟨_, rfl, q _ _ (Int.emod_nonneg _ (by omega)) (Int.emod_lt_of_pos _ k0) Kp.src (Src.kp _ _ _ b0 b1 c0 (by omega))⟩
    · refine ⟨_, rfl, .inl ⟨_, _, _, .int c, rfl, rfl, hl, rfl, .inl ⟨_, _, rfl, rfl, ?_⟩⟩⟩
      refine ⟨_, rfl, _, _, _, 2, rfl, rfl, hL, rfl, ?_⟩
      have hl2 : SqL K (upd H s (.lst [.int a, .int b, .int (c + 1)])) s [.int a, .int b, .int (c + 1)] := SqL.of upd_same
      have c2 : (c + 1).natAbs < 2 ^ 64 := by omega
      -- mixed = (source[1] + 15485863 * source[2]) ** 3 % ..
      refine ⟨_, rfl, .inl ⟨_, _, _, .int b, rfl, rfl, hl2, rfl, _, rfl, .inl ⟨_, _, _, .int (c + 1), rfl, rfl, hl2, rfl, .inl ⟨_, _, rfl, rfl, cmul_of (a := 64) (b := 64) (by decide) c2, .inl ⟨_, _, rfl, rfl, _, _, rfl, rfl, cpow_of (n := 201) (by decide) (by decide) (draw_b b0 b1 c0 (by omega)) (by decide) (by decide), ?_⟩⟩⟩⟩⟩
      refine ⟨_, _, rfl, rfl, cpow_lit (by decide) (by decide) (by decide), .inl ⟨_, _, rfl, rfl, _, _, rfl, rfl, by show (0 : Int) < 10 ^ (35 : Int).toNat + 69; decide, ?_⟩⟩
      -- mixed = (mixed + 32452843 * source[2]) ** 3 % ..
      refine ⟨_, rfl, _, rfl, .inl ⟨_, _, _, .int (c + 1), rfl, rfl, hl2, rfl, .inl ⟨_, _, rfl, rfl, cmul_of (a := 64) (b := 64) (by decide) c2, .inl ⟨_, _, rfl, rfl, _, _, rfl, rfl, cpow_of (n := 201) (by decide) (by decide) (draw_m (Int.emod_nonneg _ (by decide)) (Int.emod_lt_of_pos _ (by decide)) c0 (by omega)) (by decide) (by decide), ?_⟩⟩⟩⟩
      refine ⟨_, _, rfl, rfl, cpow_lit (by decide) (by decide) (by decide), .inl ⟨_, _, rfl, rfl, _, _, rfl, rfl, by show (0 : Int) < 10 ^ (32 : Int).toNat + 49; decide, ?_⟩⟩
      refine ⟨_, rfl, _, _, rfl, rfl, wide_div (b := 64) (by decide) (by decide) (by decide) (by decide), _, rfl, _, _, rfl, rfl, k0, ?_⟩
      exact q _ _ (Int.emod_nonneg _ (by omega)) (Int.emod_lt_of_pos _ k0) Kp.src (Src.kp _ _ _ b0 b1 (by omega) (by omega))
end
end Hr

set_option maxHeartbeats 8000000
namespace Hr
open PySem PySem.Spec PyProof.Rows L2
open Evl (Ex)
section
variable {P : Program} {w : World} {K : PySem.W.Frag} {mg : Str → Option Value} {base : Heap} {Z : Ads}
theorem ok_law_flags (T : Txt P K mg Z) : FnOk P w K mg base CX0 1 Z.f_law_flags Z.d_law_flags ["e"] (spFlags K Z) := by
  refine T.F_law_flags.ok sc_law_flags (fun vs H Q E h => ?_) (fun cdv A_ outer s H vs Q E hr h => ?_)
  · obtain ⟨a, C, b0, b1, b2, b3, b4, b5, b6, b7, b8, b9, br, bv, rfl, hx, hE, hf, ev, q⟩ := h
    rfl
  · obtain ⟨a, C, b0, b1, b2, b3, b4, b5, b6, b7, b8, b9, br, bv, rfl, hx, hE, hf, ev, q⟩ := h
    have hu := hr.units
    refine ⟨_, (pss_cons (ps_set (i := 1) sc_law_flags.nd rfl (.inl rfl) (pe_lst (pa_cons (pe_callB (kIs (K := K) rfl) (by rfl) T.n_isinstance (by decide +kernel) (pa_cons (pv 0) (pa_cons (pe_glob (v := .ref Z.c_BadName) (by rfl) T.g_BadName rfl) pa_nil))) (pa_cons (pe_callB (kIs (K := K) rfl) (by rfl) T.n_isinstance (by decide +kernel) (pa_cons (pv 0) (pa_cons (pe_glob (v := .ref Z.c_BadRound) (by rfl) T.g_BadRound rfl) pa_nil))) (pa_cons (pe_callB (kIs (K := K) rfl) (by rfl) T.n_isinstance (by decide +kernel) (pa_cons (pv 0) (pa_cons (pe_glob (v := .ref Z.c_BadStop) (by rfl) T.g_BadStop rfl) pa_nil))) (pa_cons (pe_callB (kIs (K := K) rfl) (by rfl) T.n_isinstance (by decide +kernel) (pa_cons (pv 0) (pa_cons (pe_glob (v := .ref Z.c_BadNet) (by rfl) T.g_BadNet rfl) pa_nil))) pa_nil))))))
    (pss_cons (ps_set (i := 1) sc_law_flags.nd rfl (.inl rfl) (pe_op (kAdd (K := K) rfl) (pv 1) (pe_lst (pa_cons (pe_callB (kIs (K := K) rfl) (by rfl) T.n_isinstance (by decide +kernel) (pa_cons (pv 0) (pa_cons (pe_glob (v := .ref Z.c_UnknownNode) (by rfl) T.g_UnknownNode rfl) pa_nil))) (pa_cons (pe_callB (kIs (K := K) rfl) (by rfl) T.n_isinstance (by decide +kernel) (pa_cons (pv 0) (pa_cons (pe_glob (v := .ref Z.c_BadChange) (by rfl) T.g_BadChange rfl) pa_nil))) (pa_cons (pe_callB (kIs (K := K) rfl) (by rfl) T.n_isinstance (by decide +kernel) (pa_cons (pv 0) (pa_cons (pe_glob (v := .ref Z.c_BadLetter) (by rfl) T.g_BadLetter rfl) pa_nil))) pa_nil))))))
    (pss_cons (ps_set (i := 1) sc_law_flags.nd rfl (.inl rfl) (pe_op (kAdd (K := K) rfl) (pv 1) (pe_lst (pa_cons (pe_callB (kIs (K := K) rfl) (by rfl) T.n_isinstance (by decide +kernel) (pa_cons (pv 0) (pa_cons (pe_glob (v := .ref Z.c_NotInTime) (by rfl) T.g_NotInTime rfl) pa_nil))) (pa_cons (pe_callB (kIs (K := K) rfl) (by rfl) T.n_isinstance (by decide +kernel) (pa_cons (pv 0) (pa_cons (pe_glob (v := .ref Z.c_TooFew) (by rfl) T.g_TooFew rfl) pa_nil))) (pa_cons (pe_callB (kIs (K := K) rfl) (by rfl) T.n_isinstance (by decide +kernel) (pa_cons (pv 0) (pa_cons (pe_glob (v := .ref Z.c_UnknownField) (by rfl) T.g_UnknownField rfl) pa_nil))) pa_nil))))))
    (pss_one (ps_ret (pe_op (kAdd (K := K) rfl) (pv 1) (pe_lst (pa_cons (pe_not (pe_callB (kIs (K := K) rfl) (by rfl) T.n_isinstance (by decide +kernel) (pa_cons (pv 0) (pa_cons (pe_glob (v := .ref Z.c_RoundError) (by rfl) T.g_RoundError rfl) pa_nil)))) (pa_cons (pe_not (pe_callB (kIs (K := K) rfl) (by rfl) T.n_isinstance (by decide +kernel) (pa_cons (pv 0) (pa_cons (pe_bltn (v := .ty "ValueError") (by rfl) T.n_ValueError (by decide +kernel) rfl) pa_nil)))) pa_nil))))))))), ?_⟩
    obtain ⟨e0, hf⟩ := flagB_cons hf
    obtain ⟨e1, hf⟩ := flagB_cons hf
    obtain ⟨e2, hf⟩ := flagB_cons hf
    obtain ⟨e3, hf⟩ := flagB_cons hf
    obtain ⟨e4, hf⟩ := flagB_cons hf
    obtain ⟨e5, hf⟩ := flagB_cons hf
    obtain ⟨e6, hf⟩ := flagB_cons hf
    obtain ⟨e7, hf⟩ := flagB_cons hf
    obtain ⟨e8, hf⟩ := flagB_cons hf
    obtain ⟨e9, hf⟩ := flagB_cons hf
    obtain ⟨er, hf⟩ := flagB_cons hf
    refine ⟨_, rfl, .inl ⟨_, _, _, _, _, rfl, hx, hE, .own _, e0, _, rfl, .inl ⟨_, _, _, _, _, rfl, hx, hE, .own _, e1, _, rfl, .inl ⟨_, _, _, _, _, rfl, hx, hE, .own _, e2, _, rfl, .inl ⟨_, _, _, _, _, rfl, hx, hE, .own _, e3, by show 4 ≤ sizeLine; decide, fun p1 n1 => ?_⟩⟩⟩⟩⟩
    have hx1 := hx.new (o := .lst [V.bl b0, V.bl b1, V.bl b2, V.bl b3]) n1
    refine ⟨_, rfl, _, rfl, .inl ⟨_, _, _, _, _, rfl, hx1, hE, .own _, e4, _, rfl, .inl ⟨_, _, _, _, _, rfl, hx1, hE, .own _, e5, _, rfl, .inl ⟨_, _, _, _, _, rfl, hx1, hE, .own _, e6, by show 3 ≤ sizeLine; decide, fun p2 n2 => ?_⟩⟩⟩⟩
    refine .inr (.inr (.inl ⟨_, _, _, _, rfl, rfl, (by rw [upd_ne (ne_of_none upd_same n2)]; exact upd_same), upd_same, by show 7 ≤ sizeLine; decide, fun p3 n3 => ?_⟩))
    have hx2 := (hx1.new (o := .lst [V.bl b4, V.bl b5, V.bl b6]) n2).new (o := .lst ([V.bl b0, V.bl b1, V.bl b2, V.bl b3] ++ [V.bl b4, V.bl b5, V.bl b6])) n3
    refine ⟨_, rfl, _, rfl, .inl ⟨_, _, _, _, _, rfl, hx2, hE, .own _, e7, _, rfl, .inl ⟨_, _, _, _, _, rfl, hx2, hE, .own _, e8, _, rfl, .inl ⟨_, _, _, _, _, rfl, hx2, hE, .own _, e9, by show 3 ≤ sizeLine; decide, fun p4 n4 => ?_⟩⟩⟩⟩
    refine .inr (.inr (.inl ⟨_, _, _, _, rfl, rfl, (by rw [upd_ne (ne_of_none upd_same n4)]; exact upd_same), upd_same, by show 10 ≤ sizeLine; decide, fun p5 n5 => ?_⟩))
    have hx3 := (hx2.new (o := .lst [V.bl b7, V.bl b8, V.bl b9]) n4).new (o := .lst (([V.bl b0, V.bl b1, V.bl b2, V.bl b3] ++ [V.bl b4, V.bl b5, V.bl b6]) ++ [V.bl b7, V.bl b8, V.bl b9])) n5
    refine ⟨_, rfl, _, rfl, .inl ⟨_, _, _, _, _, rfl, hx3, hE, .own _, er, _, rfl, _, rfl, .inl ⟨_, _, _, _, _, rfl, hx3, hE, .ty _, ev, _, rfl, by show 2 ≤ sizeLine; decide, fun p6 n6 => ?_⟩⟩⟩
    refine .inr (.inr (.inl ⟨_, _, _, _, rfl, rfl, (by rw [upd_ne (ne_of_none upd_same n6)]; exact upd_same), upd_same, by show 12 ≤ sizeLine; decide, fun p7 n7 => ?_⟩))
    have E1 := ((((((Ex.new (o := .lst [V.bl b0, V.bl b1, V.bl b2, V.bl b3]) n1).trans (Ex.new n2)).trans (Ex.new n3)).trans (Ex.new n4)).trans (Ex.new n5)).trans (Ex.new (o := .lst [V.bl (!br), V.bl (!bv)]) n6))
    exact q p7 _ (Evl.fresh_back E1 n7) (E1.trans (Ex.new n7)) upd_same
end
end Hr

set_option maxHeartbeats 8000000
namespace Hr
open PySem PySem.Spec PyProof.Rows L2
open Evl (Ex)
section
variable {P : Program} {w : World} {K : PySem.W.Frag} {mg : Str → Option Value} {base : Heap} {Z : Ads}
theorem ok_law (T : Txt P K mg Z) : FnOk P w K mg base CX0 3 Z.f_law Z.d_law ["script"] (spLaw K) := by
  have G_BadChange_init : FnOk P w K mg base CX0 1 Z.f_BadChange_init Z.d_BadChange_init ["self", "index"] (spErr Z.c_BadChange "index") := ok_BadChange_init T
  have G_BadLetter_init : FnOk P w K mg base CX0 1 Z.f_BadLetter_init Z.d_BadLetter_init ["self", "name"] (spErr Z.c_BadLetter "name") := ok_BadLetter_init T
  have G_BadName_init : FnOk P w K mg base CX0 1 Z.f_BadName_init Z.d_BadName_init ["self", "name"] (spErr Z.c_BadName "name") := ok_BadName_init T
  have G_BadNet_init : FnOk P w K mg base CX0 1 Z.f_BadNet_init Z.d_BadNet_init ["self", "name"] (spErr Z.c_BadNet "name") := ok_BadNet_init T
  have G_BadRound_init : FnOk P w K mg base CX0 1 Z.f_BadRound_init Z.d_BadRound_init ["self", "part"] (spErr Z.c_BadRound "part") := ok_BadRound_init T
  have G_BadStop_init : FnOk P w K mg base CX0 1 Z.f_BadStop_init Z.d_BadStop_init ["self", "index"] (spErr Z.c_BadStop "index") := ok_BadStop_init T
  have G_NotInTime_init : FnOk P w K mg base CX0 1 Z.f_NotInTime_init Z.d_NotInTime_init ["self"] (spErr0 Z.c_NotInTime) := ok_NotInTime_init T
  have G_TooFew_init : FnOk P w K mg base CX0 1 Z.f_TooFew_init Z.d_TooFew_init ["self", "count"] (spErr Z.c_TooFew "count") := ok_TooFew_init T
  have G_UnknownField_init : FnOk P w K mg base CX0 1 Z.f_UnknownField_init Z.d_UnknownField_init ["self", "name"] (spErr Z.c_UnknownField "name") := ok_UnknownField_init T
  have G_UnknownNode_init : FnOk P w K mg base CX0 1 Z.f_UnknownNode_init Z.d_UnknownNode_init ["self", "name"] (spErr Z.c_UnknownNode "name") := ok_UnknownNode_init T
  have G_law_draw : FnOk P w K mg base CX0 1 Z.f_law_draw Z.d_law_draw ["source", "bound"] spDraw := ok_law_draw T
  have G_law_flags : FnOk P w K mg base CX0 1 Z.f_law_flags Z.d_law_flags ["e"] (spFlags K Z) := ok_law_flags T
  have G_law_source : FnOk P w K mg base CX0 1 Z.f_law_source Z.d_law_source ["script", "cell_number"] (spSource K) := ok_law_source T
  refine T.F_law.ok sc_law (fun vs H Q E h => ?_) (fun cdv A_ outer s H vs Q E hr h => ?_)
  · obtain ⟨a, ns, rfl, hS, hlen, k⟩ := h
    rfl
  · obtain ⟨a, ns, rfl, hS, hlen, k⟩ := h
    have hu := hr.units
    refine ⟨_, (pss_cons (ps_for PassesOwn.never (by rfl) (pi_range1 (by rfl) T.n_range (pa_cons (pe_callB (call_max2 rfl) (by rfl) T.n_max (by decide +kernel) (pa_cons pe_int (pa_cons (pe_callB (call_min2 rfl) (by rfl) T.n_min (by decide +kernel) (pa_cons pe_int (pa_cons (pe_callB (kLen (K := K) rfl) (by rfl) T.n_len PySem.boot_len (pa_cons (pv 0) pa_nil)) pa_nil))) pa_nil))) pa_nil)) (pg_name (i := 1) sc_law.nd rfl (.inl rfl))
      (pss_cons (ps_set (i := 2) sc_law.nd rfl (.inr rfl) (pe_call (G_law_source) (hr.mono (by decide)) (by rfl) T.g_law_source T.F_law_source.kp T.b_law_source .nil pass0 (pa_cons (pv 0) (pa_cons (pv 1) pa_nil))))
    (pss_cons (ps_set (i := 3) sc_law.nd rfl (.inl rfl) (pe_call (G_law_draw) (hr.mono (by decide)) (by rfl) T.g_law_draw T.F_law_draw.kp T.b_law_draw .nil pass0 (pa_cons (pv 2) (pa_cons (pe_op op_powW pe_int pe_int) pa_nil))))
    (pss_cons (ps_set (i := 4) sc_law.nd rfl (.inl rfl) (pe_op op_sub pe_int (pe_call (G_law_draw) (hr.mono (by decide)) (by rfl) T.g_law_draw T.F_law_draw.kp T.b_law_draw .nil pass0 (pa_cons (pv 2) (pa_cons pe_int pa_nil)))))
    (pss_cons (ps_set (i := 5) sc_law.nd rfl (.inr rfl) pe_str)
    (pss_cons (ps_set (i := 6) sc_law.nd rfl (.inl rfl) (kJoin (K := K) rfl pe_str (pe_lc (own := [("letter", 10)]) (by rfl) sc_law.nd (pi_range1 (by rfl) T.n_range (pa_cons (pe_call (G_law_draw) (hr.mono (by decide)) (by rfl) T.g_law_draw T.F_law_draw.kp T.b_law_draw .nil pass0 (pa_cons (pv 2) (pa_cons pe_int pa_nil))) pa_nil)) (blkOk_by (own := [("letter", 10)]) (N := ["script", "turn", "source", "some", "other", "chars", "text", "errors", "due", "first", "letter", "second", "error"]) (by first | decide +kernel | kernel_rfl)) (fun _ _ _ _ _ => (pg_name (i := 10) sc_law.nd rfl (by first | exact .inl rfl | exact .inr rfl))) (fun _ _ _ _ _ => pts_nil) (fun _ _ _ _ _ => (pe_ix (kIxU (K := K) rfl) (pv 5) (pe_call (G_law_draw) (hr.mono (by decide)) (by rfl) T.g_law_draw T.F_law_draw.kp T.b_law_draw .nil pass0 (pa_cons (pv 2) (pa_cons (pe_callB (kLen (K := K) rfl) (by rfl) T.n_len PySem.boot_len (pa_cons (pv 5) pa_nil)) pa_nil))) (fun _ _ => rfl))))))
    (pss_cons (ps_set (i := 7) sc_law.nd rfl (.inl rfl) (pe_lst (pa_cons (pe_mkX T.E_BadName.oex T.E_BadName.iC T.E_BadName.tI (G_BadName_init) (hr.mono (by decide)) T.b_BadName_init pass0 (by rfl) T.E_BadName.gC (pa_cons (pv 6) pa_nil)) (pa_cons (pe_mkX T.E_BadRound.oex T.E_BadRound.iC T.E_BadRound.tI (G_BadRound_init) (hr.mono (by decide)) T.b_BadRound_init pass0 (by rfl) T.E_BadRound.gC (pa_cons (pv 6) pa_nil)) (pa_cons (pe_mkX T.E_BadStop.oex T.E_BadStop.iC T.E_BadStop.tI (G_BadStop_init) (hr.mono (by decide)) T.b_BadStop_init pass0 (by rfl) T.E_BadStop.gC (pa_cons (pv 4) pa_nil)) (pa_cons (pe_mkX T.E_BadNet.oex T.E_BadNet.iC T.E_BadNet.tI (G_BadNet_init) (hr.mono (by decide)) T.b_BadNet_init pass0 (by rfl) T.E_BadNet.gC (pa_cons (pv 6) pa_nil)) (pa_cons (pe_mkX T.E_UnknownNode.oex T.E_UnknownNode.iC T.E_UnknownNode.tI (G_UnknownNode_init) (hr.mono (by decide)) T.b_UnknownNode_init pass0 (by rfl) T.E_UnknownNode.gC (pa_cons (pv 6) pa_nil)) (pa_cons (pe_mkX T.E_BadChange.oex T.E_BadChange.iC T.E_BadChange.tI (G_BadChange_init) (hr.mono (by decide)) T.b_BadChange_init pass0 (by rfl) T.E_BadChange.gC (pa_cons (pv 3) pa_nil)) pa_nil))))))))
    (pss_cons (ps_set (i := 7) sc_law.nd rfl (.inl rfl) (pe_op (kAdd (K := K) rfl) (pv 7) (pe_lst (pa_cons (pe_mkX T.E_BadLetter.oex T.E_BadLetter.iC T.E_BadLetter.tI (G_BadLetter_init) (hr.mono (by decide)) T.b_BadLetter_init pass0 (by rfl) T.E_BadLetter.gC (pa_cons (pv 6) pa_nil)) (pa_cons (pe_mkX0 T.E_NotInTime.oex T.E_NotInTime.iC T.E_NotInTime.tI (G_NotInTime_init) (hr.mono (by decide)) T.b_NotInTime_init pass0 (by rfl) T.E_NotInTime.gC) (pa_cons (pe_mkX T.E_TooFew.oex T.E_TooFew.iC T.E_TooFew.tI (G_TooFew_init) (hr.mono (by decide)) T.b_TooFew_init pass0 (by rfl) T.E_TooFew.gC (pa_cons (pv 4) pa_nil)) (pa_cons (pe_mkX T.E_UnknownField.oex T.E_UnknownField.iC T.E_UnknownField.tI (G_UnknownField_init) (hr.mono (by decide)) T.b_UnknownField_init pass0 (by rfl) T.E_UnknownField.gC (pa_cons (pv 6) pa_nil)) pa_nil)))))))
    (pss_cons (ps_setLc (i := 8) (own := [("first", 9)]) (by rfl) sc_law.nd rfl rfl (sw_true rfl rfl rfl (by first | decide +kernel | kernel_rfl)) (pi_range1 (by rfl) T.n_range (pa_cons pe_int pa_nil)) (blkOk_by (own := [("first", 9)]) (N := ["script", "turn", "source", "some", "other", "chars", "text", "errors", "due", "first", "letter", "second", "error"]) (by first | decide +kernel | kernel_rfl)) (fun _ _ _ _ _ => (pg_name (i := 9) sc_law.nd rfl (by first | exact .inl rfl | exact .inr rfl))) (fun _ _ _ _ _ => pts_nil) (fun _ _ _ _ _ => (pe_lc (own := [("second", 11)]) (by rfl) sc_law.nd (pi_range1 (by rfl) T.n_range (pa_cons pe_int pa_nil)) (blkOk_by (own := [("second", 11)]) (N := ["script", "turn", "source", "some", "other", "chars", "text", "errors", "due", "first", "letter", "second", "error"]) (by first | decide +kernel | kernel_rfl)) (fun _ _ _ _ _ => (pg_name (i := 11) sc_law.nd rfl (by first | exact .inl rfl | exact .inr rfl))) (fun _ _ _ _ _ => pts_nil) (fun _ _ _ _ _ => (pe_cmpR (op_eqU (K := K) rfl hu) (pv 9) (pv 11) (nomark _))))))
    (pss_cons (ps_if (pt_cmpR (op_neU (K := K) rfl hu) (pe_lc (own := [("error", 12)]) (by rfl) sc_law.nd (kSeq (K := K) rfl (pv 7)) (blkOk_by (own := [("error", 12)]) (N := ["script", "turn", "source", "some", "other", "chars", "text", "errors", "due", "first", "letter", "second", "error"]) (by first | decide +kernel | kernel_rfl)) (fun _ _ _ _ _ => (pg_name (i := 12) sc_law.nd rfl (by first | exact .inl rfl | exact .inr rfl))) (fun _ _ _ _ _ => pts_nil) (fun _ _ _ _ _ => (pe_call (G_law_flags) (hr.mono (by decide)) (by rfl) T.g_law_flags T.F_law_flags.kp T.b_law_flags .nil pass0 (pa_cons (pv 12) pa_nil)))) (pv 8) (nomark _))
      (pss_one (ps_ret pe_bl)) pss_nil)
    (pss_cons (ps_if (pt_cmpR (op_neU (K := K) rfl hu) (pe_lst (pa_cons (kFld (K := K) rfl (pe_ix (kIxU (K := K) rfl) (pv 7) pe_int (fun _ _ => rfl))) (pa_cons (kFld (K := K) rfl (pe_ix (kIxU (K := K) rfl) (pv 7) pe_int (fun _ _ => rfl))) (pa_cons (kFld (K := K) rfl (pe_ix (kIxU (K := K) rfl) (pv 7) pe_int (fun _ _ => rfl))) (pa_cons (kFld (K := K) rfl (pe_ix (kIxU (K := K) rfl) (pv 7) pe_int (fun _ _ => rfl))) pa_nil))))) (pe_lst (pa_cons (pv 6) (pa_cons (pv 6) (pa_cons (pv 4) (pa_cons (pv 6) pa_nil))))) (nomark _))
      (pss_one (ps_ret pe_bl)) pss_nil)
    (pss_cons (ps_if (pt_cmpR (op_neU (K := K) rfl hu) (pe_lst (pa_cons (kFld (K := K) rfl (pe_ix (kIxU (K := K) rfl) (pv 7) pe_int (fun _ _ => rfl))) (pa_cons (kFld (K := K) rfl (pe_ix (kIxU (K := K) rfl) (pv 7) pe_int (fun _ _ => rfl))) (pa_cons (kFld (K := K) rfl (pe_ix (kIxU (K := K) rfl) (pv 7) pe_int (fun _ _ => rfl))) (pa_cons (kFld (K := K) rfl (pe_ix (kIxU (K := K) rfl) (pv 7) pe_int (fun _ _ => rfl))) pa_nil))))) (pe_lst (pa_cons (pv 6) (pa_cons (pv 3) (pa_cons (pv 6) (pa_cons (pv 4) pa_nil))))) (nomark _))
      (pss_one (ps_ret pe_bl)) pss_nil)
    (pss_cons (ps_if (pt_cmpR (op_neU (K := K) rfl hu) (pe_lst (pa_cons (kFld (K := K) rfl (pe_ix (kIxU (K := K) rfl) (pv 7) pe_int (fun _ _ => rfl))) (pa_cons (kFld (K := K) rfl (pe_mkXk T.E_BadName.oex T.E_BadName.iC T.E_BadName.tI (G_BadName_init) (hr.mono (by decide)) T.k_BadName_init pass0 (by rfl) T.E_BadName.gC (pk_cons (pv 6) pk_nil) rfl)) (pa_cons (kFld (K := K) rfl (pe_mkXk T.E_BadRound.oex T.E_BadRound.iC T.E_BadRound.tI (G_BadRound_init) (hr.mono (by decide)) T.k_BadRound_init pass0 (by rfl) T.E_BadRound.gC (pk_cons (pv 6) pk_nil) rfl)) pa_nil)))) (pe_lst (pa_cons (pv 6) (pa_cons (pv 6) (pa_cons (pv 6) pa_nil)))) (nomark _))
      (pss_one (ps_ret pe_bl)) pss_nil)
    (pss_cons (ps_if (pt_cmpR (op_neU (K := K) rfl hu) (pe_lst (pa_cons (kFld (K := K) rfl (pe_mkXk T.E_BadStop.oex T.E_BadStop.iC T.E_BadStop.tI (G_BadStop_init) (hr.mono (by decide)) T.k_BadStop_init pass0 (by rfl) T.E_BadStop.gC (pk_cons (pv 3) pk_nil) rfl)) (pa_cons (kFld (K := K) rfl (pe_mkXk T.E_BadNet.oex T.E_BadNet.iC T.E_BadNet.tI (G_BadNet_init) (hr.mono (by decide)) T.k_BadNet_init pass0 (by rfl) T.E_BadNet.gC (pk_cons (pv 6) pk_nil) rfl)) (pa_cons (kFld (K := K) rfl (pe_mkXk T.E_UnknownNode.oex T.E_UnknownNode.iC T.E_UnknownNode.tI (G_UnknownNode_init) (hr.mono (by decide)) T.k_UnknownNode_init pass0 (by rfl) T.E_UnknownNode.gC (pk_cons (pv 6) pk_nil) rfl)) pa_nil)))) (pe_lst (pa_cons (pv 3) (pa_cons (pv 6) (pa_cons (pv 6) pa_nil)))) (nomark _))
      (pss_one (ps_ret pe_bl)) pss_nil)
    (pss_cons (ps_if (pt_cmpR (op_neU (K := K) rfl hu) (pe_lst (pa_cons (kFld (K := K) rfl (pe_mkXk T.E_BadChange.oex T.E_BadChange.iC T.E_BadChange.tI (G_BadChange_init) (hr.mono (by decide)) T.k_BadChange_init pass0 (by rfl) T.E_BadChange.gC (pk_cons (pv 4) pk_nil) rfl)) (pa_cons (kFld (K := K) rfl (pe_mkXk T.E_BadLetter.oex T.E_BadLetter.iC T.E_BadLetter.tI (G_BadLetter_init) (hr.mono (by decide)) T.k_BadLetter_init pass0 (by rfl) T.E_BadLetter.gC (pk_cons (pv 6) pk_nil) rfl)) (pa_cons (kFld (K := K) rfl (pe_mkXk T.E_TooFew.oex T.E_TooFew.iC T.E_TooFew.tI (G_TooFew_init) (hr.mono (by decide)) T.k_TooFew_init pass0 (by rfl) T.E_TooFew.gC (pk_cons (pv 3) pk_nil) rfl)) pa_nil)))) (pe_lst (pa_cons (pv 4) (pa_cons (pv 6) (pa_cons (pv 3) pa_nil)))) (nomark _))
      (pss_one (ps_ret pe_bl)) pss_nil)
    (pss_one (ps_if (pt_cmpR (op_neU (K := K) rfl hu) (kFld (K := K) rfl (pe_mkXk T.E_UnknownField.oex T.E_UnknownField.iC T.E_UnknownField.tI (G_UnknownField_init) (hr.mono (by decide)) T.k_UnknownField_init pass0 (by rfl) T.E_UnknownField.gC (pk_cons (pv 6) pk_nil) rfl)) (pv 6) (nomark _))
      (pss_one (ps_ret pe_bl)) pss_nil)))))))))))))))))
    (pss_one (ps_ret pe_bl))), ?_⟩
    have hb : ∀ z : Int, z = (if (if ((ns.map V.int).length : Int) < 3 then ((ns.map V.int).length : Int) else 3) > 1 then (if ((ns.map V.int).length : Int) < 3 then ((ns.map V.int).length : Int) else 3) else 1) → 0 ≤ z ∧ z ≤ 3 := by
      intro z hz
      rw [List.length_map] at hz
      split at hz <;> split at hz <;> omega
    refine ⟨_, rfl, _, _, rfl, .inl ⟨_, hS, rfl⟩, _, _, rfl, _, _, rfl, _, rfl, by have := hb _ rfl; omega, by have := hb _ rfl; omega,
      for_range (lo := 0) (fun i σ H1 => ∃ v1 v2 v3 v4 v5 v6 v7 v8 v9 v10 v11 v12, σ = [some (.ref a), v1, v2, v3, v4, v5, v6, v7, v8, v9, v10, v11, v12] ∧ Ex H H1) ⟨_, _, _, _, _, _, _, _, _, _, _, _, rfl, Ex.refl _⟩ ?_ ?_⟩
    · rintro i σ H1 hi ⟨v1, v2, v3, v4, v5, v6, v7, v8, v9, v10, v11, v12, rfl, e⟩
      have hi3 : i < 3 := by
        have := hb _ rfl
        omega
      -- source = _law_source(script, turn)
      refine ⟨_, rfl, _, rfl, a, ns, i, (by show [V.ref a, V.int ((0 : Int) + (i : Int))] = _; rw [Int.zero_add]), Evl.ex_l e hS, by omega, fun s H2 ns2 e2' s2 => ?_⟩
      -- some, other
      refine ⟨_, rfl, _, _, rfl, rfl, cpow_lit (by decide) (by decide) (by decide), s, _, 0, rfl, by decide, by decide, s2, by decide, fun m H3 m0 m1 k3 s3 => ?_⟩
      refine ⟨_, rfl, s, 61, 1, rfl, by decide, by decide, s3, by decide, fun o H4 o0 o1 k4 s4 => ⟨_, _, rfl, rfl, ?_⟩⟩
      -- text
      refine ⟨⟨_, rfl⟩, _, rfl, s, 12, 2, rfl, by decide, by decide, s4, by decide, fun l H5 l0 l1 k5 s5 => ⟨_, rfl, by omega, by omega, fun D nD => lcS_range (K := K) (lo := 0) (n := l.toNat) (s := s) (N := 3) (m := 1) (fun _ d => ∃ z : Str, d = .str z ∧ (z.length = 1 ∧ PyData.strOk z = true)) nD (Nat.lt_of_lt_of_le (show l.toNat < 12 by omega) (by decide)) s5 (fun _ => rfl) ?_ ?_⟩⟩
      · intro i2 H6 R hi2 k6 s6 hD6 nsD kk
        refine ⟨_, rfl, _, rfl, _, rfl, _, _, rfl, ⟨by decide, rfl⟩, s, _, _, rfl, by decide, by decide, s6, by omega, fun c H7 c0 c1 k7 s7 => ?_⟩
        have hc : c.toNat < (("abzAZ (*~)0123>\n" : Str).cps.toList).length := by
          have q : c < 16 := c1
          show c.toNat < 16
          omega
        refine .inr (.inr ⟨_, c, ("abzAZ (*~)0123>\n" : Str).cps.toList[c.toNat], rfl, rfl, by decide, ?_, ?_⟩)
        · have q := atI_nat (xs := ("abzAZ (*~)0123>\n" : Str).cps.toList) (j := c.toNat) (List.getElem?_eq_getElem hc)
          rw [Int.toNat_of_nonneg c0] at q
          exact q
        · exact kk _ _ H7 ⟨_, rfl, rfl, by
            have q := (by decide : ∀ c ∈ ("abzAZ (*~)0123>\n" : Str).cps.toList, c < 0x110000) _ (List.getElem_mem hc)
            simpa [PyData.strOk] using q⟩ k7 (by rw [show 3 + 1 * i2 + 1 = 3 + 1 * i2 + 1 from rfl]; exact s7) (.str _)
      · intro H6 xs ds k6 s6 hD6 ha nsD hl hf
        obtain ⟨ys, rfl, hy1, hy3⟩ := strs_of ha hf
        have hy2 : ∀ z ∈ ys, z.length = 1 := fun z m => (hy3 z m).1
        have ok : PyData.strOk (Txt.join (Str.ofString "") ys) = true := strOk_join (by decide +kernel) ys fun z m => (hy3 z m).2
        have hyl : ys.length < 12 := by omega
        refine ⟨_, D, ys, rfl, rfl, .inl (SqL.of hD6), ?_, ?_⟩
        · rw [sum_len1 ys hy2]
          show ys.length + ys.length * 0 ≤ _
          omega
        have ht : (Txt.join (Str.ofString "") ys).length ≤ 1000 := Nat.le_trans (join_len ys hy2) (by omega)
        generalize Txt.join (Str.ofString "") ys = t at ht ok ⊢
        have ft : FmtOk (.str t) := .inl ⟨t, rfl, ht⟩
        have fm : FmtOk (.int m) := .inr ⟨m, rfl, Nat.lt_of_lt_of_le (log2_lt_of (n := 64) (by decide) (natAbs_lt64 m0 (Int.lt_trans m1 (by decide)))) (by decide)⟩
        have fo : FmtOk (.int (0 - o)) := .inr ⟨_, rfl, Nat.lt_of_lt_of_le (log2_lt_of (n := 64) (by decide) (show (0 - o).natAbs < 2 ^ 64 by omega)) (by decide)⟩
        -- errors
        refine hGN ?_
        dsimp only
        refine hSeq (hAsg (hLst (hCons ?_)))
        refine mkX_reads ft (fun R r => ⟨_, rfl, r⟩) fun a0 h0 n0 e0 x0 => ?_
        refine hCons ?_
        refine mkX_reads ft (fun R r => ⟨_, rfl, r⟩) fun a1 h1 n1 e1 x1 => ?_
        refine hCons ?_
        refine mkX_reads fo (fun R r => ⟨_, rfl, r⟩) fun a2 h2 n2 e2 x2 => ?_
        refine hCons ?_
        refine mkX_reads ft (fun R r => ⟨_, rfl, r⟩) fun a3 h3 n3 e3 x3 => ?_
        refine hCons ?_
        refine mkX_reads ft (fun R r => ⟨_, rfl, r⟩) fun a4 h4 n4 e4 x4 => ?_
        refine hCons ?_
        refine mkX_reads fm (fun R r => ⟨_, rfl, r⟩) fun a5 h5 n5 e5 x5 => ?_
        refine hNil ⟨by show 6 ≤ sizeLine; decide, fun p1 np1 => ?_⟩
        dsimp only
        refine hSeq (hAsg (hOp (hVar rfl (hLst (hCons ?_)))))
        refine mkX_reads ft (fun R r => ⟨_, rfl, r⟩) fun a6 h6 n6 e6 x6 => ?_
        refine hCons ?_
        refine mkX0_reads fun a7 h7 n7 e7 x7 => ?_
        refine hCons ?_
        refine mkX_reads fo (fun R r => ⟨_, rfl, r⟩) fun a8 h8 n8 e8 x8 => ?_
        refine hCons ?_
        refine mkX_reads ft (fun R r => ⟨_, rfl, r⟩) fun a9 h9 n9 e9 x9 => ?_
        refine hNil ⟨by show 4 ≤ sizeLine; decide, fun p2 np2 => .inr (.inr (.inl ⟨_, _, _, _, rfl, rfl, Ex.new np2 _ _ (e9 _ _ (e8 _ _ (e7 _ _ (e6 _ _ upd_same)))), upd_same, by show 10 ≤ sizeLine; decide, fun p3 np3 => ?_⟩))⟩
        have u1 := Ex.new (o := .lst [V.ref a0, V.ref a1, V.ref a2, V.ref a3, V.ref a4, V.ref a5]) np1
        have u2 := (Ex.new (o := .lst [V.ref a6, V.ref a7, V.ref a8, V.ref a9]) np2).trans (Ex.new (o := .lst ([V.ref a0, V.ref a1, V.ref a2, V.ref a3, V.ref a4, V.ref a5] ++ [V.ref a6, V.ref a7, V.ref a8, V.ref a9])) np3)
        have t9 := u2
        have t8 := e9.trans t9
        have t7 := e8.trans t8
        have t6 := e7.trans t7
        have t5 := u1.trans (e6.trans t6)
        have t4 := e5.trans t5
        have t3 := e4.trans t4
        have t2 := e3.trans t3
        have t1 := e2.trans t2
        have t0 := e1.trans t1
        have E0 : Es K Z t m (0 - o) p3 a0 a1 a2 a3 a4 a5 a6 a7 a8 a9 (upd (upd h9 p2 (.lst [V.ref a6, V.ref a7, V.ref a8, V.ref a9])) p3 (.lst ([V.ref a0, V.ref a1, V.ref a2, V.ref a3, V.ref a4, V.ref a5] ++ [V.ref a6, V.ref a7, V.ref a8, V.ref a9]))) :=
          ⟨SqL.of upd_same, x0.ex t0, x1.ex t1, x2.ex t2, x3.ex t3, x4.ex t4, x5.ex t5, x6.ex t6, t7 _ _ x7, x8.ex t8, x9.ex t9⟩
        have eH : Ex H (upd (upd h9 p2 (.lst [V.ref a6, V.ref a7, V.ref a8, V.ref a9])) p3 (.lst ([V.ref a0, V.ref a1, V.ref a2, V.ref a3, V.ref a4, V.ref a5] ++ [V.ref a6, V.ref a7, V.ref a8, V.ref a9]))) := by
          refine Ex.trans ?_ (e0.trans t0)
          intro b ob hb
          have q1 := e _ _ hb
          have ns : b ≠ s := ne_of_none q1 ns2
          exact k6 _ _ ns (k5 _ _ ns (k4 _ _ ns (k3 _ _ ns (e2' _ _ q1))))
        generalize (upd (upd h9 p2 (.lst [V.ref a6, V.ref a7, V.ref a8, V.ref a9])) p3 (.lst ([V.ref a0, V.ref a1, V.ref a2, V.ref a3, V.ref a4, V.ref a5] ++ [V.ref a6, V.ref a7, V.ref a8, V.ref a9]))) = G at E0 eH ⊢
        -- due
        dsimp only
        refine hSeq ?_
        refine ⟨_, rfl, by decide, by decide, fun D nD => lcD_range (K := K) (lo := 0) (n := 10) (fun i d => d = row i) nD (by decide) (fun _ => rfl) ?_ ?_⟩
        · intro i4 H8 R hi4 e8 hD8 kk
          refine ⟨_, rfl, by decide, by decide, fun D2 nD2 => lcD_range (K := K) (lo := 0) (n := 12) (fun k d => d = .bool (decide (i4 = k))) nD2 (by decide) (fun _ => rfl) ?_ ?_⟩
          · intro k4 H9 R2 hk4 e9 hD9 kk2
            refine ⟨_, rfl, _, rfl, .inl ⟨rfl, kk2 _ _ _ rfl (Ex.refl _) ?_⟩⟩
            have eb : decide (V.int ((0 : Int) + (i4 : Int)) = V.int ((0 : Int) + (k4 : Int))) = decide (i4 = k4) := by
              by_cases h : i4 = k4
              · rw [h, decide_eq_true rfl, decide_eq_true rfl]
              · rw [decide_eq_false h, decide_eq_false fun z => h (by have := V.int.inj z; omega)]
            rw [eb]
            exact .bl _
          · intro H9 xs2 ds2 e9 hD9 ha2 hl2 hf2
            have ed := list_of hl2 hf2
            have nDD : D2 ≠ D := fun z => hD8 (by rw [← z]; exact nD2)
            refine kk (.ref D2) (row i4) H9 rfl e9 ?_
            rw [show row i4 = PyData.list ds2 by rw [ed]; rfl]
            refine .lst (.inl (.inl (by rw [msk_ne nDD]; exact hD9))) (dpAll_flat ha2 fun d hd => ?_)
            rw [ed] at hd
            obtain ⟨k5, _, rfl⟩ := List.mem_map.mp hd
            rfl
        intro H8 xd dd e8 hD8 had hld hfd
        have edd := list_of hld hfd
        have dpD : ∀ G2, Ex H8 G2 → Dp K G2 (.ref D) (.list ((List.range 10).map row)) := fun G2 eg => by
          rw [← edd]
          exact (Dp.lst (.inl (.inl hD8)) (had.ex' msk_ex)).ex' eg
        -- [_law_flags(error) for error in errors] != due
        refine hGN ?_
        dsimp only
        have E8 := E0.ex e8
        refine hSeq (hIf (hTest (hOp ?_)))
        refine .inl ⟨_, rfl, p3, rfl, ⟨_, E8.L⟩, fun D3 nD3 => lcD_list (K := K) (fun i d => d = row i) nD3 E8.L (by show 10 < sizeLine; decide) (fun _ => rfl) ?_ ?_⟩
        · intro i5 x5' H9 R hx5 e9 hD9 kk
          obtain ⟨ax, C, b0, b1, b2, b3, b4, b5, b6, b7, b8, b9, rfl, hX, hEx, hfl, hfv, hrow⟩ := E8.row T i5 x5' hx5
          refine ⟨_, rfl, ax, C, b0, b1, b2, b3, b4, b5, b6, b7, b8, b9, true, true, rfl, hX.ex e9, hEx, hfl, hfv, fun p H10 np e10 hp => kk _ _ H10 rfl e10 ?_⟩
          have npD : p ≠ D3 := fun z => hD9 (by rw [← z]; exact np)
          rw [hrow]
          exact .lst (.inl (.inl (by rw [msk_ne npD]; exact hp))) (dpAll_bl _)
        intro H9 xf df e9 hD9 haf hlf hff
        have edf := list_of hlf hff
        have E9 := E8.ex e9
        refine hVar rfl (.inr ⟨_, _, Dp.lst (.inl (.inl hD9)) (haf.ex' msk_ex), dpD H9 e9, ?_, rfl, _, rfl, ?_⟩)
        · rw [edf]
          rfl
        have ev1 : PyData.eqv (.list df) (.list ((List.range 10).map row)) = true := by
          rw [edf]
          exact PySem.SeqAt.eqv_refl_plain _ rfl
        rw [ev1]
        refine iteF ?_
        refine hNext ?_
        dsimp only
        -- the fields
        refine hSeq (hIf (hTest (hOp (hLst (hCons ?_)))))
        refine xv_reads T.E_BadName.ex (T.E_BadName.noF _ (by simp)) E9.x0 (fun R r => hOp (hVar rfl (.inl ⟨_, _, 0, _, rfl, rfl, E9.L, rfl, r⟩))) (hCons ?_)
        refine xv_reads T.E_BadRound.ex (T.E_BadRound.noF _ (by simp)) E9.x1 (fun R r => hOp (hVar rfl (.inl ⟨_, _, 1, _, rfl, rfl, E9.L, rfl, r⟩))) (hCons ?_)
        refine xv_reads T.E_BadStop.ex (T.E_BadStop.noF _ (by simp)) E9.x2 (fun R r => hOp (hVar rfl (.inl ⟨_, _, 2, _, rfl, rfl, E9.L, rfl, r⟩))) (hCons ?_)
        refine xv_reads T.E_BadNet.ex (T.E_BadNet.noF _ (by simp)) E9.x3 (fun R r => hOp (hVar rfl (.inl ⟨_, _, 3, _, rfl, rfl, E9.L, rfl, r⟩))) (hNil ⟨by show 4 ≤ sizeLine; decide, fun q1 nq1 => ?_⟩)
        refine hLst (hCons (hVar rfl (hCons (hVar rfl (hCons (hVar rfl (hCons (hVar rfl (hNil ⟨by show 4 ≤ sizeLine; decide, fun q2 nq2 => ?_⟩)))))))))
        refine .inr ⟨.list [.str t, .str t, .int (0 - o), .str t], .list [.str t, .str t, .int (0 - o), .str t], .lst (SqL.of (by rw [upd_ne (ne_of_none upd_same nq2)]; exact upd_same)) (.cons (.str t) (.cons (.str t) (.cons (.int _) (.cons (.str t) .nil)))), .lst (SqL.of upd_same) (.cons (.str t) (.cons (.str t) (.cons (.int _) (.cons (.str t) .nil)))), by simp [SeqAt.shaped, PyData.canLay0, PyData.canLayAll0, PyData.depth, PyData.depthAll, ok], by simp [SeqAt.shaped, PyData.canLay0, PyData.canLayAll0, PyData.depth, PyData.depthAll, ok], _, rfl, ?_⟩
        rw [PySem.SeqAt.eqv_refl_plain _ rfl]
        refine iteF (hNext ?_)
        dsimp only
        have E10 := E9.ex ((Ex.new nq1).trans (Ex.new (o := .lst [V.str t, V.str t, V.int (0 - o), V.str t]) nq2))
        refine hSeq (hIf (hTest (hOp (hLst (hCons ?_)))))
        refine xv_reads T.E_UnknownNode.ex (T.E_UnknownNode.noF _ (by simp)) E10.x4 (fun R r => hOp (hVar rfl (.inl ⟨_, _, 4, _, rfl, rfl, E10.L, rfl, r⟩))) (hCons ?_)
        refine xv_reads T.E_BadChange.ex (T.E_BadChange.noF _ (by simp)) E10.x5 (fun R r => hOp (hVar rfl (.inl ⟨_, _, 5, _, rfl, rfl, E10.L, rfl, r⟩))) (hCons ?_)
        refine xv_reads T.E_BadLetter.ex (T.E_BadLetter.noF _ (by simp)) E10.x6 (fun R r => hOp (hVar rfl (.inl ⟨_, _, 6, _, rfl, rfl, E10.L, rfl, r⟩))) (hCons ?_)
        refine xv_reads T.E_TooFew.ex (T.E_TooFew.noF _ (by simp)) E10.x8 (fun R r => hOp (hVar rfl (.inl ⟨_, _, 8, _, rfl, rfl, E10.L, rfl, r⟩))) (hNil ⟨by show 4 ≤ sizeLine; decide, fun q3 nq3 => ?_⟩)
        refine hLst (hCons (hVar rfl (hCons (hVar rfl (hCons (hVar rfl (hCons (hVar rfl (hNil ⟨by show 4 ≤ sizeLine; decide, fun q4 nq4 => ?_⟩)))))))))
        refine .inr ⟨.list [.str t, .int m, .str t, .int (0 - o)], .list [.str t, .int m, .str t, .int (0 - o)], .lst (SqL.of (by rw [upd_ne (ne_of_none upd_same nq4)]; exact upd_same)) (.cons (.str t) (.cons (.int _) (.cons (.str t) (.cons (.int _) .nil)))), .lst (SqL.of upd_same) (.cons (.str t) (.cons (.int _) (.cons (.str t) (.cons (.int _) .nil)))), by simp [SeqAt.shaped, PyData.canLay0, PyData.canLayAll0, PyData.depth, PyData.depthAll, ok], by simp [SeqAt.shaped, PyData.canLay0, PyData.canLayAll0, PyData.depth, PyData.depthAll, ok], _, rfl, ?_⟩
        rw [PySem.SeqAt.eqv_refl_plain _ rfl]
        refine iteF (hNext ?_)
        dsimp only
        have E11 := E10.ex ((Ex.new nq3).trans (Ex.new (o := .lst [V.str t, V.int m, V.str t, V.int (0 - o)]) nq4))
        have X11 := (((Ex.new nq1).trans (Ex.new (o := .lst [V.str t, V.str t, V.int (0 - o), V.str t]) nq2)).trans (Ex.new nq3)).trans (Ex.new (o := .lst [V.str t, V.int m, V.str t, V.int (0 - o)]) nq4)
        refine hSeq (hIf (hTest (hOp (hLst (hCons ?_)))))
        refine xv_reads T.E_UnknownField.ex (T.E_UnknownField.noF _ (by simp)) E11.x9 (fun R r => hOp (hVar rfl (.inl ⟨_, _, 9, _, rfl, rfl, E11.L, rfl, r⟩))) (hCons ?_)
        refine xvm_reads T.E_BadName.ex (T.E_BadName.noF _ (by simp)) ft (fun R r => hCons (hVar rfl r)) fun g1 y1 => (hCons ?_)
        refine xvm_reads T.E_BadRound.ex (T.E_BadRound.noF _ (by simp)) ft (fun R r => hCons (hVar rfl r)) fun g2 y2 => (hNil ⟨by show 3 ≤ sizeLine; decide, fun q5 nq5 => ?_⟩)
        refine hLst (hCons (hVar rfl (hCons (hVar rfl (hCons (hVar rfl (hNil ⟨by show 3 ≤ sizeLine; decide, fun q6 nq6 => ?_⟩)))))))
        refine .inr ⟨.list [.str t, .str t, .str t], .list [.str t, .str t, .str t], .lst (SqL.of (by rw [upd_ne (ne_of_none upd_same nq6)]; exact upd_same)) (.cons (.str t) (.cons (.str t) (.cons (.str t) .nil))), .lst (SqL.of upd_same) (.cons (.str t) (.cons (.str t) (.cons (.str t) .nil))), by simp [SeqAt.shaped, PyData.canLay0, PyData.canLayAll0, PyData.depth, PyData.depthAll, ok], by simp [SeqAt.shaped, PyData.canLay0, PyData.canLayAll0, PyData.depth, PyData.depthAll, ok], _, rfl, ?_⟩
        rw [PySem.SeqAt.eqv_refl_plain _ rfl]
        refine iteF (hNext ?_)
        dsimp only
        refine hSeq (hIf (hTest (hOp (hLst (hCons ?_)))))
        refine xvm_reads T.E_BadStop.ex (T.E_BadStop.noF _ (by simp)) fm (fun R r => hCons (hVar rfl r)) fun g3 y3 => (hCons ?_)
        refine xvm_reads T.E_BadNet.ex (T.E_BadNet.noF _ (by simp)) ft (fun R r => hCons (hVar rfl r)) fun g4 y4 => (hCons ?_)
        refine xvm_reads T.E_UnknownNode.ex (T.E_UnknownNode.noF _ (by simp)) ft (fun R r => hCons (hVar rfl r)) fun g5 y5 => (hNil ⟨by show 3 ≤ sizeLine; decide, fun q7 nq7 => ?_⟩)
        refine hLst (hCons (hVar rfl (hCons (hVar rfl (hCons (hVar rfl (hNil ⟨by show 3 ≤ sizeLine; decide, fun q8 nq8 => ?_⟩)))))))
        refine .inr ⟨.list [.int m, .str t, .str t], .list [.int m, .str t, .str t], .lst (SqL.of (by rw [upd_ne (ne_of_none upd_same nq8)]; exact upd_same)) (.cons (.int m) (.cons (.str t) (.cons (.str t) .nil))), .lst (SqL.of upd_same) (.cons (.int m) (.cons (.str t) (.cons (.str t) .nil))), by simp [SeqAt.shaped, PyData.canLay0, PyData.canLayAll0, PyData.depth, PyData.depthAll, ok], by simp [SeqAt.shaped, PyData.canLay0, PyData.canLayAll0, PyData.depth, PyData.depthAll, ok], _, rfl, ?_⟩
        rw [PySem.SeqAt.eqv_refl_plain _ rfl]
        refine iteF (hNext ?_)
        dsimp only
        refine hSeq (hIf (hTest (hOp (hLst (hCons ?_)))))
        refine xvm_reads T.E_BadChange.ex (T.E_BadChange.noF _ (by simp)) fo (fun R r => hCons (hVar rfl r)) fun g6 y6 => (hCons ?_)
        refine xvm_reads T.E_BadLetter.ex (T.E_BadLetter.noF _ (by simp)) ft (fun R r => hCons (hVar rfl r)) fun g7 y7 => (hCons ?_)
        refine xvm_reads T.E_TooFew.ex (T.E_TooFew.noF _ (by simp)) fm (fun R r => hCons (hVar rfl r)) fun g8 y8 => (hNil ⟨by show 3 ≤ sizeLine; decide, fun q9 nq9 => ?_⟩)
        refine hLst (hCons (hVar rfl (hCons (hVar rfl (hCons (hVar rfl (hNil ⟨by show 3 ≤ sizeLine; decide, fun q10 nq10 => ?_⟩)))))))
        refine .inr ⟨.list [.int (0 - o), .str t, .int m], .list [.int (0 - o), .str t, .int m], .lst (SqL.of (by rw [upd_ne (ne_of_none upd_same nq10)]; exact upd_same)) (.cons (.int _) (.cons (.str t) (.cons (.int m) .nil))), .lst (SqL.of upd_same) (.cons (.int _) (.cons (.str t) (.cons (.int m) .nil))), by simp [SeqAt.shaped, PyData.canLay0, PyData.canLayAll0, PyData.depth, PyData.depthAll, ok], by simp [SeqAt.shaped, PyData.canLay0, PyData.canLayAll0, PyData.depth, PyData.depthAll, ok], _, rfl, ?_⟩
        rw [PySem.SeqAt.eqv_refl_plain _ rfl]
        refine iteF (hNext ?_)
        dsimp only
        refine hIf (hTest (hOp ?_))
        refine xvm_reads T.E_UnknownField.ex (T.E_UnknownField.noF _ (by simp)) ft (fun R r => hCons (hVar rfl r)) fun g9 y9 => hVar rfl (.inl ⟨rfl, _, rfl, ?_⟩)
        rw [decide_eq_true rfl]
        refine iteF (hNext ?_)
        refine ⟨_, _, _, _, _, _, _, _, _, _, _, _, rfl, ?_⟩
        refine eH.trans (e8.trans (e9.trans (X11.trans (y1.trans (y2.trans (((Ex.new nq5).trans (Ex.new (o := .lst [V.str t, V.str t, V.str t]) nq6)).trans (y3.trans (y4.trans (y5.trans (((Ex.new nq7).trans (Ex.new (o := .lst [V.int m, V.str t, V.str t]) nq8)).trans (y6.trans (y7.trans (y8.trans (((Ex.new nq9).trans (Ex.new (o := .lst [V.int (0 - o), V.str t, V.int m]) nq10)).trans y9))))))))))))))
    · rintro σ H1 ⟨v1, v2, v3, v4, v5, v6, v7, v8, v9, v10, v11, v12, rfl, e⟩
      exact k _
end
end Hr

set_option maxHeartbeats 8000000
namespace Hr
open PySem PySem.Spec PyProof.Rows L2
open Evl (Ex)

theorem cls_of {K : PySem.W.Frag} {nm q : Str} {C N : Addr} {bs bm : List Value} {sn : List Str} {sub : List Value} {ab : Bool} {col : Option Bool} {dd : Option Addr} {k0 k1 k2 k3 k5 : Option Value} {nw : String} (h : K.lookup C = some (excClassObj nm q C N bs bm true sn sub ab col dd k0 k1 k2 k3 k5 nw)) : ∃ cd, PySem.W.clsIn K C = some cd := by
  unfold PySem.W.clsIn
  rw [h]
  exact ⟨_, rfl⟩
theorem nof0 {K : PySem.W.Frag} {C : Addr} : ∀ g ∈ ([] : List Str), PySem.W.findIn K (.ref C) g = some none := fun _ h => by cases h
theorem nof1 {K : PySem.W.Frag} {C : Addr} {f : Str} (h : PySem.W.findIn K (.ref C) f = some none) : ∀ g ∈ [f], PySem.W.findIn K (.ref C) g = some none := fun g hg => by
  rw [List.mem_singleton.mp hg]
  exact h
theorem txt_mk {P : Program} {K : PySem.W.Frag} {h : Heap} {mg : Str → Option Value} (X : K.In h) (G : h.Ns mainGlobals mg)
    {f_law_source : Addr} {od_law_source an_law_source : Option Addr} {sl_law_source : Array (Option Value)} {oc_law_source kV_law_source dc_law_source pm_law_source cd_law_source ct_law_source : Value}
    {f_law_draw : Addr} {od_law_draw an_law_draw : Option Addr} {sl_law_draw : Array (Option Value)} {oc_law_draw kV_law_draw dc_law_draw pm_law_draw cd_law_draw ct_law_draw : Value}
    {f_law_flags : Addr} {od_law_flags an_law_flags : Option Addr} {sl_law_flags : Array (Option Value)} {oc_law_flags kV_law_flags dc_law_flags pm_law_flags cd_law_flags ct_law_flags : Value}
    {f_law : Addr} {od_law an_law : Option Addr} {sl_law : Array (Option Value)} {oc_law kV_law dc_law pm_law cd_law ct_law : Value}
    {c_RoundError : Addr}
    {c_BadName : Addr}
    {c_BadRound : Addr}
    {c_BadStop : Addr}
    {c_BadNet : Addr}
    {c_UnknownNode : Addr}
    {c_BadChange : Addr}
    {c_BadLetter : Addr}
    {c_NotInTime : Addr}
    {c_TooFew : Addr}
    {c_UnknownField : Addr}
    {f_BadName_init cc_BadName_init cda_BadName_init N_BadName : Addr} {od_BadName_init an_BadName_init cdd_BadName_init cld_BadName_init dd_BadName : Option Addr} {sl_BadName_init ccs_BadName_init csl_BadName_init : Array (Option Value)} {vs_BadName_init : Array Value} {tf_BadName_init : Tok} {file_BadName_init nm_BadName q_BadName : Str} {bs_BadName sub_BadName : List Value} {sn_BadName : List Str} {ab_BadName : Bool} {col_BadName : Option Bool} {m0_BadName m1_BadName m2_BadName m3_BadName m5_BadName : Option Value} {oc_BadName_init kV_BadName_init dc_BadName_init pm_BadName_init ct_BadName_init ccl_BadName_init cl_BadName_init : Value}
    {f_BadRound_init cc_BadRound_init cda_BadRound_init N_BadRound : Addr} {od_BadRound_init an_BadRound_init cdd_BadRound_init cld_BadRound_init dd_BadRound : Option Addr} {sl_BadRound_init ccs_BadRound_init csl_BadRound_init : Array (Option Value)} {vs_BadRound_init : Array Value} {tf_BadRound_init : Tok} {file_BadRound_init nm_BadRound q_BadRound : Str} {bs_BadRound sub_BadRound : List Value} {sn_BadRound : List Str} {ab_BadRound : Bool} {col_BadRound : Option Bool} {m0_BadRound m1_BadRound m2_BadRound m3_BadRound m5_BadRound : Option Value} {oc_BadRound_init kV_BadRound_init dc_BadRound_init pm_BadRound_init ct_BadRound_init ccl_BadRound_init cl_BadRound_init : Value}
    {f_BadStop_init cc_BadStop_init cda_BadStop_init N_BadStop : Addr} {od_BadStop_init an_BadStop_init cdd_BadStop_init cld_BadStop_init dd_BadStop : Option Addr} {sl_BadStop_init ccs_BadStop_init csl_BadStop_init : Array (Option Value)} {vs_BadStop_init : Array Value} {tf_BadStop_init : Tok} {file_BadStop_init nm_BadStop q_BadStop : Str} {bs_BadStop sub_BadStop : List Value} {sn_BadStop : List Str} {ab_BadStop : Bool} {col_BadStop : Option Bool} {m0_BadStop m1_BadStop m2_BadStop m3_BadStop m5_BadStop : Option Value} {oc_BadStop_init kV_BadStop_init dc_BadStop_init pm_BadStop_init ct_BadStop_init ccl_BadStop_init cl_BadStop_init : Value}
    {f_BadNet_init cc_BadNet_init cda_BadNet_init N_BadNet : Addr} {od_BadNet_init an_BadNet_init cdd_BadNet_init cld_BadNet_init dd_BadNet : Option Addr} {sl_BadNet_init ccs_BadNet_init csl_BadNet_init : Array (Option Value)} {vs_BadNet_init : Array Value} {tf_BadNet_init : Tok} {file_BadNet_init nm_BadNet q_BadNet : Str} {bs_BadNet sub_BadNet : List Value} {sn_BadNet : List Str} {ab_BadNet : Bool} {col_BadNet : Option Bool} {m0_BadNet m1_BadNet m2_BadNet m3_BadNet m5_BadNet : Option Value} {oc_BadNet_init kV_BadNet_init dc_BadNet_init pm_BadNet_init ct_BadNet_init ccl_BadNet_init cl_BadNet_init : Value}
    {f_UnknownNode_init cc_UnknownNode_init cda_UnknownNode_init N_UnknownNode : Addr} {od_UnknownNode_init an_UnknownNode_init cdd_UnknownNode_init cld_UnknownNode_init dd_UnknownNode : Option Addr} {sl_UnknownNode_init ccs_UnknownNode_init csl_UnknownNode_init : Array (Option Value)} {vs_UnknownNode_init : Array Value} {tf_UnknownNode_init : Tok} {file_UnknownNode_init nm_UnknownNode q_UnknownNode : Str} {bs_UnknownNode sub_UnknownNode : List Value} {sn_UnknownNode : List Str} {ab_UnknownNode : Bool} {col_UnknownNode : Option Bool} {m0_UnknownNode m1_UnknownNode m2_UnknownNode m3_UnknownNode m5_UnknownNode : Option Value} {oc_UnknownNode_init kV_UnknownNode_init dc_UnknownNode_init pm_UnknownNode_init ct_UnknownNode_init ccl_UnknownNode_init cl_UnknownNode_init : Value}
    {f_BadChange_init cc_BadChange_init cda_BadChange_init N_BadChange : Addr} {od_BadChange_init an_BadChange_init cdd_BadChange_init cld_BadChange_init dd_BadChange : Option Addr} {sl_BadChange_init ccs_BadChange_init csl_BadChange_init : Array (Option Value)} {vs_BadChange_init : Array Value} {tf_BadChange_init : Tok} {file_BadChange_init nm_BadChange q_BadChange : Str} {bs_BadChange sub_BadChange : List Value} {sn_BadChange : List Str} {ab_BadChange : Bool} {col_BadChange : Option Bool} {m0_BadChange m1_BadChange m2_BadChange m3_BadChange m5_BadChange : Option Value} {oc_BadChange_init kV_BadChange_init dc_BadChange_init pm_BadChange_init ct_BadChange_init ccl_BadChange_init cl_BadChange_init : Value}
    {f_BadLetter_init cc_BadLetter_init cda_BadLetter_init N_BadLetter : Addr} {od_BadLetter_init an_BadLetter_init cdd_BadLetter_init cld_BadLetter_init dd_BadLetter : Option Addr} {sl_BadLetter_init ccs_BadLetter_init csl_BadLetter_init : Array (Option Value)} {vs_BadLetter_init : Array Value} {tf_BadLetter_init : Tok} {file_BadLetter_init nm_BadLetter q_BadLetter : Str} {bs_BadLetter sub_BadLetter : List Value} {sn_BadLetter : List Str} {ab_BadLetter : Bool} {col_BadLetter : Option Bool} {m0_BadLetter m1_BadLetter m2_BadLetter m3_BadLetter m5_BadLetter : Option Value} {oc_BadLetter_init kV_BadLetter_init dc_BadLetter_init pm_BadLetter_init ct_BadLetter_init ccl_BadLetter_init cl_BadLetter_init : Value}
    {f_NotInTime_init cc_NotInTime_init cda_NotInTime_init N_NotInTime : Addr} {od_NotInTime_init an_NotInTime_init cdd_NotInTime_init cld_NotInTime_init dd_NotInTime : Option Addr} {sl_NotInTime_init ccs_NotInTime_init csl_NotInTime_init : Array (Option Value)} {vs_NotInTime_init : Array Value} {tf_NotInTime_init : Tok} {file_NotInTime_init nm_NotInTime q_NotInTime : Str} {bs_NotInTime sub_NotInTime : List Value} {sn_NotInTime : List Str} {ab_NotInTime : Bool} {col_NotInTime : Option Bool} {m0_NotInTime m1_NotInTime m2_NotInTime m3_NotInTime m5_NotInTime : Option Value} {oc_NotInTime_init kV_NotInTime_init dc_NotInTime_init pm_NotInTime_init ct_NotInTime_init ccl_NotInTime_init cl_NotInTime_init : Value}
    {f_TooFew_init cc_TooFew_init cda_TooFew_init N_TooFew : Addr} {od_TooFew_init an_TooFew_init cdd_TooFew_init cld_TooFew_init dd_TooFew : Option Addr} {sl_TooFew_init ccs_TooFew_init csl_TooFew_init : Array (Option Value)} {vs_TooFew_init : Array Value} {tf_TooFew_init : Tok} {file_TooFew_init nm_TooFew q_TooFew : Str} {bs_TooFew sub_TooFew : List Value} {sn_TooFew : List Str} {ab_TooFew : Bool} {col_TooFew : Option Bool} {m0_TooFew m1_TooFew m2_TooFew m3_TooFew m5_TooFew : Option Value} {oc_TooFew_init kV_TooFew_init dc_TooFew_init pm_TooFew_init ct_TooFew_init ccl_TooFew_init cl_TooFew_init : Value}
    {f_UnknownField_init cc_UnknownField_init cda_UnknownField_init N_UnknownField : Addr} {od_UnknownField_init an_UnknownField_init cdd_UnknownField_init cld_UnknownField_init dd_UnknownField : Option Addr} {sl_UnknownField_init ccs_UnknownField_init csl_UnknownField_init : Array (Option Value)} {vs_UnknownField_init : Array Value} {tf_UnknownField_init : Tok} {file_UnknownField_init nm_UnknownField q_UnknownField : Str} {bs_UnknownField sub_UnknownField : List Value} {sn_UnknownField : List Str} {ab_UnknownField : Bool} {col_UnknownField : Option Bool} {m0_UnknownField m1_UnknownField m2_UnknownField m3_UnknownField m5_UnknownField : Option Value} {oc_UnknownField_init kV_UnknownField_init dc_UnknownField_init pm_UnknownField_init ct_UnknownField_init ccl_UnknownField_init cl_UnknownField_init : Value}
    (g_law_source : PySem.W.nsIn K mainGlobals "_law_source" = some (some (.ref f_law_source)))
    (l_law_source : K.lookup f_law_source = some ⟨oc_law_source, od_law_source, .func (PySem.W.fnOf "_law_source" "_law_source" (defArgs s_law_source) (defBody s_law_source) (defScope s_law_source) .none kV_law_source dc_law_source pm_law_source an_law_source cd_law_source ct_law_source), sl_law_source⟩)
    (cd__law_source : PySem.W.codeIn K cd_law_source "_law_source" = true)
    (kp_law_source : PySem.W.keepIn K (.ref f_law_source) = true)
    (g_law_draw : PySem.W.nsIn K mainGlobals "_law_draw" = some (some (.ref f_law_draw)))
    (l_law_draw : K.lookup f_law_draw = some ⟨oc_law_draw, od_law_draw, .func (PySem.W.fnOf "_law_draw" "_law_draw" (defArgs s_law_draw) (defBody s_law_draw) (defScope s_law_draw) .none kV_law_draw dc_law_draw pm_law_draw an_law_draw cd_law_draw ct_law_draw), sl_law_draw⟩)
    (cd__law_draw : PySem.W.codeIn K cd_law_draw "_law_draw" = true)
    (kp_law_draw : PySem.W.keepIn K (.ref f_law_draw) = true)
    (g_law_flags : PySem.W.nsIn K mainGlobals "_law_flags" = some (some (.ref f_law_flags)))
    (l_law_flags : K.lookup f_law_flags = some ⟨oc_law_flags, od_law_flags, .func (PySem.W.fnOf "_law_flags" "_law_flags" (defArgs s_law_flags) (defBody s_law_flags) (defScope s_law_flags) .none kV_law_flags dc_law_flags pm_law_flags an_law_flags cd_law_flags ct_law_flags), sl_law_flags⟩)
    (cd__law_flags : PySem.W.codeIn K cd_law_flags "_law_flags" = true)
    (kp_law_flags : PySem.W.keepIn K (.ref f_law_flags) = true)
    (g_law : PySem.W.nsIn K mainGlobals "law" = some (some (.ref f_law)))
    (l_law : K.lookup f_law = some ⟨oc_law, od_law, .func (PySem.W.fnOf "law" "law" (defArgs s_law) (defBody s_law) (defScope s_law) .none kV_law dc_law pm_law an_law cd_law ct_law), sl_law⟩)
    (cd__law : PySem.W.codeIn K cd_law "law" = true)
    (kp_law : PySem.W.keepIn K (.ref f_law) = true)
    (gc_RoundError : PySem.W.nsIn K mainGlobals "RoundError" = some (some (.ref c_RoundError)))
    (gc_BadName : PySem.W.nsIn K mainGlobals "BadName" = some (some (.ref c_BadName)))
    (gc_BadRound : PySem.W.nsIn K mainGlobals "BadRound" = some (some (.ref c_BadRound)))
    (gc_BadStop : PySem.W.nsIn K mainGlobals "BadStop" = some (some (.ref c_BadStop)))
    (gc_BadNet : PySem.W.nsIn K mainGlobals "BadNet" = some (some (.ref c_BadNet)))
    (gc_UnknownNode : PySem.W.nsIn K mainGlobals "UnknownNode" = some (some (.ref c_UnknownNode)))
    (gc_BadChange : PySem.W.nsIn K mainGlobals "BadChange" = some (some (.ref c_BadChange)))
    (gc_BadLetter : PySem.W.nsIn K mainGlobals "BadLetter" = some (some (.ref c_BadLetter)))
    (gc_NotInTime : PySem.W.nsIn K mainGlobals "NotInTime" = some (some (.ref c_NotInTime)))
    (gc_TooFew : PySem.W.nsIn K mainGlobals "TooFew" = some (some (.ref c_TooFew)))
    (gc_UnknownField : PySem.W.nsIn K mainGlobals "UnknownField" = some (some (.ref c_UnknownField)))
    (xL_BadName : K.lookup c_BadName = some (excClassObj nm_BadName q_BadName c_BadName N_BadName bs_BadName [.ref c_RoundError, .type "ValueError", .type "Exception", .type "BaseException", .type "object"] true sn_BadName sub_BadName ab_BadName col_BadName dd_BadName m0_BadName m1_BadName m2_BadName m3_BadName m5_BadName "ValueError.__new__"))
    (sa_BadName : PySem.W.findIn K (.ref c_BadName) "__setattr__" = some (some (.builtin "object.__setattr__")))
    (eC_BadName : PySem.W.subIn K (.ref c_BadName) (.type "BaseException") = some true)
    (tC_BadName : PySem.W.typeIn K (.ref c_BadName) = some (.type "type"))
    (kC_BadName : PySem.W.keepIn K (.ref c_BadName) = true)
    (iC_BadName : PySem.W.findIn K (.ref c_BadName) "__init__" = some (some (.ref f_BadName_init)))
    (tI_BadName : PySem.W.typeIn K (.ref f_BadName_init) = some (.type "function"))
    (l_BadName_init : K.lookup f_BadName_init = some ⟨oc_BadName_init, od_BadName_init, .func (PySem.W.ksFn "__init__" "BadName.__init__" (defArgs s_BadName_init) (defBody s_BadName_init) (defScope s_BadName_init) .none kV_BadName_init dc_BadName_init pm_BadName_init an_BadName_init (.ref cda_BadName_init) ct_BadName_init cc_BadName_init), sl_BadName_init⟩)
    (cd__BadName_init : PySem.W.codeIn K (.ref cda_BadName_init) "BadName.__init__" = true)
    (co_BadName_init : K.lookup cda_BadName_init = some ⟨ccl_BadName_init, cdd_BadName_init, .fields vs_BadName_init, ccs_BadName_init⟩)
    (fi_BadName_init : vs_BadName_init[2]? = some (.str file_BadName_init tf_BadName_init))
    (fe_BadName_init : ((P.main.file : Str) == file_BadName_init) = true)
    (ce_BadName_init : K.lookup cc_BadName_init = some ⟨cl_BadName_init, cld_BadName_init, .cell (some (.ref c_BadName)), csl_BadName_init⟩)
    (mr_BadName : PySem.W.mroIn K c_BadName (.ref c_BadName) = some true)
    (in_BadName : PySem.W.ks_superIn K c_BadName c_BadName "__init__" = some (some (.builtin "ValueError.__init__")))
    (sb_BadName : PySem.W.subIn K (.ref c_BadName) (.type "ValueError") = some true)
    (ga_BadName : PySem.W.findIn K (.ref c_BadName) "__getattribute__" = some (some (.builtin "BaseException.__getattribute__")))
    (gg_BadName : PySem.W.findIn K (.ref c_BadName) "__getattr__" = some none)
    (hd_BadName : PySem.W.hasDictIn K c_BadName = true)
    (ha_BadName : PySem.W.findIn K (.ref c_BadName) "__class__" = some (some (.builtin "object.__class__")))
    (hm_BadName : PySem.W.mroIn K c_BadName (.type "object") = some true)
    (no_BadName : PySem.W.findIn K (.ref c_BadName) "name" = some none)
    (xL_BadRound : K.lookup c_BadRound = some (excClassObj nm_BadRound q_BadRound c_BadRound N_BadRound bs_BadRound [.ref c_RoundError, .type "ValueError", .type "Exception", .type "BaseException", .type "object"] true sn_BadRound sub_BadRound ab_BadRound col_BadRound dd_BadRound m0_BadRound m1_BadRound m2_BadRound m3_BadRound m5_BadRound "ValueError.__new__"))
    (sa_BadRound : PySem.W.findIn K (.ref c_BadRound) "__setattr__" = some (some (.builtin "object.__setattr__")))
    (eC_BadRound : PySem.W.subIn K (.ref c_BadRound) (.type "BaseException") = some true)
    (tC_BadRound : PySem.W.typeIn K (.ref c_BadRound) = some (.type "type"))
    (kC_BadRound : PySem.W.keepIn K (.ref c_BadRound) = true)
    (iC_BadRound : PySem.W.findIn K (.ref c_BadRound) "__init__" = some (some (.ref f_BadRound_init)))
    (tI_BadRound : PySem.W.typeIn K (.ref f_BadRound_init) = some (.type "function"))
    (l_BadRound_init : K.lookup f_BadRound_init = some ⟨oc_BadRound_init, od_BadRound_init, .func (PySem.W.ksFn "__init__" "BadRound.__init__" (defArgs s_BadRound_init) (defBody s_BadRound_init) (defScope s_BadRound_init) .none kV_BadRound_init dc_BadRound_init pm_BadRound_init an_BadRound_init (.ref cda_BadRound_init) ct_BadRound_init cc_BadRound_init), sl_BadRound_init⟩)
    (cd__BadRound_init : PySem.W.codeIn K (.ref cda_BadRound_init) "BadRound.__init__" = true)
    (co_BadRound_init : K.lookup cda_BadRound_init = some ⟨ccl_BadRound_init, cdd_BadRound_init, .fields vs_BadRound_init, ccs_BadRound_init⟩)
    (fi_BadRound_init : vs_BadRound_init[2]? = some (.str file_BadRound_init tf_BadRound_init))
    (fe_BadRound_init : ((P.main.file : Str) == file_BadRound_init) = true)
    (ce_BadRound_init : K.lookup cc_BadRound_init = some ⟨cl_BadRound_init, cld_BadRound_init, .cell (some (.ref c_BadRound)), csl_BadRound_init⟩)
    (mr_BadRound : PySem.W.mroIn K c_BadRound (.ref c_BadRound) = some true)
    (in_BadRound : PySem.W.ks_superIn K c_BadRound c_BadRound "__init__" = some (some (.builtin "ValueError.__init__")))
    (sb_BadRound : PySem.W.subIn K (.ref c_BadRound) (.type "ValueError") = some true)
    (ga_BadRound : PySem.W.findIn K (.ref c_BadRound) "__getattribute__" = some (some (.builtin "BaseException.__getattribute__")))
    (gg_BadRound : PySem.W.findIn K (.ref c_BadRound) "__getattr__" = some none)
    (hd_BadRound : PySem.W.hasDictIn K c_BadRound = true)
    (ha_BadRound : PySem.W.findIn K (.ref c_BadRound) "__class__" = some (some (.builtin "object.__class__")))
    (hm_BadRound : PySem.W.mroIn K c_BadRound (.type "object") = some true)
    (no_BadRound : PySem.W.findIn K (.ref c_BadRound) "part" = some none)
    (xL_BadStop : K.lookup c_BadStop = some (excClassObj nm_BadStop q_BadStop c_BadStop N_BadStop bs_BadStop [.ref c_RoundError, .type "ValueError", .type "Exception", .type "BaseException", .type "object"] true sn_BadStop sub_BadStop ab_BadStop col_BadStop dd_BadStop m0_BadStop m1_BadStop m2_BadStop m3_BadStop m5_BadStop "ValueError.__new__"))
    (sa_BadStop : PySem.W.findIn K (.ref c_BadStop) "__setattr__" = some (some (.builtin "object.__setattr__")))
    (eC_BadStop : PySem.W.subIn K (.ref c_BadStop) (.type "BaseException") = some true)
    (tC_BadStop : PySem.W.typeIn K (.ref c_BadStop) = some (.type "type"))
    (kC_BadStop : PySem.W.keepIn K (.ref c_BadStop) = true)
    (iC_BadStop : PySem.W.findIn K (.ref c_BadStop) "__init__" = some (some (.ref f_BadStop_init)))
    (tI_BadStop : PySem.W.typeIn K (.ref f_BadStop_init) = some (.type "function"))
    (l_BadStop_init : K.lookup f_BadStop_init = some ⟨oc_BadStop_init, od_BadStop_init, .func (PySem.W.ksFn "__init__" "BadStop.__init__" (defArgs s_BadStop_init) (defBody s_BadStop_init) (defScope s_BadStop_init) .none kV_BadStop_init dc_BadStop_init pm_BadStop_init an_BadStop_init (.ref cda_BadStop_init) ct_BadStop_init cc_BadStop_init), sl_BadStop_init⟩)
    (cd__BadStop_init : PySem.W.codeIn K (.ref cda_BadStop_init) "BadStop.__init__" = true)
    (co_BadStop_init : K.lookup cda_BadStop_init = some ⟨ccl_BadStop_init, cdd_BadStop_init, .fields vs_BadStop_init, ccs_BadStop_init⟩)
    (fi_BadStop_init : vs_BadStop_init[2]? = some (.str file_BadStop_init tf_BadStop_init))
    (fe_BadStop_init : ((P.main.file : Str) == file_BadStop_init) = true)
    (ce_BadStop_init : K.lookup cc_BadStop_init = some ⟨cl_BadStop_init, cld_BadStop_init, .cell (some (.ref c_BadStop)), csl_BadStop_init⟩)
    (mr_BadStop : PySem.W.mroIn K c_BadStop (.ref c_BadStop) = some true)
    (in_BadStop : PySem.W.ks_superIn K c_BadStop c_BadStop "__init__" = some (some (.builtin "ValueError.__init__")))
    (sb_BadStop : PySem.W.subIn K (.ref c_BadStop) (.type "ValueError") = some true)
    (ga_BadStop : PySem.W.findIn K (.ref c_BadStop) "__getattribute__" = some (some (.builtin "BaseException.__getattribute__")))
    (gg_BadStop : PySem.W.findIn K (.ref c_BadStop) "__getattr__" = some none)
    (hd_BadStop : PySem.W.hasDictIn K c_BadStop = true)
    (ha_BadStop : PySem.W.findIn K (.ref c_BadStop) "__class__" = some (some (.builtin "object.__class__")))
    (hm_BadStop : PySem.W.mroIn K c_BadStop (.type "object") = some true)
    (no_BadStop : PySem.W.findIn K (.ref c_BadStop) "index" = some none)
    (xL_BadNet : K.lookup c_BadNet = some (excClassObj nm_BadNet q_BadNet c_BadNet N_BadNet bs_BadNet [.ref c_RoundError, .type "ValueError", .type "Exception", .type "BaseException", .type "object"] true sn_BadNet sub_BadNet ab_BadNet col_BadNet dd_BadNet m0_BadNet m1_BadNet m2_BadNet m3_BadNet m5_BadNet "ValueError.__new__"))
    (sa_BadNet : PySem.W.findIn K (.ref c_BadNet) "__setattr__" = some (some (.builtin "object.__setattr__")))
    (eC_BadNet : PySem.W.subIn K (.ref c_BadNet) (.type "BaseException") = some true)
    (tC_BadNet : PySem.W.typeIn K (.ref c_BadNet) = some (.type "type"))
    (kC_BadNet : PySem.W.keepIn K (.ref c_BadNet) = true)
    (iC_BadNet : PySem.W.findIn K (.ref c_BadNet) "__init__" = some (some (.ref f_BadNet_init)))
    (tI_BadNet : PySem.W.typeIn K (.ref f_BadNet_init) = some (.type "function"))
    (l_BadNet_init : K.lookup f_BadNet_init = some ⟨oc_BadNet_init, od_BadNet_init, .func (PySem.W.ksFn "__init__" "BadNet.__init__" (defArgs s_BadNet_init) (defBody s_BadNet_init) (defScope s_BadNet_init) .none kV_BadNet_init dc_BadNet_init pm_BadNet_init an_BadNet_init (.ref cda_BadNet_init) ct_BadNet_init cc_BadNet_init), sl_BadNet_init⟩)
    (cd__BadNet_init : PySem.W.codeIn K (.ref cda_BadNet_init) "BadNet.__init__" = true)
    (co_BadNet_init : K.lookup cda_BadNet_init = some ⟨ccl_BadNet_init, cdd_BadNet_init, .fields vs_BadNet_init, ccs_BadNet_init⟩)
    (fi_BadNet_init : vs_BadNet_init[2]? = some (.str file_BadNet_init tf_BadNet_init))
    (fe_BadNet_init : ((P.main.file : Str) == file_BadNet_init) = true)
    (ce_BadNet_init : K.lookup cc_BadNet_init = some ⟨cl_BadNet_init, cld_BadNet_init, .cell (some (.ref c_BadNet)), csl_BadNet_init⟩)
    (mr_BadNet : PySem.W.mroIn K c_BadNet (.ref c_BadNet) = some true)
    (in_BadNet : PySem.W.ks_superIn K c_BadNet c_BadNet "__init__" = some (some (.builtin "ValueError.__init__")))
    (sb_BadNet : PySem.W.subIn K (.ref c_BadNet) (.type "ValueError") = some true)
    (ga_BadNet : PySem.W.findIn K (.ref c_BadNet) "__getattribute__" = some (some (.builtin "BaseException.__getattribute__")))
    (gg_BadNet : PySem.W.findIn K (.ref c_BadNet) "__getattr__" = some none)
    (hd_BadNet : PySem.W.hasDictIn K c_BadNet = true)
    (ha_BadNet : PySem.W.findIn K (.ref c_BadNet) "__class__" = some (some (.builtin "object.__class__")))
    (hm_BadNet : PySem.W.mroIn K c_BadNet (.type "object") = some true)
    (no_BadNet : PySem.W.findIn K (.ref c_BadNet) "name" = some none)
    (xL_UnknownNode : K.lookup c_UnknownNode = some (excClassObj nm_UnknownNode q_UnknownNode c_UnknownNode N_UnknownNode bs_UnknownNode [.ref c_RoundError, .type "ValueError", .type "Exception", .type "BaseException", .type "object"] true sn_UnknownNode sub_UnknownNode ab_UnknownNode col_UnknownNode dd_UnknownNode m0_UnknownNode m1_UnknownNode m2_UnknownNode m3_UnknownNode m5_UnknownNode "ValueError.__new__"))
    (sa_UnknownNode : PySem.W.findIn K (.ref c_UnknownNode) "__setattr__" = some (some (.builtin "object.__setattr__")))
    (eC_UnknownNode : PySem.W.subIn K (.ref c_UnknownNode) (.type "BaseException") = some true)
    (tC_UnknownNode : PySem.W.typeIn K (.ref c_UnknownNode) = some (.type "type"))
    (kC_UnknownNode : PySem.W.keepIn K (.ref c_UnknownNode) = true)
    (iC_UnknownNode : PySem.W.findIn K (.ref c_UnknownNode) "__init__" = some (some (.ref f_UnknownNode_init)))
    (tI_UnknownNode : PySem.W.typeIn K (.ref f_UnknownNode_init) = some (.type "function"))
    (l_UnknownNode_init : K.lookup f_UnknownNode_init = some ⟨oc_UnknownNode_init, od_UnknownNode_init, .func (PySem.W.ksFn "__init__" "UnknownNode.__init__" (defArgs s_UnknownNode_init) (defBody s_UnknownNode_init) (defScope s_UnknownNode_init) .none kV_UnknownNode_init dc_UnknownNode_init pm_UnknownNode_init an_UnknownNode_init (.ref cda_UnknownNode_init) ct_UnknownNode_init cc_UnknownNode_init), sl_UnknownNode_init⟩)
    (cd__UnknownNode_init : PySem.W.codeIn K (.ref cda_UnknownNode_init) "UnknownNode.__init__" = true)
    (co_UnknownNode_init : K.lookup cda_UnknownNode_init = some ⟨ccl_UnknownNode_init, cdd_UnknownNode_init, .fields vs_UnknownNode_init, ccs_UnknownNode_init⟩)
    (fi_UnknownNode_init : vs_UnknownNode_init[2]? = some (.str file_UnknownNode_init tf_UnknownNode_init))
    (fe_UnknownNode_init : ((P.main.file : Str) == file_UnknownNode_init) = true)
    (ce_UnknownNode_init : K.lookup cc_UnknownNode_init = some ⟨cl_UnknownNode_init, cld_UnknownNode_init, .cell (some (.ref c_UnknownNode)), csl_UnknownNode_init⟩)
    (mr_UnknownNode : PySem.W.mroIn K c_UnknownNode (.ref c_UnknownNode) = some true)
    (in_UnknownNode : PySem.W.ks_superIn K c_UnknownNode c_UnknownNode "__init__" = some (some (.builtin "ValueError.__init__")))
    (sb_UnknownNode : PySem.W.subIn K (.ref c_UnknownNode) (.type "ValueError") = some true)
    (ga_UnknownNode : PySem.W.findIn K (.ref c_UnknownNode) "__getattribute__" = some (some (.builtin "BaseException.__getattribute__")))
    (gg_UnknownNode : PySem.W.findIn K (.ref c_UnknownNode) "__getattr__" = some none)
    (hd_UnknownNode : PySem.W.hasDictIn K c_UnknownNode = true)
    (ha_UnknownNode : PySem.W.findIn K (.ref c_UnknownNode) "__class__" = some (some (.builtin "object.__class__")))
    (hm_UnknownNode : PySem.W.mroIn K c_UnknownNode (.type "object") = some true)
    (no_UnknownNode : PySem.W.findIn K (.ref c_UnknownNode) "name" = some none)
    (xL_BadChange : K.lookup c_BadChange = some (excClassObj nm_BadChange q_BadChange c_BadChange N_BadChange bs_BadChange [.ref c_RoundError, .type "ValueError", .type "Exception", .type "BaseException", .type "object"] true sn_BadChange sub_BadChange ab_BadChange col_BadChange dd_BadChange m0_BadChange m1_BadChange m2_BadChange m3_BadChange m5_BadChange "ValueError.__new__"))
    (sa_BadChange : PySem.W.findIn K (.ref c_BadChange) "__setattr__" = some (some (.builtin "object.__setattr__")))
    (eC_BadChange : PySem.W.subIn K (.ref c_BadChange) (.type "BaseException") = some true)
    (tC_BadChange : PySem.W.typeIn K (.ref c_BadChange) = some (.type "type"))
    (kC_BadChange : PySem.W.keepIn K (.ref c_BadChange) = true)
    (iC_BadChange : PySem.W.findIn K (.ref c_BadChange) "__init__" = some (some (.ref f_BadChange_init)))
    (tI_BadChange : PySem.W.typeIn K (.ref f_BadChange_init) = some (.type "function"))
    (l_BadChange_init : K.lookup f_BadChange_init = some ⟨oc_BadChange_init, od_BadChange_init, .func (PySem.W.ksFn "__init__" "BadChange.__init__" (defArgs s_BadChange_init) (defBody s_BadChange_init) (defScope s_BadChange_init) .none kV_BadChange_init dc_BadChange_init pm_BadChange_init an_BadChange_init (.ref cda_BadChange_init) ct_BadChange_init cc_BadChange_init), sl_BadChange_init⟩)
    (cd__BadChange_init : PySem.W.codeIn K (.ref cda_BadChange_init) "BadChange.__init__" = true)
    (co_BadChange_init : K.lookup cda_BadChange_init = some ⟨ccl_BadChange_init, cdd_BadChange_init, .fields vs_BadChange_init, ccs_BadChange_init⟩)
    (fi_BadChange_init : vs_BadChange_init[2]? = some (.str file_BadChange_init tf_BadChange_init))
    (fe_BadChange_init : ((P.main.file : Str) == file_BadChange_init) = true)
    (ce_BadChange_init : K.lookup cc_BadChange_init = some ⟨cl_BadChange_init, cld_BadChange_init, .cell (some (.ref c_BadChange)), csl_BadChange_init⟩)
    (mr_BadChange : PySem.W.mroIn K c_BadChange (.ref c_BadChange) = some true)
    (in_BadChange : PySem.W.ks_superIn K c_BadChange c_BadChange "__init__" = some (some (.builtin "ValueError.__init__")))
    (sb_BadChange : PySem.W.subIn K (.ref c_BadChange) (.type "ValueError") = some true)
    (ga_BadChange : PySem.W.findIn K (.ref c_BadChange) "__getattribute__" = some (some (.builtin "BaseException.__getattribute__")))
    (gg_BadChange : PySem.W.findIn K (.ref c_BadChange) "__getattr__" = some none)
    (hd_BadChange : PySem.W.hasDictIn K c_BadChange = true)
    (ha_BadChange : PySem.W.findIn K (.ref c_BadChange) "__class__" = some (some (.builtin "object.__class__")))
    (hm_BadChange : PySem.W.mroIn K c_BadChange (.type "object") = some true)
    (no_BadChange : PySem.W.findIn K (.ref c_BadChange) "index" = some none)
    (xL_BadLetter : K.lookup c_BadLetter = some (excClassObj nm_BadLetter q_BadLetter c_BadLetter N_BadLetter bs_BadLetter [.ref c_RoundError, .type "ValueError", .type "Exception", .type "BaseException", .type "object"] true sn_BadLetter sub_BadLetter ab_BadLetter col_BadLetter dd_BadLetter m0_BadLetter m1_BadLetter m2_BadLetter m3_BadLetter m5_BadLetter "ValueError.__new__"))
    (sa_BadLetter : PySem.W.findIn K (.ref c_BadLetter) "__setattr__" = some (some (.builtin "object.__setattr__")))
    (eC_BadLetter : PySem.W.subIn K (.ref c_BadLetter) (.type "BaseException") = some true)
    (tC_BadLetter : PySem.W.typeIn K (.ref c_BadLetter) = some (.type "type"))
    (kC_BadLetter : PySem.W.keepIn K (.ref c_BadLetter) = true)
    (iC_BadLetter : PySem.W.findIn K (.ref c_BadLetter) "__init__" = some (some (.ref f_BadLetter_init)))
    (tI_BadLetter : PySem.W.typeIn K (.ref f_BadLetter_init) = some (.type "function"))
    (l_BadLetter_init : K.lookup f_BadLetter_init = some ⟨oc_BadLetter_init, od_BadLetter_init, .func (PySem.W.ksFn "__init__" "BadLetter.__init__" (defArgs s_BadLetter_init) (defBody s_BadLetter_init) (defScope s_BadLetter_init) .none kV_BadLetter_init dc_BadLetter_init pm_BadLetter_init an_BadLetter_init (.ref cda_BadLetter_init) ct_BadLetter_init cc_BadLetter_init), sl_BadLetter_init⟩)
    (cd__BadLetter_init : PySem.W.codeIn K (.ref cda_BadLetter_init) "BadLetter.__init__" = true)
    (co_BadLetter_init : K.lookup cda_BadLetter_init = some ⟨ccl_BadLetter_init, cdd_BadLetter_init, .fields vs_BadLetter_init, ccs_BadLetter_init⟩)
    (fi_BadLetter_init : vs_BadLetter_init[2]? = some (.str file_BadLetter_init tf_BadLetter_init))
    (fe_BadLetter_init : ((P.main.file : Str) == file_BadLetter_init) = true)
    (ce_BadLetter_init : K.lookup cc_BadLetter_init = some ⟨cl_BadLetter_init, cld_BadLetter_init, .cell (some (.ref c_BadLetter)), csl_BadLetter_init⟩)
    (mr_BadLetter : PySem.W.mroIn K c_BadLetter (.ref c_BadLetter) = some true)
    (in_BadLetter : PySem.W.ks_superIn K c_BadLetter c_BadLetter "__init__" = some (some (.builtin "ValueError.__init__")))
    (sb_BadLetter : PySem.W.subIn K (.ref c_BadLetter) (.type "ValueError") = some true)
    (ga_BadLetter : PySem.W.findIn K (.ref c_BadLetter) "__getattribute__" = some (some (.builtin "BaseException.__getattribute__")))
    (gg_BadLetter : PySem.W.findIn K (.ref c_BadLetter) "__getattr__" = some none)
    (hd_BadLetter : PySem.W.hasDictIn K c_BadLetter = true)
    (ha_BadLetter : PySem.W.findIn K (.ref c_BadLetter) "__class__" = some (some (.builtin "object.__class__")))
    (hm_BadLetter : PySem.W.mroIn K c_BadLetter (.type "object") = some true)
    (no_BadLetter : PySem.W.findIn K (.ref c_BadLetter) "name" = some none)
    (xL_NotInTime : K.lookup c_NotInTime = some (excClassObj nm_NotInTime q_NotInTime c_NotInTime N_NotInTime bs_NotInTime [.ref c_RoundError, .type "ValueError", .type "Exception", .type "BaseException", .type "object"] true sn_NotInTime sub_NotInTime ab_NotInTime col_NotInTime dd_NotInTime m0_NotInTime m1_NotInTime m2_NotInTime m3_NotInTime m5_NotInTime "ValueError.__new__"))
    (sa_NotInTime : PySem.W.findIn K (.ref c_NotInTime) "__setattr__" = some (some (.builtin "object.__setattr__")))
    (eC_NotInTime : PySem.W.subIn K (.ref c_NotInTime) (.type "BaseException") = some true)
    (tC_NotInTime : PySem.W.typeIn K (.ref c_NotInTime) = some (.type "type"))
    (kC_NotInTime : PySem.W.keepIn K (.ref c_NotInTime) = true)
    (iC_NotInTime : PySem.W.findIn K (.ref c_NotInTime) "__init__" = some (some (.ref f_NotInTime_init)))
    (tI_NotInTime : PySem.W.typeIn K (.ref f_NotInTime_init) = some (.type "function"))
    (l_NotInTime_init : K.lookup f_NotInTime_init = some ⟨oc_NotInTime_init, od_NotInTime_init, .func (PySem.W.ksFn "__init__" "NotInTime.__init__" (defArgs s_NotInTime_init) (defBody s_NotInTime_init) (defScope s_NotInTime_init) .none kV_NotInTime_init dc_NotInTime_init pm_NotInTime_init an_NotInTime_init (.ref cda_NotInTime_init) ct_NotInTime_init cc_NotInTime_init), sl_NotInTime_init⟩)
    (cd__NotInTime_init : PySem.W.codeIn K (.ref cda_NotInTime_init) "NotInTime.__init__" = true)
    (co_NotInTime_init : K.lookup cda_NotInTime_init = some ⟨ccl_NotInTime_init, cdd_NotInTime_init, .fields vs_NotInTime_init, ccs_NotInTime_init⟩)
    (fi_NotInTime_init : vs_NotInTime_init[2]? = some (.str file_NotInTime_init tf_NotInTime_init))
    (fe_NotInTime_init : ((P.main.file : Str) == file_NotInTime_init) = true)
    (ce_NotInTime_init : K.lookup cc_NotInTime_init = some ⟨cl_NotInTime_init, cld_NotInTime_init, .cell (some (.ref c_NotInTime)), csl_NotInTime_init⟩)
    (mr_NotInTime : PySem.W.mroIn K c_NotInTime (.ref c_NotInTime) = some true)
    (in_NotInTime : PySem.W.ks_superIn K c_NotInTime c_NotInTime "__init__" = some (some (.builtin "ValueError.__init__")))
    (sb_NotInTime : PySem.W.subIn K (.ref c_NotInTime) (.type "ValueError") = some true)
    (ga_NotInTime : PySem.W.findIn K (.ref c_NotInTime) "__getattribute__" = some (some (.builtin "BaseException.__getattribute__")))
    (gg_NotInTime : PySem.W.findIn K (.ref c_NotInTime) "__getattr__" = some none)
    (hd_NotInTime : PySem.W.hasDictIn K c_NotInTime = true)
    (ha_NotInTime : PySem.W.findIn K (.ref c_NotInTime) "__class__" = some (some (.builtin "object.__class__")))
    (hm_NotInTime : PySem.W.mroIn K c_NotInTime (.type "object") = some true)
    (xL_TooFew : K.lookup c_TooFew = some (excClassObj nm_TooFew q_TooFew c_TooFew N_TooFew bs_TooFew [.ref c_RoundError, .type "ValueError", .type "Exception", .type "BaseException", .type "object"] true sn_TooFew sub_TooFew ab_TooFew col_TooFew dd_TooFew m0_TooFew m1_TooFew m2_TooFew m3_TooFew m5_TooFew "ValueError.__new__"))
    (sa_TooFew : PySem.W.findIn K (.ref c_TooFew) "__setattr__" = some (some (.builtin "object.__setattr__")))
    (eC_TooFew : PySem.W.subIn K (.ref c_TooFew) (.type "BaseException") = some true)
    (tC_TooFew : PySem.W.typeIn K (.ref c_TooFew) = some (.type "type"))
    (kC_TooFew : PySem.W.keepIn K (.ref c_TooFew) = true)
    (iC_TooFew : PySem.W.findIn K (.ref c_TooFew) "__init__" = some (some (.ref f_TooFew_init)))
    (tI_TooFew : PySem.W.typeIn K (.ref f_TooFew_init) = some (.type "function"))
    (l_TooFew_init : K.lookup f_TooFew_init = some ⟨oc_TooFew_init, od_TooFew_init, .func (PySem.W.ksFn "__init__" "TooFew.__init__" (defArgs s_TooFew_init) (defBody s_TooFew_init) (defScope s_TooFew_init) .none kV_TooFew_init dc_TooFew_init pm_TooFew_init an_TooFew_init (.ref cda_TooFew_init) ct_TooFew_init cc_TooFew_init), sl_TooFew_init⟩)
    (cd__TooFew_init : PySem.W.codeIn K (.ref cda_TooFew_init) "TooFew.__init__" = true)
    (co_TooFew_init : K.lookup cda_TooFew_init = some ⟨ccl_TooFew_init, cdd_TooFew_init, .fields vs_TooFew_init, ccs_TooFew_init⟩)
    (fi_TooFew_init : vs_TooFew_init[2]? = some (.str file_TooFew_init tf_TooFew_init))
    (fe_TooFew_init : ((P.main.file : Str) == file_TooFew_init) = true)
    (ce_TooFew_init : K.lookup cc_TooFew_init = some ⟨cl_TooFew_init, cld_TooFew_init, .cell (some (.ref c_TooFew)), csl_TooFew_init⟩)
    (mr_TooFew : PySem.W.mroIn K c_TooFew (.ref c_TooFew) = some true)
    (in_TooFew : PySem.W.ks_superIn K c_TooFew c_TooFew "__init__" = some (some (.builtin "ValueError.__init__")))
    (sb_TooFew : PySem.W.subIn K (.ref c_TooFew) (.type "ValueError") = some true)
    (ga_TooFew : PySem.W.findIn K (.ref c_TooFew) "__getattribute__" = some (some (.builtin "BaseException.__getattribute__")))
    (gg_TooFew : PySem.W.findIn K (.ref c_TooFew) "__getattr__" = some none)
    (hd_TooFew : PySem.W.hasDictIn K c_TooFew = true)
    (ha_TooFew : PySem.W.findIn K (.ref c_TooFew) "__class__" = some (some (.builtin "object.__class__")))
    (hm_TooFew : PySem.W.mroIn K c_TooFew (.type "object") = some true)
    (no_TooFew : PySem.W.findIn K (.ref c_TooFew) "count" = some none)
    (xL_UnknownField : K.lookup c_UnknownField = some (excClassObj nm_UnknownField q_UnknownField c_UnknownField N_UnknownField bs_UnknownField [.ref c_RoundError, .type "ValueError", .type "Exception", .type "BaseException", .type "object"] true sn_UnknownField sub_UnknownField ab_UnknownField col_UnknownField dd_UnknownField m0_UnknownField m1_UnknownField m2_UnknownField m3_UnknownField m5_UnknownField "ValueError.__new__"))
    (sa_UnknownField : PySem.W.findIn K (.ref c_UnknownField) "__setattr__" = some (some (.builtin "object.__setattr__")))
    (eC_UnknownField : PySem.W.subIn K (.ref c_UnknownField) (.type "BaseException") = some true)
    (tC_UnknownField : PySem.W.typeIn K (.ref c_UnknownField) = some (.type "type"))
    (kC_UnknownField : PySem.W.keepIn K (.ref c_UnknownField) = true)
    (iC_UnknownField : PySem.W.findIn K (.ref c_UnknownField) "__init__" = some (some (.ref f_UnknownField_init)))
    (tI_UnknownField : PySem.W.typeIn K (.ref f_UnknownField_init) = some (.type "function"))
    (l_UnknownField_init : K.lookup f_UnknownField_init = some ⟨oc_UnknownField_init, od_UnknownField_init, .func (PySem.W.ksFn "__init__" "UnknownField.__init__" (defArgs s_UnknownField_init) (defBody s_UnknownField_init) (defScope s_UnknownField_init) .none kV_UnknownField_init dc_UnknownField_init pm_UnknownField_init an_UnknownField_init (.ref cda_UnknownField_init) ct_UnknownField_init cc_UnknownField_init), sl_UnknownField_init⟩)
    (cd__UnknownField_init : PySem.W.codeIn K (.ref cda_UnknownField_init) "UnknownField.__init__" = true)
    (co_UnknownField_init : K.lookup cda_UnknownField_init = some ⟨ccl_UnknownField_init, cdd_UnknownField_init, .fields vs_UnknownField_init, ccs_UnknownField_init⟩)
    (fi_UnknownField_init : vs_UnknownField_init[2]? = some (.str file_UnknownField_init tf_UnknownField_init))
    (fe_UnknownField_init : ((P.main.file : Str) == file_UnknownField_init) = true)
    (ce_UnknownField_init : K.lookup cc_UnknownField_init = some ⟨cl_UnknownField_init, cld_UnknownField_init, .cell (some (.ref c_UnknownField)), csl_UnknownField_init⟩)
    (mr_UnknownField : PySem.W.mroIn K c_UnknownField (.ref c_UnknownField) = some true)
    (in_UnknownField : PySem.W.ks_superIn K c_UnknownField c_UnknownField "__init__" = some (some (.builtin "ValueError.__init__")))
    (sb_UnknownField : PySem.W.subIn K (.ref c_UnknownField) (.type "ValueError") = some true)
    (ga_UnknownField : PySem.W.findIn K (.ref c_UnknownField) "__getattribute__" = some (some (.builtin "BaseException.__getattribute__")))
    (gg_UnknownField : PySem.W.findIn K (.ref c_UnknownField) "__getattr__" = some none)
    (hd_UnknownField : PySem.W.hasDictIn K c_UnknownField = true)
    (ha_UnknownField : PySem.W.findIn K (.ref c_UnknownField) "__class__" = some (some (.builtin "object.__class__")))
    (hm_UnknownField : PySem.W.mroIn K c_UnknownField (.type "object") = some true)
    (no_UnknownField : PySem.W.findIn K (.ref c_UnknownField) "name" = some none)
    (tp : (P.main.scope.names.lookup ("super" : Str)).isSome = false)
    (oq : PySem.W.nsIn K cStatics "thirdparty.any" = some none)
    (hn : PySem.W.specialIn K (.builtin "object.__class__") "__get__" = some (some (.builtin "getset_descriptor.__get__")))
    (ht : PySem.W.takesIn K (.builtin "object.__class__") = some true)
    (z_ValueError : PySem.W.nsIn K mainGlobals "ValueError" = some none)
    (z_isinstance : PySem.W.nsIn K mainGlobals "isinstance" = some none)
    (z_len : PySem.W.nsIn K mainGlobals "len" = some none)
    (z_max : PySem.W.nsIn K mainGlobals "max" = some none)
    (z_min : PySem.W.nsIn K mainGlobals "min" = some none)
    (z_range : PySem.W.nsIn K mainGlobals "range" = some none)
    (z_super : PySem.W.nsIn K mainGlobals "super" = some none)
    (x_fl_BadName : flagB K c_BadName [c_BadName, c_BadRound, c_BadStop, c_BadNet, c_UnknownNode, c_BadChange, c_BadLetter, c_NotInTime, c_TooFew, c_UnknownField, c_RoundError] [true, false, false, false, false, false, false, false, false, false, true] = true)
    (x_fv_BadName : PySem.W.kitOne K (.ref c_BadName) (.type "ValueError") = some true)
    (x_fl_BadRound : flagB K c_BadRound [c_BadName, c_BadRound, c_BadStop, c_BadNet, c_UnknownNode, c_BadChange, c_BadLetter, c_NotInTime, c_TooFew, c_UnknownField, c_RoundError] [false, true, false, false, false, false, false, false, false, false, true] = true)
    (x_fv_BadRound : PySem.W.kitOne K (.ref c_BadRound) (.type "ValueError") = some true)
    (x_fl_BadStop : flagB K c_BadStop [c_BadName, c_BadRound, c_BadStop, c_BadNet, c_UnknownNode, c_BadChange, c_BadLetter, c_NotInTime, c_TooFew, c_UnknownField, c_RoundError] [false, false, true, false, false, false, false, false, false, false, true] = true)
    (x_fv_BadStop : PySem.W.kitOne K (.ref c_BadStop) (.type "ValueError") = some true)
    (x_fl_BadNet : flagB K c_BadNet [c_BadName, c_BadRound, c_BadStop, c_BadNet, c_UnknownNode, c_BadChange, c_BadLetter, c_NotInTime, c_TooFew, c_UnknownField, c_RoundError] [false, false, false, true, false, false, false, false, false, false, true] = true)
    (x_fv_BadNet : PySem.W.kitOne K (.ref c_BadNet) (.type "ValueError") = some true)
    (x_fl_UnknownNode : flagB K c_UnknownNode [c_BadName, c_BadRound, c_BadStop, c_BadNet, c_UnknownNode, c_BadChange, c_BadLetter, c_NotInTime, c_TooFew, c_UnknownField, c_RoundError] [false, false, false, false, true, false, false, false, false, false, true] = true)
    (x_fv_UnknownNode : PySem.W.kitOne K (.ref c_UnknownNode) (.type "ValueError") = some true)
    (x_fl_BadChange : flagB K c_BadChange [c_BadName, c_BadRound, c_BadStop, c_BadNet, c_UnknownNode, c_BadChange, c_BadLetter, c_NotInTime, c_TooFew, c_UnknownField, c_RoundError] [false, false, false, false, false, true, false, false, false, false, true] = true)
    (x_fv_BadChange : PySem.W.kitOne K (.ref c_BadChange) (.type "ValueError") = some true)
    (x_fl_BadLetter : flagB K c_BadLetter [c_BadName, c_BadRound, c_BadStop, c_BadNet, c_UnknownNode, c_BadChange, c_BadLetter, c_NotInTime, c_TooFew, c_UnknownField, c_RoundError] [false, false, false, false, false, false, true, false, false, false, true] = true)
    (x_fv_BadLetter : PySem.W.kitOne K (.ref c_BadLetter) (.type "ValueError") = some true)
    (x_fl_NotInTime : flagB K c_NotInTime [c_BadName, c_BadRound, c_BadStop, c_BadNet, c_UnknownNode, c_BadChange, c_BadLetter, c_NotInTime, c_TooFew, c_UnknownField, c_RoundError] [false, false, false, false, false, false, false, true, false, false, true] = true)
    (x_fv_NotInTime : PySem.W.kitOne K (.ref c_NotInTime) (.type "ValueError") = some true)
    (x_fl_TooFew : flagB K c_TooFew [c_BadName, c_BadRound, c_BadStop, c_BadNet, c_UnknownNode, c_BadChange, c_BadLetter, c_NotInTime, c_TooFew, c_UnknownField, c_RoundError] [false, false, false, false, false, false, false, false, true, false, true] = true)
    (x_fv_TooFew : PySem.W.kitOne K (.ref c_TooFew) (.type "ValueError") = some true)
    (x_fl_UnknownField : flagB K c_UnknownField [c_BadName, c_BadRound, c_BadStop, c_BadNet, c_UnknownNode, c_BadChange, c_BadLetter, c_NotInTime, c_TooFew, c_UnknownField, c_RoundError] [false, false, false, false, false, false, false, false, false, true, true] = true)
    (x_fv_UnknownField : PySem.W.kitOne K (.ref c_UnknownField) (.type "ValueError") = some true)
    : Txt P K mg { f_law_source := f_law_source, d_law_source := PySem.W.fnOf "_law_source" "_law_source" (defArgs s_law_source) (defBody s_law_source) (defScope s_law_source) .none kV_law_source dc_law_source pm_law_source an_law_source cd_law_source ct_law_source, f_law_draw := f_law_draw, d_law_draw := PySem.W.fnOf "_law_draw" "_law_draw" (defArgs s_law_draw) (defBody s_law_draw) (defScope s_law_draw) .none kV_law_draw dc_law_draw pm_law_draw an_law_draw cd_law_draw ct_law_draw, f_law_flags := f_law_flags, d_law_flags := PySem.W.fnOf "_law_flags" "_law_flags" (defArgs s_law_flags) (defBody s_law_flags) (defScope s_law_flags) .none kV_law_flags dc_law_flags pm_law_flags an_law_flags cd_law_flags ct_law_flags, f_law := f_law, d_law := PySem.W.fnOf "law" "law" (defArgs s_law) (defBody s_law) (defScope s_law) .none kV_law dc_law pm_law an_law cd_law ct_law, c_RoundError := c_RoundError, c_BadName := c_BadName, c_BadRound := c_BadRound, c_BadStop := c_BadStop, c_BadNet := c_BadNet, c_UnknownNode := c_UnknownNode, c_BadChange := c_BadChange, c_BadLetter := c_BadLetter, c_NotInTime := c_NotInTime, c_TooFew := c_TooFew, c_UnknownField := c_UnknownField, f_BadName_init := f_BadName_init, d_BadName_init := PySem.W.ksFn "__init__" "BadName.__init__" (defArgs s_BadName_init) (defBody s_BadName_init) (defScope s_BadName_init) .none kV_BadName_init dc_BadName_init pm_BadName_init an_BadName_init (.ref cda_BadName_init) ct_BadName_init cc_BadName_init, cc_BadName_init := cc_BadName_init, cda_BadName_init := cda_BadName_init, f_BadRound_init := f_BadRound_init, d_BadRound_init := PySem.W.ksFn "__init__" "BadRound.__init__" (defArgs s_BadRound_init) (defBody s_BadRound_init) (defScope s_BadRound_init) .none kV_BadRound_init dc_BadRound_init pm_BadRound_init an_BadRound_init (.ref cda_BadRound_init) ct_BadRound_init cc_BadRound_init, cc_BadRound_init := cc_BadRound_init, cda_BadRound_init := cda_BadRound_init, f_BadStop_init := f_BadStop_init, d_BadStop_init := PySem.W.ksFn "__init__" "BadStop.__init__" (defArgs s_BadStop_init) (defBody s_BadStop_init) (defScope s_BadStop_init) .none kV_BadStop_init dc_BadStop_init pm_BadStop_init an_BadStop_init (.ref cda_BadStop_init) ct_BadStop_init cc_BadStop_init, cc_BadStop_init := cc_BadStop_init, cda_BadStop_init := cda_BadStop_init, f_BadNet_init := f_BadNet_init, d_BadNet_init := PySem.W.ksFn "__init__" "BadNet.__init__" (defArgs s_BadNet_init) (defBody s_BadNet_init) (defScope s_BadNet_init) .none kV_BadNet_init dc_BadNet_init pm_BadNet_init an_BadNet_init (.ref cda_BadNet_init) ct_BadNet_init cc_BadNet_init, cc_BadNet_init := cc_BadNet_init, cda_BadNet_init := cda_BadNet_init, f_UnknownNode_init := f_UnknownNode_init, d_UnknownNode_init := PySem.W.ksFn "__init__" "UnknownNode.__init__" (defArgs s_UnknownNode_init) (defBody s_UnknownNode_init) (defScope s_UnknownNode_init) .none kV_UnknownNode_init dc_UnknownNode_init pm_UnknownNode_init an_UnknownNode_init (.ref cda_UnknownNode_init) ct_UnknownNode_init cc_UnknownNode_init, cc_UnknownNode_init := cc_UnknownNode_init, cda_UnknownNode_init := cda_UnknownNode_init, f_BadChange_init := f_BadChange_init, d_BadChange_init := PySem.W.ksFn "__init__" "BadChange.__init__" (defArgs s_BadChange_init) (defBody s_BadChange_init) (defScope s_BadChange_init) .none kV_BadChange_init dc_BadChange_init pm_BadChange_init an_BadChange_init (.ref cda_BadChange_init) ct_BadChange_init cc_BadChange_init, cc_BadChange_init := cc_BadChange_init, cda_BadChange_init := cda_BadChange_init, f_BadLetter_init := f_BadLetter_init, d_BadLetter_init := PySem.W.ksFn "__init__" "BadLetter.__init__" (defArgs s_BadLetter_init) (defBody s_BadLetter_init) (defScope s_BadLetter_init) .none kV_BadLetter_init dc_BadLetter_init pm_BadLetter_init an_BadLetter_init (.ref cda_BadLetter_init) ct_BadLetter_init cc_BadLetter_init, cc_BadLetter_init := cc_BadLetter_init, cda_BadLetter_init := cda_BadLetter_init, f_NotInTime_init := f_NotInTime_init, d_NotInTime_init := PySem.W.ksFn "__init__" "NotInTime.__init__" (defArgs s_NotInTime_init) (defBody s_NotInTime_init) (defScope s_NotInTime_init) .none kV_NotInTime_init dc_NotInTime_init pm_NotInTime_init an_NotInTime_init (.ref cda_NotInTime_init) ct_NotInTime_init cc_NotInTime_init, cc_NotInTime_init := cc_NotInTime_init, cda_NotInTime_init := cda_NotInTime_init, f_TooFew_init := f_TooFew_init, d_TooFew_init := PySem.W.ksFn "__init__" "TooFew.__init__" (defArgs s_TooFew_init) (defBody s_TooFew_init) (defScope s_TooFew_init) .none kV_TooFew_init dc_TooFew_init pm_TooFew_init an_TooFew_init (.ref cda_TooFew_init) ct_TooFew_init cc_TooFew_init, cc_TooFew_init := cc_TooFew_init, cda_TooFew_init := cda_TooFew_init, f_UnknownField_init := f_UnknownField_init, d_UnknownField_init := PySem.W.ksFn "__init__" "UnknownField.__init__" (defArgs s_UnknownField_init) (defBody s_UnknownField_init) (defScope s_UnknownField_init) .none kV_UnknownField_init dc_UnknownField_init pm_UnknownField_init an_UnknownField_init (.ref cda_UnknownField_init) ct_UnknownField_init cc_UnknownField_init, cc_UnknownField_init := cc_UnknownField_init, cda_UnknownField_init := cda_UnknownField_init } :=
  { F_law_source := fun_mk l_law_source cd__law_source kp_law_source,
    g_law_source := PySem.W.mg_of X G g_law_source,
    b_law_source := (fun_mk (st := s_law_source) l_law_source cd__law_source kp_law_source).binds (ps := ["script", "cell_number"]) fun _ _ _ _ _ _ us hl => match us, hl with | [_, _], _ => rfl,
    F_law_draw := fun_mk l_law_draw cd__law_draw kp_law_draw,
    g_law_draw := PySem.W.mg_of X G g_law_draw,
    b_law_draw := (fun_mk (st := s_law_draw) l_law_draw cd__law_draw kp_law_draw).binds (ps := ["source", "bound"]) fun _ _ _ _ _ _ us hl => match us, hl with | [_, _], _ => rfl,
    F_law_flags := fun_mk l_law_flags cd__law_flags kp_law_flags,
    g_law_flags := PySem.W.mg_of X G g_law_flags,
    b_law_flags := (fun_mk (st := s_law_flags) l_law_flags cd__law_flags kp_law_flags).binds (ps := ["e"]) fun _ _ _ _ _ _ us hl => match us, hl with | [_], _ => rfl,
    F_law := fun_mk l_law cd__law kp_law,
    g_law := PySem.W.mg_of X G g_law,
    b_law := (fun_mk (st := s_law) l_law cd__law kp_law).binds (ps := ["script"]) fun _ _ _ _ _ _ us hl => match us, hl with | [_], _ => rfl,
    g_RoundError := PySem.W.mg_of X G gc_RoundError,
    g_BadName := PySem.W.mg_of X G gc_BadName,
    g_BadRound := PySem.W.mg_of X G gc_BadRound,
    g_BadStop := PySem.W.mg_of X G gc_BadStop,
    g_BadNet := PySem.W.mg_of X G gc_BadNet,
    g_UnknownNode := PySem.W.mg_of X G gc_UnknownNode,
    g_BadChange := PySem.W.mg_of X G gc_BadChange,
    g_BadLetter := PySem.W.mg_of X G gc_BadLetter,
    g_NotInTime := PySem.W.mg_of X G gc_NotInTime,
    g_TooFew := PySem.W.mg_of X G gc_TooFew,
    g_UnknownField := PySem.W.mg_of X G gc_UnknownField,
    E_BadName := ⟨⟨{ cls := ⟨_, _, _, _, _, _, _, _, _, _, _, _, _, _, _, xL_BadName, rfl⟩, sa := sa_BadName, exC := eC_BadName, tyC := tC_BadName, kC := kC_BadName }, ⟨_, _, _, _, l_BadName_init, _, rfl, rfl⟩, ⟨_, _, _, _, _, _, co_BadName_init, fi_BadName_init, fe_BadName_init⟩,
        ⟨_, _, _, ce_BadName_init⟩, cls_of xL_BadName, mr_BadName, PySem.W.mg_none_of X G z_super, tp, oq, in_BadName, sb_BadName⟩,
      ⟨ga_BadName, gg_BadName, eC_BadName, hd_BadName, ha_BadName, hn, ht, hm_BadName⟩, PySem.W.mg_of X G gc_BadName, iC_BadName, tI_BadName, ⟨_, _, _, _, _, _, _, _, rfl, l_BadName_init, cd__BadName_init⟩, nof1 no_BadName⟩,
    b_BadName_init := .all fun us hl => match us, hl with | [_, _], _ => rfl,
    k_BadName_init := ⟨fun s us ws _ l1 l2 => match us, ws, l1, l2 with | [_], [_], _, _ => .of_eq rfl, fun r rz => r.append rz⟩,
    E_BadRound := ⟨⟨{ cls := ⟨_, _, _, _, _, _, _, _, _, _, _, _, _, _, _, xL_BadRound, rfl⟩, sa := sa_BadRound, exC := eC_BadRound, tyC := tC_BadRound, kC := kC_BadRound }, ⟨_, _, _, _, l_BadRound_init, _, rfl, rfl⟩, ⟨_, _, _, _, _, _, co_BadRound_init, fi_BadRound_init, fe_BadRound_init⟩,
        ⟨_, _, _, ce_BadRound_init⟩, cls_of xL_BadRound, mr_BadRound, PySem.W.mg_none_of X G z_super, tp, oq, in_BadRound, sb_BadRound⟩,
      ⟨ga_BadRound, gg_BadRound, eC_BadRound, hd_BadRound, ha_BadRound, hn, ht, hm_BadRound⟩, PySem.W.mg_of X G gc_BadRound, iC_BadRound, tI_BadRound, ⟨_, _, _, _, _, _, _, _, rfl, l_BadRound_init, cd__BadRound_init⟩, nof1 no_BadRound⟩,
    b_BadRound_init := .all fun us hl => match us, hl with | [_, _], _ => rfl,
    k_BadRound_init := ⟨fun s us ws _ l1 l2 => match us, ws, l1, l2 with | [_], [_], _, _ => .of_eq rfl, fun r rz => r.append rz⟩,
    E_BadStop := ⟨⟨{ cls := ⟨_, _, _, _, _, _, _, _, _, _, _, _, _, _, _, xL_BadStop, rfl⟩, sa := sa_BadStop, exC := eC_BadStop, tyC := tC_BadStop, kC := kC_BadStop }, ⟨_, _, _, _, l_BadStop_init, _, rfl, rfl⟩, ⟨_, _, _, _, _, _, co_BadStop_init, fi_BadStop_init, fe_BadStop_init⟩,
        ⟨_, _, _, ce_BadStop_init⟩, cls_of xL_BadStop, mr_BadStop, PySem.W.mg_none_of X G z_super, tp, oq, in_BadStop, sb_BadStop⟩,
      ⟨ga_BadStop, gg_BadStop, eC_BadStop, hd_BadStop, ha_BadStop, hn, ht, hm_BadStop⟩, PySem.W.mg_of X G gc_BadStop, iC_BadStop, tI_BadStop, ⟨_, _, _, _, _, _, _, _, rfl, l_BadStop_init, cd__BadStop_init⟩, nof1 no_BadStop⟩,
    b_BadStop_init := .all fun us hl => match us, hl with | [_, _], _ => rfl,
    k_BadStop_init := ⟨fun s us ws _ l1 l2 => match us, ws, l1, l2 with | [_], [_], _, _ => .of_eq rfl, fun r rz => r.append rz⟩,
    E_BadNet := ⟨⟨{ cls := ⟨_, _, _, _, _, _, _, _, _, _, _, _, _, _, _, xL_BadNet, rfl⟩, sa := sa_BadNet, exC := eC_BadNet, tyC := tC_BadNet, kC := kC_BadNet }, ⟨_, _, _, _, l_BadNet_init, _, rfl, rfl⟩, ⟨_, _, _, _, _, _, co_BadNet_init, fi_BadNet_init, fe_BadNet_init⟩,
        ⟨_, _, _, ce_BadNet_init⟩, cls_of xL_BadNet, mr_BadNet, PySem.W.mg_none_of X G z_super, tp, oq, in_BadNet, sb_BadNet⟩,
      ⟨ga_BadNet, gg_BadNet, eC_BadNet, hd_BadNet, ha_BadNet, hn, ht, hm_BadNet⟩, PySem.W.mg_of X G gc_BadNet, iC_BadNet, tI_BadNet, ⟨_, _, _, _, _, _, _, _, rfl, l_BadNet_init, cd__BadNet_init⟩, nof1 no_BadNet⟩,
    b_BadNet_init := .all fun us hl => match us, hl with | [_, _], _ => rfl,
    k_BadNet_init := ⟨fun s us ws _ l1 l2 => match us, ws, l1, l2 with | [_], [_], _, _ => .of_eq rfl, fun r rz => r.append rz⟩,
    E_UnknownNode := ⟨⟨{ cls := ⟨_, _, _, _, _, _, _, _, _, _, _, _, _, _, _, xL_UnknownNode, rfl⟩, sa := sa_UnknownNode, exC := eC_UnknownNode, tyC := tC_UnknownNode, kC := kC_UnknownNode }, ⟨_, _, _, _, l_UnknownNode_init, _, rfl, rfl⟩, ⟨_, _, _, _, _, _, co_UnknownNode_init, fi_UnknownNode_init, fe_UnknownNode_init⟩,
        ⟨_, _, _, ce_UnknownNode_init⟩, cls_of xL_UnknownNode, mr_UnknownNode, PySem.W.mg_none_of X G z_super, tp, oq, in_UnknownNode, sb_UnknownNode⟩,
      ⟨ga_UnknownNode, gg_UnknownNode, eC_UnknownNode, hd_UnknownNode, ha_UnknownNode, hn, ht, hm_UnknownNode⟩, PySem.W.mg_of X G gc_UnknownNode, iC_UnknownNode, tI_UnknownNode, ⟨_, _, _, _, _, _, _, _, rfl, l_UnknownNode_init, cd__UnknownNode_init⟩, nof1 no_UnknownNode⟩,
    b_UnknownNode_init := .all fun us hl => match us, hl with | [_, _], _ => rfl,
    k_UnknownNode_init := ⟨fun s us ws _ l1 l2 => match us, ws, l1, l2 with | [_], [_], _, _ => .of_eq rfl, fun r rz => r.append rz⟩,
    E_BadChange := ⟨⟨{ cls := ⟨_, _, _, _, _, _, _, _, _, _, _, _, _, _, _, xL_BadChange, rfl⟩, sa := sa_BadChange, exC := eC_BadChange, tyC := tC_BadChange, kC := kC_BadChange }, ⟨_, _, _, _, l_BadChange_init, _, rfl, rfl⟩, ⟨_, _, _, _, _, _, co_BadChange_init, fi_BadChange_init, fe_BadChange_init⟩,
        ⟨_, _, _, ce_BadChange_init⟩, cls_of xL_BadChange, mr_BadChange, PySem.W.mg_none_of X G z_super, tp, oq, in_BadChange, sb_BadChange⟩,
      ⟨ga_BadChange, gg_BadChange, eC_BadChange, hd_BadChange, ha_BadChange, hn, ht, hm_BadChange⟩, PySem.W.mg_of X G gc_BadChange, iC_BadChange, tI_BadChange, ⟨_, _, _, _, _, _, _, _, rfl, l_BadChange_init, cd__BadChange_init⟩, nof1 no_BadChange⟩,
    b_BadChange_init := .all fun us hl => match us, hl with | [_, _], _ => rfl,
    k_BadChange_init := ⟨fun s us ws _ l1 l2 => match us, ws, l1, l2 with | [_], [_], _, _ => .of_eq rfl, fun r rz => r.append rz⟩,
    E_BadLetter := ⟨⟨{ cls := ⟨_, _, _, _, _, _, _, _, _, _, _, _, _, _, _, xL_BadLetter, rfl⟩, sa := sa_BadLetter, exC := eC_BadLetter, tyC := tC_BadLetter, kC := kC_BadLetter }, ⟨_, _, _, _, l_BadLetter_init, _, rfl, rfl⟩, ⟨_, _, _, _, _, _, co_BadLetter_init, fi_BadLetter_init, fe_BadLetter_init⟩,
        ⟨_, _, _, ce_BadLetter_init⟩, cls_of xL_BadLetter, mr_BadLetter, PySem.W.mg_none_of X G z_super, tp, oq, in_BadLetter, sb_BadLetter⟩,
      ⟨ga_BadLetter, gg_BadLetter, eC_BadLetter, hd_BadLetter, ha_BadLetter, hn, ht, hm_BadLetter⟩, PySem.W.mg_of X G gc_BadLetter, iC_BadLetter, tI_BadLetter, ⟨_, _, _, _, _, _, _, _, rfl, l_BadLetter_init, cd__BadLetter_init⟩, nof1 no_BadLetter⟩,
    b_BadLetter_init := .all fun us hl => match us, hl with | [_, _], _ => rfl,
    k_BadLetter_init := ⟨fun s us ws _ l1 l2 => match us, ws, l1, l2 with | [_], [_], _, _ => .of_eq rfl, fun r rz => r.append rz⟩,
    E_NotInTime := ⟨⟨{ cls := ⟨_, _, _, _, _, _, _, _, _, _, _, _, _, _, _, xL_NotInTime, rfl⟩, sa := sa_NotInTime, exC := eC_NotInTime, tyC := tC_NotInTime, kC := kC_NotInTime }, ⟨_, _, _, _, l_NotInTime_init, _, rfl, rfl⟩, ⟨_, _, _, _, _, _, co_NotInTime_init, fi_NotInTime_init, fe_NotInTime_init⟩,
        ⟨_, _, _, ce_NotInTime_init⟩, cls_of xL_NotInTime, mr_NotInTime, PySem.W.mg_none_of X G z_super, tp, oq, in_NotInTime, sb_NotInTime⟩,
      ⟨ga_NotInTime, gg_NotInTime, eC_NotInTime, hd_NotInTime, ha_NotInTime, hn, ht, hm_NotInTime⟩, PySem.W.mg_of X G gc_NotInTime, iC_NotInTime, tI_NotInTime, ⟨_, _, _, _, _, _, _, _, rfl, l_NotInTime_init, cd__NotInTime_init⟩, nof0⟩,
    b_NotInTime_init := .all fun us hl => match us, hl with | [_], _ => rfl,
    E_TooFew := ⟨⟨{ cls := ⟨_, _, _, _, _, _, _, _, _, _, _, _, _, _, _, xL_TooFew, rfl⟩, sa := sa_TooFew, exC := eC_TooFew, tyC := tC_TooFew, kC := kC_TooFew }, ⟨_, _, _, _, l_TooFew_init, _, rfl, rfl⟩, ⟨_, _, _, _, _, _, co_TooFew_init, fi_TooFew_init, fe_TooFew_init⟩,
        ⟨_, _, _, ce_TooFew_init⟩, cls_of xL_TooFew, mr_TooFew, PySem.W.mg_none_of X G z_super, tp, oq, in_TooFew, sb_TooFew⟩,
      ⟨ga_TooFew, gg_TooFew, eC_TooFew, hd_TooFew, ha_TooFew, hn, ht, hm_TooFew⟩, PySem.W.mg_of X G gc_TooFew, iC_TooFew, tI_TooFew, ⟨_, _, _, _, _, _, _, _, rfl, l_TooFew_init, cd__TooFew_init⟩, nof1 no_TooFew⟩,
    b_TooFew_init := .all fun us hl => match us, hl with | [_, _], _ => rfl,
    k_TooFew_init := ⟨fun s us ws _ l1 l2 => match us, ws, l1, l2 with | [_], [_], _, _ => .of_eq rfl, fun r rz => r.append rz⟩,
    E_UnknownField := ⟨⟨{ cls := ⟨_, _, _, _, _, _, _, _, _, _, _, _, _, _, _, xL_UnknownField, rfl⟩, sa := sa_UnknownField, exC := eC_UnknownField, tyC := tC_UnknownField, kC := kC_UnknownField }, ⟨_, _, _, _, l_UnknownField_init, _, rfl, rfl⟩, ⟨_, _, _, _, _, _, co_UnknownField_init, fi_UnknownField_init, fe_UnknownField_init⟩,
        ⟨_, _, _, ce_UnknownField_init⟩, cls_of xL_UnknownField, mr_UnknownField, PySem.W.mg_none_of X G z_super, tp, oq, in_UnknownField, sb_UnknownField⟩,
      ⟨ga_UnknownField, gg_UnknownField, eC_UnknownField, hd_UnknownField, ha_UnknownField, hn, ht, hm_UnknownField⟩, PySem.W.mg_of X G gc_UnknownField, iC_UnknownField, tI_UnknownField, ⟨_, _, _, _, _, _, _, _, rfl, l_UnknownField_init, cd__UnknownField_init⟩, nof1 no_UnknownField⟩,
    b_UnknownField_init := .all fun us hl => match us, hl with | [_, _], _ => rfl,
    k_UnknownField_init := ⟨fun s us ws _ l1 l2 => match us, ws, l1, l2 with | [_], [_], _, _ => .of_eq rfl, fun r rz => r.append rz⟩,
    n_ValueError := PySem.W.mg_none_of X G z_ValueError,
    n_isinstance := PySem.W.mg_none_of X G z_isinstance,
    n_len := PySem.W.mg_none_of X G z_len,
    n_max := PySem.W.mg_none_of X G z_max,
    n_min := PySem.W.mg_none_of X G z_min,
    n_range := PySem.W.mg_none_of X G z_range,
    n_super := PySem.W.mg_none_of X G z_super,
    fl_BadName := x_fl_BadName,
    fv_BadName := x_fv_BadName,
    fl_BadRound := x_fl_BadRound,
    fv_BadRound := x_fv_BadRound,
    fl_BadStop := x_fl_BadStop,
    fv_BadStop := x_fv_BadStop,
    fl_BadNet := x_fl_BadNet,
    fv_BadNet := x_fv_BadNet,
    fl_UnknownNode := x_fl_UnknownNode,
    fv_UnknownNode := x_fv_UnknownNode,
    fl_BadChange := x_fl_BadChange,
    fv_BadChange := x_fv_BadChange,
    fl_BadLetter := x_fl_BadLetter,
    fv_BadLetter := x_fv_BadLetter,
    fl_NotInTime := x_fl_NotInTime,
    fv_NotInTime := x_fv_NotInTime,
    fl_TooFew := x_fl_TooFew,
    fv_TooFew := x_fv_TooFew,
    fl_UnknownField := x_fl_UnknownField,
    fv_UnknownField := x_fv_UnknownField }
theorem walk {l : PySem.W.OpenLaw} {q : Program} {loose : List Str} {XP : (Str → Option Value) → Heap → Prop} {YP : World → Heap → Prop} {d : DefRec} {K : Params → PySem.W.Frag} (hn : l.most = some 63) (hdf : d.params.defaults = []) (hd : d.name = "law")
    (hY : ∀ (w : World) (h : Heap), YP w h → (K w.params).In h)
    (F : ∀ (w : World) (mg : Str → Option Value) (h : Heap), (K w.params).In h → h.Ns mainGlobals mg → ∃ Z : Ads, Txt l.prog (K w.params) mg Z) :
    PySem.W.WalkO q loose XP YP l.row.toRowW d [] (fun f vs => PySem.call f vs) := by
  refine L2.walk_of (n := 63) (k := 3) (x := "script") (CX := fun _ => CX0) (sp := fun w => spLaw (K w.params)) hn (by decide) hdf ⟨rfl, by decide, by decide⟩ hY (fun w mg fa h KX G hfa => ?_) (fun _ _ a ns hl _ hS => ⟨a, ns, rfl, hS, hl, fun _ => rfl⟩) fun _ _ _ _ _ z => z
  obtain ⟨Z, T⟩ := F w mg h KX G
  rw [hd] at hfa
  have e := hfa.symm.trans T.g_law
  cases e
  exact ⟨Z.d_law, fun s v => (by obtain ⟨oc, od, kV, doc, pm, an, cdv, ct, osl, e, _⟩ := T.F_law.ex; rw [e]; exact .of_eq rfl), fun base _ _ => ok_law T⟩
end Hr
open PySem PySem.W PyProof.Rows in
set_option maxRecDepth 100000 in
set_option maxHeartbeats 0 in
theorem PySem.Challenge.cw_handrounds_k01_errors_holds : PySem.Challenge.rw_handrounds_k01_errors.Holds := by
  w_on; o_law; k_head; (case hw => w_witness2)
  k_fill
  refine Hr.walk (l := PySem.Challenge.rw_handrounds_k01_errors) rfl rfl rfl (fun w h Y => PySem.W.kIn_of Y) ?F
  case F =>
    intro w mg h KX G
    refine' ⟨_, Hr.txt_mk KX G ?g_law_source ?l_law_source ?cd__law_source ?kp_law_source ?g_law_draw ?l_law_draw ?cd__law_draw ?kp_law_draw ?g_law_flags ?l_law_flags ?cd__law_flags ?kp_law_flags ?g_law ?l_law ?cd__law ?kp_law ?gc_RoundError ?gc_BadName ?gc_BadRound ?gc_BadStop ?gc_BadNet ?gc_UnknownNode ?gc_BadChange ?gc_BadLetter ?gc_NotInTime ?gc_TooFew ?gc_UnknownField ?xL_BadName ?sa_BadName ?eC_BadName ?tC_BadName ?kC_BadName ?iC_BadName ?tI_BadName ?l_BadName_init ?cd__BadName_init ?co_BadName_init ?fi_BadName_init ?fe_BadName_init ?ce_BadName_init ?mr_BadName ?in_BadName ?sb_BadName ?ga_BadName ?gg_BadName ?hd_BadName ?ha_BadName ?hm_BadName ?no_BadName ?xL_BadRound ?sa_BadRound ?eC_BadRound ?tC_BadRound ?kC_BadRound ?iC_BadRound ?tI_BadRound ?l_BadRound_init ?cd__BadRound_init ?co_BadRound_init ?fi_BadRound_init ?fe_BadRound_init ?ce_BadRound_init ?mr_BadRound ?in_BadRound ?sb_BadRound ?ga_BadRound ?gg_BadRound ?hd_BadRound ?ha_BadRound ?hm_BadRound ?no_BadRound ?xL_BadStop ?sa_BadStop ?eC_BadStop ?tC_BadStop ?kC_BadStop ?iC_BadStop ?tI_BadStop ?l_BadStop_init ?cd__BadStop_init ?co_BadStop_init ?fi_BadStop_init ?fe_BadStop_init ?ce_BadStop_init ?mr_BadStop ?in_BadStop ?sb_BadStop ?ga_BadStop ?gg_BadStop ?hd_BadStop ?ha_BadStop ?hm_BadStop ?no_BadStop ?xL_BadNet ?sa_BadNet ?eC_BadNet ?tC_BadNet ?kC_BadNet ?iC_BadNet ?tI_BadNet ?l_BadNet_init ?cd__BadNet_init ?co_BadNet_init ?fi_BadNet_init ?fe_BadNet_init ?ce_BadNet_init ?mr_BadNet ?in_BadNet ?sb_BadNet ?ga_BadNet ?gg_BadNet ?hd_BadNet ?ha_BadNet ?hm_BadNet ?no_BadNet ?xL_UnknownNode ?sa_UnknownNode ?eC_UnknownNode ?tC_UnknownNode ?kC_UnknownNode ?iC_UnknownNode ?tI_UnknownNode ?l_UnknownNode_init ?cd__UnknownNode_init ?co_UnknownNode_init ?fi_UnknownNode_init ?fe_UnknownNode_init ?ce_UnknownNode_init ?mr_UnknownNode ?in_UnknownNode ?sb_UnknownNode ?ga_UnknownNode ?gg_UnknownNode ?hd_UnknownNode ?ha_UnknownNode ?hm_UnknownNode ?no_UnknownNode ?xL_BadChange ?sa_BadChange ?eC_BadChange ?tC_BadChange ?kC_BadChange ?iC_BadChange ?tI_BadChange ?l_BadChange_init ?cd__BadChange_init ?co_BadChange_init ?fi_BadChange_init ?fe_BadChange_init ?ce_BadChange_init ?mr_BadChange ?in_BadChange ?sb_BadChange ?ga_BadChange ?gg_BadChange ?hd_BadChange ?ha_BadChange ?hm_BadChange ?no_BadChange ?xL_BadLetter ?sa_BadLetter ?eC_BadLetter ?tC_BadLetter ?kC_BadLetter ?iC_BadLetter ?tI_BadLetter ?l_BadLetter_init ?cd__BadLetter_init ?co_BadLetter_init ?fi_BadLetter_init ?fe_BadLetter_init ?ce_BadLetter_init ?mr_BadLetter ?in_BadLetter ?sb_BadLetter ?ga_BadLetter ?gg_BadLetter ?hd_BadLetter ?ha_BadLetter ?hm_BadLetter ?no_BadLetter ?xL_NotInTime ?sa_NotInTime ?eC_NotInTime ?tC_NotInTime ?kC_NotInTime ?iC_NotInTime ?tI_NotInTime ?l_NotInTime_init ?cd__NotInTime_init ?co_NotInTime_init ?fi_NotInTime_init ?fe_NotInTime_init ?ce_NotInTime_init ?mr_NotInTime ?in_NotInTime ?sb_NotInTime ?ga_NotInTime ?gg_NotInTime ?hd_NotInTime ?ha_NotInTime ?hm_NotInTime ?xL_TooFew ?sa_TooFew ?eC_TooFew ?tC_TooFew ?kC_TooFew ?iC_TooFew ?tI_TooFew ?l_TooFew_init ?cd__TooFew_init ?co_TooFew_init ?fi_TooFew_init ?fe_TooFew_init ?ce_TooFew_init ?mr_TooFew ?in_TooFew ?sb_TooFew ?ga_TooFew ?gg_TooFew ?hd_TooFew ?ha_TooFew ?hm_TooFew ?no_TooFew ?xL_UnknownField ?sa_UnknownField ?eC_UnknownField ?tC_UnknownField ?kC_UnknownField ?iC_UnknownField ?tI_UnknownField ?l_UnknownField_init ?cd__UnknownField_init ?co_UnknownField_init ?fi_UnknownField_init ?fe_UnknownField_init ?ce_UnknownField_init ?mr_UnknownField ?in_UnknownField ?sb_UnknownField ?ga_UnknownField ?gg_UnknownField ?hd_UnknownField ?ha_UnknownField ?hm_UnknownField ?no_UnknownField ?tp ?oq ?hn ?ht ?z_ValueError ?z_isinstance ?z_len ?z_max ?z_min ?z_range ?z_super ?x_fl_BadName ?x_fv_BadName ?x_fl_BadRound ?x_fv_BadRound ?x_fl_BadStop ?x_fv_BadStop ?x_fl_BadNet ?x_fv_BadNet ?x_fl_UnknownNode ?x_fv_UnknownNode ?x_fl_BadChange ?x_fv_BadChange ?x_fl_BadLetter ?x_fv_BadLetter ?x_fl_NotInTime ?x_fv_NotInTime ?x_fl_TooFew ?x_fv_TooFew ?x_fl_UnknownField ?x_fv_UnknownField⟩
    (case g_law_source => k_is)
    (case l_law_source => k_is)
    (case cd__law_source => k_is)
    (case kp_law_source => k_is)
    (case g_law_draw => k_is)
    (case l_law_draw => k_is)
    (case cd__law_draw => k_is)
    (case kp_law_draw => k_is)
    (case g_law_flags => k_is)
    (case l_law_flags => k_is)
    (case cd__law_flags => k_is)
    (case kp_law_flags => k_is)
    (case g_law => k_is)
    (case l_law => k_is)
    (case cd__law => k_is)
    (case kp_law => k_is)
    (case gc_RoundError => k_is)
    (case gc_BadName => k_is)
    (case gc_BadRound => k_is)
    (case gc_BadStop => k_is)
    (case gc_BadNet => k_is)
    (case gc_UnknownNode => k_is)
    (case gc_BadChange => k_is)
    (case gc_BadLetter => k_is)
    (case gc_NotInTime => k_is)
    (case gc_TooFew => k_is)
    (case gc_UnknownField => k_is)
    (case xL_BadName => k_is)
    (case sa_BadName => k_is)
    (case eC_BadName => k_is)
    (case tC_BadName => k_is)
    (case kC_BadName => k_is)
    (case iC_BadName => k_is)
    (case tI_BadName => k_is)
    (case l_BadName_init => k_is)
    (case cd__BadName_init => k_is)
    (case co_BadName_init => k_is)
    (case fi_BadName_init => rfl)
    (case fe_BadName_init => first | rfl | decide +kernel)
    (case ce_BadName_init => k_is)
    (case mr_BadName => k_is)
    (case in_BadName => ks_is)
    (case sb_BadName => k_is)
    (case ga_BadName => k_is)
    (case gg_BadName => k_is)
    (case hd_BadName => k_is)
    (case ha_BadName => k_is)
    (case hm_BadName => k_is)
    (case no_BadName => k_is)
    (case xL_BadRound => k_is)
    (case sa_BadRound => k_is)
    (case eC_BadRound => k_is)
    (case tC_BadRound => k_is)
    (case kC_BadRound => k_is)
    (case iC_BadRound => k_is)
    (case tI_BadRound => k_is)
    (case l_BadRound_init => k_is)
    (case cd__BadRound_init => k_is)
    (case co_BadRound_init => k_is)
    (case fi_BadRound_init => rfl)
    (case fe_BadRound_init => first | rfl | decide +kernel)
    (case ce_BadRound_init => k_is)
    (case mr_BadRound => k_is)
    (case in_BadRound => ks_is)
    (case sb_BadRound => k_is)
    (case ga_BadRound => k_is)
    (case gg_BadRound => k_is)
    (case hd_BadRound => k_is)
    (case ha_BadRound => k_is)
    (case hm_BadRound => k_is)
    (case no_BadRound => k_is)
    (case xL_BadStop => k_is)
    (case sa_BadStop => k_is)
    (case eC_BadStop => k_is)
    (case tC_BadStop => k_is)
    (case kC_BadStop => k_is)
    (case iC_BadStop => k_is)
    (case tI_BadStop => k_is)
    (case l_BadStop_init => k_is)
    (case cd__BadStop_init => k_is)
    (case co_BadStop_init => k_is)
    (case fi_BadStop_init => rfl)
    (case fe_BadStop_init => first | rfl | decide +kernel)
    (case ce_BadStop_init => k_is)
    (case mr_BadStop => k_is)
    (case in_BadStop => ks_is)
    (case sb_BadStop => k_is)
    (case ga_BadStop => k_is)
    (case gg_BadStop => k_is)
    (case hd_BadStop => k_is)
    (case ha_BadStop => k_is)
    (case hm_BadStop => k_is)
    (case no_BadStop => k_is)
    (case xL_BadNet => k_is)
    (case sa_BadNet => k_is)
    (case eC_BadNet => k_is)
    (case tC_BadNet => k_is)
    (case kC_BadNet => k_is)
    (case iC_BadNet => k_is)
    (case tI_BadNet => k_is)
    (case l_BadNet_init => k_is)
    (case cd__BadNet_init => k_is)
    (case co_BadNet_init => k_is)
    (case fi_BadNet_init => rfl)
    (case fe_BadNet_init => first | rfl | decide +kernel)
    (case ce_BadNet_init => k_is)
    (case mr_BadNet => k_is)
    (case in_BadNet => ks_is)
    (case sb_BadNet => k_is)
    (case ga_BadNet => k_is)
    (case gg_BadNet => k_is)
    (case hd_BadNet => k_is)
    (case ha_BadNet => k_is)
    (case hm_BadNet => k_is)
    (case no_BadNet => k_is)
    (case xL_UnknownNode => k_is)
    (case sa_UnknownNode => k_is)
    (case eC_UnknownNode => k_is)
    (case tC_UnknownNode => k_is)
    (case kC_UnknownNode => k_is)
    (case iC_UnknownNode => k_is)
    (case tI_UnknownNode => k_is)
    (case l_UnknownNode_init => k_is)
    (case cd__UnknownNode_init => k_is)
    (case co_UnknownNode_init => k_is)
    (case fi_UnknownNode_init => rfl)
    (case fe_UnknownNode_init => first | rfl | decide +kernel)
    (case ce_UnknownNode_init => k_is)
    (case mr_UnknownNode => k_is)
    (case in_UnknownNode => ks_is)
    (case sb_UnknownNode => k_is)
    (case ga_UnknownNode => k_is)
    (case gg_UnknownNode => k_is)
    (case hd_UnknownNode => k_is)
    (case ha_UnknownNode => k_is)
    (case hm_UnknownNode => k_is)
    (case no_UnknownNode => k_is)
    (case xL_BadChange => k_is)
    (case sa_BadChange => k_is)
    (case eC_BadChange => k_is)
    (case tC_BadChange => k_is)
    (case kC_BadChange => k_is)
    (case iC_BadChange => k_is)
    (case tI_BadChange => k_is)
    (case l_BadChange_init => k_is)
    (case cd__BadChange_init => k_is)
    (case co_BadChange_init => k_is)
    (case fi_BadChange_init => rfl)
    (case fe_BadChange_init => first | rfl | decide +kernel)
    (case ce_BadChange_init => k_is)
    (case mr_BadChange => k_is)
    (case in_BadChange => ks_is)
    (case sb_BadChange => k_is)
    (case ga_BadChange => k_is)
    (case gg_BadChange => k_is)
    (case hd_BadChange => k_is)
    (case ha_BadChange => k_is)
    (case hm_BadChange => k_is)
    (case no_BadChange => k_is)
    (case xL_BadLetter => k_is)
    (case sa_BadLetter => k_is)
    (case eC_BadLetter => k_is)
    (case tC_BadLetter => k_is)
    (case kC_BadLetter => k_is)
    (case iC_BadLetter => k_is)
    (case tI_BadLetter => k_is)
    (case l_BadLetter_init => k_is)
    (case cd__BadLetter_init => k_is)
    (case co_BadLetter_init => k_is)
    (case fi_BadLetter_init => rfl)
    (case fe_BadLetter_init => first | rfl | decide +kernel)
    (case ce_BadLetter_init => k_is)
    (case mr_BadLetter => k_is)
    (case in_BadLetter => ks_is)
    (case sb_BadLetter => k_is)
    (case ga_BadLetter => k_is)
    (case gg_BadLetter => k_is)
    (case hd_BadLetter => k_is)
    (case ha_BadLetter => k_is)
    (case hm_BadLetter => k_is)
    (case no_BadLetter => k_is)
    (case xL_NotInTime => k_is)
    (case sa_NotInTime => k_is)
    (case eC_NotInTime => k_is)
    (case tC_NotInTime => k_is)
    (case kC_NotInTime => k_is)
    (case iC_NotInTime => k_is)
    (case tI_NotInTime => k_is)
    (case l_NotInTime_init => k_is)
    (case cd__NotInTime_init => k_is)
    (case co_NotInTime_init => k_is)
    (case fi_NotInTime_init => rfl)
    (case fe_NotInTime_init => first | rfl | decide +kernel)
    (case ce_NotInTime_init => k_is)
    (case mr_NotInTime => k_is)
    (case in_NotInTime => ks_is)
    (case sb_NotInTime => k_is)
    (case ga_NotInTime => k_is)
    (case gg_NotInTime => k_is)
    (case hd_NotInTime => k_is)
    (case ha_NotInTime => k_is)
    (case hm_NotInTime => k_is)
    (case xL_TooFew => k_is)
    (case sa_TooFew => k_is)
    (case eC_TooFew => k_is)
    (case tC_TooFew => k_is)
    (case kC_TooFew => k_is)
    (case iC_TooFew => k_is)
    (case tI_TooFew => k_is)
    (case l_TooFew_init => k_is)
    (case cd__TooFew_init => k_is)
    (case co_TooFew_init => k_is)
    (case fi_TooFew_init => rfl)
    (case fe_TooFew_init => first | rfl | decide +kernel)
    (case ce_TooFew_init => k_is)
    (case mr_TooFew => k_is)
    (case in_TooFew => ks_is)
    (case sb_TooFew => k_is)
    (case ga_TooFew => k_is)
    (case gg_TooFew => k_is)
    (case hd_TooFew => k_is)
    (case ha_TooFew => k_is)
    (case hm_TooFew => k_is)
    (case no_TooFew => k_is)
    (case xL_UnknownField => k_is)
    (case sa_UnknownField => k_is)
    (case eC_UnknownField => k_is)
    (case tC_UnknownField => k_is)
    (case kC_UnknownField => k_is)
    (case iC_UnknownField => k_is)
    (case tI_UnknownField => k_is)
    (case l_UnknownField_init => k_is)
    (case cd__UnknownField_init => k_is)
    (case co_UnknownField_init => k_is)
    (case fi_UnknownField_init => rfl)
    (case fe_UnknownField_init => first | rfl | decide +kernel)
    (case ce_UnknownField_init => k_is)
    (case mr_UnknownField => k_is)
    (case in_UnknownField => ks_is)
    (case sb_UnknownField => k_is)
    (case ga_UnknownField => k_is)
    (case gg_UnknownField => k_is)
    (case hd_UnknownField => k_is)
    (case ha_UnknownField => k_is)
    (case hm_UnknownField => k_is)
    (case no_UnknownField => k_is)
    (case tp => first | rfl | decide +kernel)
    (case oq => k_is)
    (case hn => k_is)
    (case ht => k_is)
    (case z_ValueError => k_is)
    (case z_isinstance => k_is)
    (case z_len => k_is)
    (case z_max => k_is)
    (case z_min => k_is)
    (case z_range => k_is)
    (case z_super => k_is)
    (case x_fl_BadName => kernel_rfl)
    (case x_fv_BadName => kernel_rfl)
    (case x_fl_BadRound => kernel_rfl)
    (case x_fv_BadRound => kernel_rfl)
    (case x_fl_BadStop => kernel_rfl)
    (case x_fv_BadStop => kernel_rfl)
    (case x_fl_BadNet => kernel_rfl)
    (case x_fv_BadNet => kernel_rfl)
    (case x_fl_UnknownNode => kernel_rfl)
    (case x_fv_UnknownNode => kernel_rfl)
    (case x_fl_BadChange => kernel_rfl)
    (case x_fv_BadChange => kernel_rfl)
    (case x_fl_BadLetter => kernel_rfl)
    (case x_fv_BadLetter => kernel_rfl)
    (case x_fl_NotInTime => kernel_rfl)
    (case x_fv_NotInTime => kernel_rfl)
    (case x_fl_TooFew => kernel_rfl)
    (case x_fv_TooFew => kernel_rfl)
    (case x_fl_UnknownField => kernel_rfl)
    (case x_fv_UnknownField => kernel_rfl)
