import PyProof.Rows.All
import Wide.All
import OpenK.AllK
import Wide.FinOn
import HandS.ForMost
import HandS.Exc
import HandS.ExcOwn
import HandS.ExcInit
import HandS.ExcField
import HandS.TryMany
import HandS.WordsExc
import HandS.Nested
import HandS.Walk
import HandS.IsInst
import HandS.TupLe
import HandS.TupAny
import HandS.Wide
import HandS.Deep
import HandS.SortRule
import HandS.DictComp
import HandS.Conv
import HandS.Lambda
import KE.GoesMore
import KE.GoesEnum
import KE.KNestM
import PySem.Challenge.RW_pairfloors_k31_cores_by_striking_in_any
import HandS.WideMore
import KE.KTupSum
import HandS.TupLen
import HandS.SortKw
import KE.DatumOrd
import KE.BitLaws
import HandS.Style
import HandS.EndTab
import KE.KLam
-- Lam
section
set_option Elab.async false
set_option linter.all false
set_option maxRecDepth 100000
set_option maxHeartbeats 4000000
/-! Lam: a lambda with parameters is made in a def, handed to a second def and called there. -/
namespace LamP
open PySem PySem.Spec PyProof.Rows L2 LamX NdefX
/-- at f stands what `lambda ..: b` makes -/
def LamIs (h : Heap) (f : Addr) (F : NF) (b : Expr) : Prop :=
  ∃ od sl pm ctv, h.get? f = some { cls := .type "function", dict := od, data := .func (PySem.W.kla_fn "<lambda>" F.qual F.params b F.scope F.cl pm (.ref F.c) ctv), slots := sl }
def LamO (f : Addr) (F : NF) (b : Expr) : HO := .ext fun h => LamIs h f F b
theorem lamO_ne {f : Addr} {F : NF} {b : Expr} (ps : Array Value) : LamO f F b ≠ .tbl ps := by
  unfold LamO
  exact fun z => HO.noConfusion z
theorem lam_is {P : Program} {w : World} {H : Hp} {h : Heap} {f : Addr} {F : NF} {b : Expr} (hok : HOk P w H h) (e : H f = some (LamO f F b)) : LamIs h f F b :=
  (show LamIs h f F b ∧ _ ∧ _ from hok f _ e).1
section
variable {T : List NTab} {H : Hp} {P c' : Addr} {ps : Array Value} {pos : Pos} {q : Str}
/-- the table at P has a new row, for the code object at c' -/
def grow (H : Hp) (P : Addr) (ps : Array Value) (pos : Pos) (c' : Addr) (q : Str) : Hp := upd (upd H P (.tbl (ps ++ #[rawInt pos.line, rawInt pos.col, .ref c']))) c' (CodeO c' q)
theorem grow_other {b : Addr} (h1 : b ≠ P) (h2 : b ≠ c') : grow H P ps pos c' q b = H b := (upd_ne h2).trans (upd_ne h1)
theorem grow_kept (hP : H P = some (.tbl ps)) (nC : H c' = none) : ExtN H (grow H P ps pos c' q) := by
  intro b o e plain
  refine (grow_other (fun z => ?_) (ne_of_none e nC)).trans e
  subst z
  exact plain ps (Option.some.inj (e.symm.trans hP))
theorem grow_none {b : Addr} (e : grow H P ps pos c' q b = none) : H b = none := upd_none (upd_none e)
theorem grow_tabs (hT : TabsN T H) (hP : H P = some (.tbl ps)) (well : TriplesOk ps.toList) (only : ∀ p ∈ T, p.1 = P → p.2 = fun _ _ => q) (nC : H c' = none) : TabsN T (grow H P ps pos c' q) := by
  intro p hp
  obtain ⟨qs, at_, ok, rows⟩ := hT p hp
  have keep := grow_kept (pos := pos) (q := q) hP nC
  by_cases here : p.1 = P
  · have same : qs = ps := by
      rw [here, hP] at at_
      cases at_
      rfl
    subst same
    refine ⟨qs ++ #[rawInt pos.line, rawInt pos.col, .ref c'], ?_, ?_, fun pos2 cv found => ?_⟩
    · rw [here]
      exact (upd_ne (ne_of_none hP nC)).trans upd_same
    · rw [Array.toList_append]
      exact PySem.TriplesOk_snoc _ _ _ _ ok
    · rw [Array.toList_append] at found
      rcases among_app2 _ ok found with old | ⟨new, _⟩
      · obtain ⟨c0, e1, e2⟩ := rows pos2 cv old
        exact ⟨c0, e1, keep _ _ e2 codeO_ne⟩
      · exact ⟨c', new, by rw [only p hp here]; exact upd_same⟩
  · refine ⟨qs, ?_, ok, fun pos2 cv found => ?_⟩
    · exact (grow_other here (ne_of_none at_ nC)).trans at_
    · exact (rows pos2 cv found).imp fun _ z => ⟨z.1, keep _ _ z.2 codeO_ne⟩
end
/-- a lambda made: F its data but for the code object's place -/
structure Made (T : List NTab) (F : Addr → NF) (b : Expr) (H H1 : Hp) (f c' : Addr) : Prop where
  kept : ExtN H H1
  back : ∀ a, H1 a = none → H a = none
  tabs : TabsN T H1
  new : H f = none
  lam : H1 f = some (LamO f (F c') b)
  code : H1 c' = some (CodeO c' (F c').qual)
theorem made_of {T : List NTab} {F : Addr → NF} {b : Expr} {H H1 : Hp} {f c' : Addr} (kept : ExtN H H1) (back : ∀ a, H1 a = none → H a = none) (tabs : TabsN T H1) (n1 : H1 f = none) (code : H1 c' = some (CodeO c' (F c').qual)) : Made T F b H (upd H1 f (LamO f (F c') b)) f c' :=
  have step : ∀ a o, H1 a = some o → upd H1 f (LamO f (F c') b) a = some o := fun a o e => (upd_ne (ne_of_none e n1)).trans e
  ⟨fun a o e p => step a o (kept a o e p), fun a e => back a (upd_none e), tabs.ext step, back f n1, upd_same, step c' _ code⟩
section
variable {X : Cx} {pins : List (Addr × Obj)} {σ : L2.St} {H : Hp} {s : Shared}
/-- its function object laid on top of the heap -/
theorem inv_lam {F : NF} {b : Expr} {tk : Nat} {pm ctv : Value} (I : Inv X pins σ H s) :
    Inv X pins σ (upd H s.heap.objs.size (LamO s.heap.objs.size F b)) { s with heap := s.heap.push (PySem.W.kla_obj "<lambda>" F.qual F.params b F.scope F.cl pm F.c ctv), toks := tk } := by
  have top := Heap.get?_push_size s.heap (o := PySem.W.kla_obj "<lambda>" F.qual F.params b F.scope F.cl pm F.c ctv) rfl
  refine I.laid (fun _ _ e => Heap.get?_push_of_some _ e) (Nat.le_refl _) ⟨⟨_, _, _, _, top⟩, ⟨_, top⟩, fun _ _ is st => ?_⟩
  exact is.imp fun _ y => y.imp fun _ y => y.imp fun _ y => y.imp fun _ e => st _ e
def mkLam (X : Cx) (params : Arguments) (scope : Scope) (c' : Addr) : NF := ⟨"<lambda>", X.env.qual ++ "<lambda>", params, [], scope, cloFrom X.env.cells scope.names [], c'⟩
/-- the reading of a lambda: a new function object -/
def tLamE (T : List NTab) (mk : Addr → NF) (b : Expr) : TE := fun σ H Q => TabsN T H ∧ ∀ (f c' : Addr) (H1 : Hp), Made T mk b H H1 f c' → Q (.ref f) H1
theorem pe_lam {T : List NTab} {c P : Addr} {params : Arguments} {body : Expr} {scope : Scope} {pos : Pos} (TB : TabB X.base X.mg c P) (hcode : X.env.code = .ref c) (mem : (P, fun _ _ => X.env.qual ++ "<lambda>") ∈ T)
    (only : ∀ p ∈ T, p.1 = P → p.2 = fun _ _ => X.env.qual ++ "<lambda>") (hdef : defaultsOf params X.env = ([], []))
    (hfree : ∀ y ∈ scope.names, y.2 = .free → X.env.scope.names.lookup y.1 = some .cell ∨ X.env.scope.names.lookup y.1 = some .free) : PE X (.Lambda params body scope pos) (tLamE T (mkLam X params scope) body) := by
  constructor
  rintro pins s σ H Q I ⟨hT, h⟩
  have clo := closure_ok (scope := scope) (env := X.env) fun y hy e => I.ok.has _ (hfree y hy e)
  obtain ⟨ps, hP, well, rows⟩ := (hT _ mem : TabN H P fun _ _ => X.env.qual ++ "<lambda>")
  have inP : s.heap.get? P = some (PySem.W.tabObj ps) := I.hok P _ hP
  have ends : ∀ {g : Heap} {tk : Nat} {H1 : Hp} {c1 : Addr} (ctv : Value), Inv X pins σ H1 { s with heap := g, toks := tk } → ExtN H H1 → (∀ a, H1 a = none → H a = none) → TabsN T H1 → H1 c1 = some (CodeO c1 (X.env.qual ++ "<lambda>")) →
      EP X pins σ Q (.ref g.objs.size) { s with heap := g.push (PySem.W.kla_obj "<lambda>" (X.env.qual ++ "<lambda>") params body scope (cloFrom X.env.cells scope.names []) ((X.mg "__name__").getD .none) c1 ctv), toks := tk } := fun ctv J kept back tabs code =>
    ⟨.ref _, _, inv_lam (F := mkLam X params scope _) J, rfl, h _ _ _ (made_of kept back tabs (J.hok.fresh (Nat.le_refl _)) code)⟩
  refine PySem.W.kla_eval hdef ?_
  rcases known : codeAmong pos ps.toList with _ | cv
  · refine PySem.W.kla_makeFunction clo I.ok.glob (I.mod.glob.keeps I.bk) hcode (TB.code.keeps I.bk) inP well known TB.gP (TB.bm.keeps I.bk) fun c1 ctv g tk but new _ rec row => ?_
    obtain ⟨_, oc, vs, t, same, hoc, hd, hv⟩ := rec
    cases same
    have nC := I.hok.fresh new
    have J : Inv X pins σ (grow H P ps pos c1 (X.env.qual ++ "<lambda>")) { s with heap := g, toks := tk } := inv_table I hP (fun b o hb e => but b o hb e) row new ⟨oc, vs, t, hoc, hd, hv⟩
    exact ends ctv J (grow_kept hP nC) (fun _ => grow_none) (grow_tabs hT hP well only nC) upd_same
  · obtain ⟨c1, rfl, code⟩ := rows pos cv known
    exact PySem.W.kla_makeFunctionHit clo I.ok.glob (I.mod.glob.keeps I.bk) hcode (TB.code.keeps I.bk) inP well known (TB.bm.keeps I.bk) fun ctv g tk kept _ =>
      ends ctv (I.kept kept) (ExtN.refl H) (fun _ e => e) hT code
end
/-! ### the lambda called -/
/-- the lambda F at f keeps sp, called at a room of k -/
structure LOk (P : Program) (w : World) (K : PySem.W.Frag) (mg : Str → Option Value) (base : Heap) (CX : CXT) (k : Nat) (f : Addr) (F : NF) (b : Expr) (ps fr : List Str) (sp : List (Option V) → Sp) : Prop where
  len : ∀ ws vs H Q E, sp ws vs H Q E → vs.length = ps.length
  run : ∀ A outer s H us vs ws Q E, Room k A → Env0 P w K mg base A outer s H → H f = some (LamO f F b) ∧ H F.c = some (CodeO F.c F.qual) → CellsAt F.cl fr ws s.heap H → Vals vs us → sp ws vs H Q E → codeAny (model P w) A (.call (.ref f) ⟨us, []⟩) (CR CX outer P w H s Q E) s
theorem lok_of {CX : CXT} {P : Program} {w : World} {K : PySem.W.Frag} {mg : Str → Option Value} {base : Heap} {N ps fr : List Str} {F : NF} {b : Expr} {f : Addr} {k : Nat} {sp : List (Option V) → Sp}
    (S : NScope N ps fr F.scope) (binds : ∀ (pm ctv : Value) (us : List Value), us.length = ps.length → bindArgs (PySem.W.kla_fn "<lambda>" F.qual F.params b F.scope F.cl pm (.ref F.c) ctv) ⟨us, []⟩ = pure (ps.zip us)) (len : ∀ ws vs H Q E, sp ws vs H Q E → vs.length = ps.length)
    (body : ∀ A outer s H vs ws Q E, Room k (A.deeper (envF F f s.heap.objs.size)) → H f = some (LamO f F b) → H F.c = some (CodeO F.c F.qual) → ws.length = fr.length → sp ws vs H Q E → ∃ t, PE (ncx CX P w K mg base N F f A outer s H E) b t ∧ t (startF N vs ws) H Q) :
    LOk P w K mg base CX (k + 1) f F b ps fr sp := by
  refine ⟨len, ?_⟩
  rintro A outer s H us vs ws Q E room e0 ⟨lam, code⟩ cells rel pre
  have n := len _ _ _ _ _ pre
  obtain ⟨od, sl, pm, ctv, at_⟩ := lam_is e0.hok lam
  have noLimit := e0.mod.nolimit.keeps fun b o e => (e0.bs b o e).1
  apply PySem.W.kla_callFunE room.depth at_ rfl S.co S.gen rfl (codeO_at e0.hok code)
  rw [binds pm ctv us (rel.length ▸ n)]
  refine wpAny_pure (wpAny_newFunctionEnv S.nocell (fun y hy => S.par y.1 (List.of_mem_zip hy).1) (fun g frame but => ⟨noLimit.fresh _ but, ?_⟩) S.kind)
  obtain ⟨t, reads, goal⟩ := body A outer s H vs ws Q E (room.deeper _) lam code cells.len pre
  have start := inv_startN (CX := CX) (E := E) (f := f) (tk := s.toks + (ps.zip us).length) S room.hd e0 n rel cells frame fun b o e => but.extBut b o (Nat.ne_of_lt (Heap.lt_size e)) (Heap.get?_push_of_some _ e)
  exact PySem.W.kla_codeExpr (wpAny_mono (reads.run [] _ _ H Q start goal) (fun v s' out => out.elim fun w' z => z.elim fun H' ⟨J, rv, q⟩ => ⟨w', H', J.os, J.bare, J.base, J.hok, rv, q⟩) fun _ _ z => z)
/-- the captured cells, as they were when the running def began: it has no way to them but this lambda -/
theorem cells_later {X : Cx} {pins : List (Addr × Obj)} {σ : L2.St} {H : Hp} {s : Shared} {cl : List (Str × Addr)} {fr : List Str} {ws : List (Option V)} (C : CellsAt cl fr ws X.s_0.heap X.H_0) (none_ : X.ex = []) (I : Inv X pins σ H s) : CellsAt cl fr ws s.heap H := by
  have out : ∀ c : Addr, c ∉ X.ex := by simp [none_]
  have stays : ∀ {y c}, cl.lookup y = some c → ∀ {v}, X.s_0.heap.IsCell c v → s.heap.IsCell c v := by
    rintro y c e v ⟨o, at_, d⟩
    exact (I.base.any at_ (C.all y c e).1 (out c)).elim fun sl z => ⟨_, z, d⟩
  constructor
  · exact C.len
  · intro y c e
    have ⟨un, v, cell⟩ := C.all y c e
    exact ⟨cell.elim fun o z => I.base.free c o z.1 un (out c), v, stays e cell⟩
  · exact C.inj
  · intro i y e
    have ⟨c, at_, holds⟩ := C.has i y e
    exact ⟨c, at_, fun v ev => (holds v ev).imp fun u z => ⟨z.1, stays at_ z.2⟩⟩
/-- a call's end, read by its caller -/
theorem call_ends {X : Cx} {CX : CXT} {pins : List (Addr × Obj)} {σ : L2.St} {H : Hp} {s : Shared} {Q : VK} {E : XK} {v : Value} {us : List Value} (hx : Passes CX X E) (I : Inv X pins σ H s) (h : codeAny (model X.prog X.w) X.A (.call v ⟨us, []⟩) (CR CX X.stack X.prog X.w H s Q E) s) :
    wpAny (model X.prog X.w) X.A (call v us) (EP X pins σ Q) X.xe s := by
  refine wpAny_call (codeAny_mono h ?_)
  rintro (e | fl) s' z
  · exact hx pins σ H s e s' I z
  · match fl, z with
    | .ret u, z => exact I.after z
/-- g(..), g the name i of the running def that was handed the lambda F; ws: what its cells hold -/
def tCallF (f : Addr) (F : NF) (b : Expr) (i : Nat) (ws : List (Option V)) (sp : List (Option V) → Sp) (E : XK) (t : TA) : TE := fun σ H Q => σ[i]? = some (some (.ref f)) ∧ H f = some (LamO f F b) ∧
  t σ H fun vs H1 => (H1 f = some (LamO f F b) ∧ H1 F.c = some (CodeO F.c F.qual)) ∧ sp ws vs H1 Q E
theorem pe_callF {X : Cx} {CX : CXT} {f : Addr} {F : NF} {b : Expr} {ps fr : List Str} {ws : List (Option V)} {i j k : Nat} {x : Str} {sp : List (Option V) → Sp} {E : XK} {t : TA} {e : Expr} {es : List Expr} {p pos : Pos}
    (Fn : LOk X.prog X.w X.K X.mg X.base CX k f F b ps fr sp) (C : CellsAt F.cl fr ws X.s_0.heap X.H_0) (hex : X.ex = []) (hr : Room j X.A) (hk : k ≤ j) (hx : Passes CX X E) (hN : X.N[i]? = some x) (hv : Vis X.env.scope x) (ha : PA X (e :: es) t)
    (hd : (x == ("__debug__" : Str)) = false := by decide) (hcd : (x == ("__classdict__" : Str)) = false := by decide)
    (he : starEach (e :: es) X.env = (false, eval e X.env) :: starEach es X.env := by rfl) (hpl : (backTo pos (starEach es X.env)).any (·.1) = false := by rfl) :
    PE X (.Call (.Name x p) (e :: es) [] pos) (tCallF f F b i ws sp E t) := by
  constructor
  rintro pins s σ H Q I ⟨var, lam, args⟩
  have fn : ∀ {σ H s}, Inv X pins σ H s → H f = some (LamO f F b) → PySem.W.FnAt f s.heap := fun I e => (lam_is I.hok e).elim fun od z => z.elim fun sl z => z.elim fun _ z => z.elim fun _ z => ⟨_, od, _, sl, z⟩
  have name := (pe_var (pos := p) hN hv hd hcd).run pins s σ H (fun v H1 => v = .ref f ∧ H1 = H) I ⟨.ref f, var, rfl, rfl⟩
  refine wpAny_Call_Name_kw (thn name ?_)
  rintro u s1 ⟨_, _, I1, ru, rfl, rfl⟩
  cases ru
  refine PySem.W.callWith_F (first := []) (fn I1 lam) (thn (ha.run pos pins s1 σ _ _ I1 args) ?_) he hpl
  rintro us s2 ⟨vs, H2, I2, r, both, pre⟩
  exact ⟨fn I2 both.1, call_ends hx I2 (Fn.run X.A X.stack s2 H2 us vs ws Q E (hr.mono hk) I2.env0 both (cells_later C hex I2) r pre)⟩
/-! ### a def that is handed a lambda -/
/-- a def of the top, called while the cells cl stand -/
structure FnOkC (P : Program) (w : World) (K : PySem.W.Frag) (mg : Str → Option Value) (base : Heap) (CX : CXT) (k : Nat) (f : Addr) (fd : FuncData) (ps : List Str) (cl : List (Str × Addr)) (fr : List Str) (ws : List (Option V)) (sp : Sp) : Prop where
  len : ∀ vs H Q E, sp vs H Q E → vs.length = ps.length
  run : ∀ A outer s H args us vs Q E, Room k A → Env0 P w K mg base A outer s H → CellsAt cl fr ws s.heap H → BindsTo s fd args (ps.zip us) → Vals vs us → sp vs H Q E → codeAny (model P w) A (.call (.ref f) args) (CR CX outer P w H s Q E) s
theorem okC {P : Program} {w : World} {K : PySem.W.Frag} {mg : Str → Option Value} {base : Heap} {x qual : Str} {st : Stmt} {f : Addr} {fd : FuncData} {N ps : List Str} {k : Nat} {cl : List (Str × Addr)} {fr : List Str} {ws : List (Option V)} {sp : Sp}
    (F : Fun K x qual st f fd) (S : FnScope N ps (defScope st)) (len : ∀ vs H Q E, sp vs H Q E → vs.length = ps.length)
    (body : ∀ (cdv : Value) (A : Around) (outer : List Env) (s : Shared) (H : Hp) (vs : List V) (Q : VK) (E : XK), Room k (A.deeper (envOfC qual (defScope st) s.heap.objs.size f cdv)) → CellsAt cl fr ws s.heap H → sp vs H Q E →
      ∃ t, PSs (cxOf CX0 P w K mg base N qual (defScope st) f cdv A outer s H E).nox (defBody st) t ∧ t { nx := fun _ H' => Q .non H', rt := Q } (L2.start N vs) H) : FnOkC P w K mg base CX0 (k + 1) f fd ps cl fr ws sp := by
  have ⟨_, _, _, _, _, _, cdv, _, _, is, look, code⟩ := F.ex
  subst is
  refine ⟨len, fun A outer s H args us vs Q E room e0 cells bound rel pre => run_ofS look code S room e0 bound rel (len _ _ _ _ pre) fun deeper => ?_⟩
  exact (body cdv A outer s H vs Q E deeper cells pre).imp fun t z => ⟨z.1.nox, z.2⟩
def tCallC (js : List Nat) (sp : List (Option V) → Sp) (E : XK) (t : TA) : TE := fun σ H Q => t σ H fun vs H1 => sp (js.map (slotAt σ)) vs H1 Q E
theorem pe_callC {X : Cx} {CX : CXT} {g : Addr} {fd : FuncData} {cl : List (Str × Addr)} {ps fr : List Str} {js : List Nat} {k : Nat} {x : Str} {sp : List (Option V) → Sp} {E : XK} {t : TA} {e : Expr} {es : List Expr} {p pos : Pos}
    (G : ∀ ws, FnOkC X.prog X.w X.K X.mg X.base CX k g fd ps cl fr ws (sp ws)) (cp : X.Ok → Caps X cl fr js) (hr : Room k X.A) (hg : Gl X x) (hm : X.mg x = some (.ref g)) (hk : PySem.W.keepIn X.K (.ref g) = true) (hb : L2.Binds X.K fd ps []) (hx : Passes CX X E) (ha : PA X (e :: es) t)
    (hdb : (x == ("__debug__" : Str)) = false := by decide)
    (he : starEach (e :: es) X.env = (false, eval e X.env) :: starEach es X.env := by rfl) (hpl : (backTo pos (starEach es X.env)).any (·.1) = false := by rfl) :
    PE X (.Call (.Name x p) (e :: es) [] pos) (tCallC js sp E t) := by
  constructor
  intro pins s σ H Q I pre
  refine wpAny_Call_Name_kw (ld_glob I hg hm (PySem.W.callWith_K I.ok.mod.kin hk (thn (ha.run pos pins s σ H _ I pre) ?_) he hpl) hdb)
  rintro us s1 ⟨vs, H1, I1, r, goal⟩
  refine ⟨I1.kIn, call_ends hx I1 ((G _).run X.A X.stack s1 H1 _ us vs Q E hr I1.env0 (cells_of I1 (cp I1.ok)) ?_ r goal)⟩
  have n : us.length = ps.length := r.length ▸ (G _).len _ _ _ _ goal
  simpa using hb s1 us I1.kIn (by simpa using n)
end LamP
end

-- EnumT
section
set_option Elab.async false
set_option linter.all false
set_option maxRecDepth 100000
set_option maxHeartbeats 4000000
/-! EnumT: for i, x in enumerate(t), t a tuple (enumerate with one argument, over whatever begins). -/
namespace EnT
open PySem PySem.Spec PyProof.Rows
open Sem (wp)
/-- the two objects of enumerate(v) in a heap of n places: v's iterator o at n, the enumerate object at n + 1 -/
def two (h : Heap) (o : Obj) : Heap := (h.push o).push { cls := .type "enumerate", data := .fields #[.none, .bool false, .ref h.objs.size, rawInt 0, .none, .none] }
theorem new1 {v : Value} {o : Obj} {H : Heap → Prop} (B : Begins v o H) :
    Meets (Builtin.«enumerate.__new__» ⟨[.type "enumerate", v], []⟩) (fun _ R s => H s.heap ∧ R (.ok (.ret (.ref (s.heap.push o).objs.size))) { s with heap := two s.heap o }) := by
  refine .of_wp fun prog w A R s h => ?_
  rcases s with ⟨hp, g, d, tk, os⟩
  rcases h with ⟨ready, h⟩
  have start : ∀ {A' : Around} {E : Value → Shared → Prop} {Q : Value → Shared → Prop}, Q (.ref hp.objs.size) ⟨hp.push o, g, d, tk, os⟩ → wpAny (model prog w) A' (pyIter v) Q E ⟨hp, g, d, tk, os⟩ := fun q => B.iter _ _ _ _ _ _ ready q
  have sub := sub_enumerate
  wp_walk using start
  refine wpAny_stack_any fun _ => wpAny_pure ?_
  split
  · rename_i c _ _ _ _ _
    cases (c == Value.type "enumerate") <;> (wp_walk using start; exact ⟨_, rfl, h⟩)
  · wp_walk using start
    exact ⟨_, rfl, h⟩
/-- what is known of them -/
structure Two (h h' : Heap) (o : Obj) : Prop where
  en : IsEnum h' (h.objs.size + 1) h.objs.size 0 .none
  it : h'.get? h.objs.size = some o
  old : ∀ b ob, h.get? b = some ob → h'.get? b = some ob
theorem two_is {h : Heap} {o : Obj} (free : o.isFreed = false) : Two h (two h o) o := by
  have n : (h.push o).objs.size = h.objs.size + 1 := Heap.size_push ..
  have top := Heap.get?_push_size (h.push o) (o := { cls := .type "enumerate", data := .fields #[.none, .bool false, .ref h.objs.size, rawInt 0, .none, .none] }) rfl
  exact ⟨n ▸ top, Heap.get?_push_of_some _ (Heap.get?_push_size _ free), fun b ob q => Heap.get?_push_of_some _ (Heap.get?_push_of_some _ q)⟩
theorem begin1 {prog : Program} {w : World} {A : Around} {E : Value → Shared → Prop} {s : Shared} {v : Value} {o : Obj} {H : Heap → Prop} {Q : Value → Shared → Prop} (B : Begins v o H) (ready : H s.heap)
    (h : Two s.heap (two s.heap o) o → Q (.ref (s.heap.objs.size + 1)) { s with heap := two s.heap o }) : wpAny (model prog w) A (call (.type "enumerate") [v]) Q E s := by
  have T := two_is (h := s.heap) B.free
  have n : (s.heap.push o).objs.size = s.heap.objs.size + 1 := Heap.size_push ..
  refine callType_new F.called_enumerate (by decide) (F.typeCall_enumerate_1 _) (F.newCall_enumerate_1 _) (fun obj => F.args_object_init_2 obj _) F.entry_enumerate_new (new1 B) ⟨ready, ?_⟩
  show _ ∧ _
  rw [n]
  exact ⟨⟨_, T.en, rfl⟩, h T⟩
end EnT
namespace L2
open PySem PySem.Spec PyProof.Rows
/-- the tuple at a, each of its items in a new pair behind its place -/
def IteT (K : PySem.W.Frag) (a : Addr) : It where
  go i H := ∃ (xs : List V) (x : V), SqT K H a xs ∧ xs[i]? = some x
  yld i H v H' := ∃ q x, v = .ref q ∧ H q = none ∧ H' = upd H q (.tup [.int (i : Nat), x]) ∧ ∀ xs, SqT K H a xs → xs[i]? = some x
  stop i H := ∃ xs : List V, SqT K H a xs ∧ i = xs.length
/-- e enumerates by the iterator it of the tuple at a, of which i items are drawn -/
structure EnSt (a e it : Addr) (i : Nat) (h : Heap) : Prop where
  en : ∃ old, IsEnum h e it (i : Int) old
  it_ : h.IsTupleIter it a i
  ne : e ≠ it
  nai : a ≠ it
  nae : a ≠ e
theorem EnSt.lt_e {a e it : Addr} {i : Nat} {h : Heap} (S : EnSt a e it i h) : e < h.objs.size := S.en.elim fun _ q => Heap.lt_size q
theorem EnSt.lt_it {a e it : Addr} {i : Nat} {h : Heap} (S : EnSt a e it i h) : it < h.objs.size := S.it_.elim fun _ q => Heap.lt_size q.1
theorem EnSt.lt {a e it : Addr} {i : Nat} {h : Heap} (S : EnSt a e it i h) : ∀ b ∈ [e, it], b < h.objs.size := by
  simpa using And.intro S.lt_e S.lt_it
theorem two_mem {e it b : Addr} (h : b ∉ [e, it]) : b ≠ e ∧ b ≠ it := by simpa using h
section
variable {X : Cx} {pins : List (Addr × Obj)} {σ : L2.St} {H : Hp} {s : Shared}
/-- the new pair of an index and an item -/
theorem pair_ok {P : Program} {w : World} {q : Addr} {i : Nat} {t : Tok} {x : V} {u : Value} {g : Heap} (r : RelV x u) (at_ : g.get? q = some { cls := .type "tuple", data := .seq #[.int i t, u] }) : ObjOk P w (upd H q (.tup [.int (i : Nat), x])) g q (.tup [.int (i : Nat), x]) :=
  ⟨by show 2 ≤ sizeLine; decide, [.int i t, u], .cons ⟨t, rfl⟩ (.cons r .nil), _, at_, rfl, 0, rfl⟩
end
theorem turn_enumT {P : Program} {w : World} {K : PySem.W.Frag} {elts : List Expr} {kk : Nat} {tpos : Pos} (a e it : Addr) : Turn P w K (.Tuple elts kk tpos) (IteT K a) [e, it] e (EnSt a e it) where
  mem := List.mem_cons_self
  obj i h S b m := by
    rcases List.mem_cons.mp m with z | z
    · rw [z]
      exact S.en.elim fun _ q => ⟨_, q, fun _ y => nomatch y⟩
    · obtain ⟨o, q, _, d⟩ := S.it_
      exact ⟨o, List.mem_singleton.mp z ▸ q, fun _ y => by rw [d] at y; cases y⟩
  keep i h h' S k := ⟨S.en.imp fun _ q => k e (List.mem_cons_self ..) _ q, S.it_.at fun o q => k it (by simp) o q, S.ne, S.nai, S.nae⟩
  self A i s Q E S h := S.en.elim fun _ q => wpAny_pyIter_enum q h
  item := by
    intro X hP hw hK hc i pins s σ H E I own S go
    subst hP hw hK
    obtain ⟨old, en⟩ := S.en
    obtain ⟨xs, x, seq, hx⟩ := go
    obtain ⟨items, rel, tup, small⟩ := I.tuple seq
    obtain ⟨u, hu, ru⟩ := rel.get hx
    have lo := S.lt
    have draws := Draws.tuple (prog := X.prog) (w := X.w) (A := X.A.in1) (I.ok.hd hc) it a S.nai items.toArray
    refine wpAny_pyNext_enum_itemD draws en ⟨S.it_, tup⟩ (by simpa using (List.getElem?_eq_some_iff.mp hu).1) S.ne (by simp [S.ne, Ne.symm S.nae]) fun y g tk drawn out next at_ _ kept => ?_
    obtain rfl : u = y := Option.some.inj (hu.symm.trans (by simpa using drawn))
    refine ⟨_, rfl, wpAny_letOwnedTupleGo_enum (s := { s with heap := g, toks := tk + 1 }) out fun g2 en2 same => ?_⟩
    have here := (same.2 _ (Nat.ne_of_gt S.lt_e)).trans at_
    have all : ∀ b ob, b ∉ [e, it] → s.heap.get? b = some ob → g2.get? b = some ob := fun b ob nb q => (same.2 b (two_mem nb).1).trans (kept b ob (two_mem nb).1 (two_mem nb).2 q)
    refine ⟨.ref s.heap.objs.size, _, I.turnedNew (t' := tk + 1) all own (Nat.le_refl _) (pair_ok ru here), rfl, ⟨_, x, rfl, I.hok.fresh (Nat.le_refl _), rfl, fun ys q => I.tuple_inj q seq ▸ hx⟩, ⟨⟨u, ?_⟩, next.1.at fun o q => (same.2 it S.ne.symm).trans q, S.ne, S.nai, S.nae⟩, fun b m => ?_⟩
    · rw [show ((i + 1 : Nat) : Int) = (i : Int) + 1 by omega]
      exact en2
    · exact (upd_ne (Nat.ne_of_lt (lo b m))).trans (own b m).1
  done := by
    intro X hP hw hK hc i pins s σ H E I own S stop
    subst hP hw hK
    obtain ⟨old, en⟩ := S.en
    obtain ⟨xs, seq, rfl⟩ := stop
    obtain ⟨items, rel, tup, small⟩ := I.tuple seq
    have ⟨_, f1, _, f3, f4, f5⟩ := own it (by simp)
    have draws := Draws.tuple (prog := X.prog) (w := X.w) (A := X.A.in1) (I.ok.hd hc) it a S.nai items.toArray
    have len : xs.length = items.toArray.size := by rw [List.size_toArray]; exact rel.length
    refine wpAny_pyNext_enum_endD draws en ⟨len ▸ S.it_, tup⟩ fun g kept => ?_
    exact ⟨rfl, I.turned (t' := s.toks) (fun b o nb q => kept b o nb q) (own it (by simp)).1 f1 f3 f4 f5⟩
def iEnumT (K : PySem.W.Frag) (ta : TA) : TI := fun σ H R => ta σ H fun vs H1 => ∃ a xs, vs = [.ref a] ∧ SqT K H1 a xs ∧ R (IteT K a) H1
theorem pi_enumT {X : Cx} {e : Expr} {ta : TA} {p pos tpos : Pos} {elts : List Expr} {kk : Nat} (hg : Gl X "enumerate") (hm : X.mg "enumerate" = none) (ha : PA X [e] ta) (hs : starEach [e] X.env = [(false, eval e X.env)] := by rfl) :
    PI X (.Tuple elts kk tpos) (.Call (.Name "enumerate" p) [e] [] pos) (iEnumT X.K ta) := by
  refine ⟨fun pins s σ H R I h => ?_⟩
  refine Call_ (ld_blt I hg hm boot_enumerate (callWith_type1 (thn (ha.run pos pins s σ H _ I h) fun us s1 done => ?_) hs rfl))
  obtain ⟨vs, H1, I1, r1, q⟩ := done
  obtain ⟨a, xs, ev, seq, q⟩ := q
  subst ev
  match us, r1 with
  | [_], .cons rfl .nil =>
    obtain ⟨items, _, tup, _⟩ := I1.tuple seq
    have la : a < s1.heap.objs.size := tup.elim fun _ q => Heap.lt_size q.1
    refine EnT.begin1 (begins_tuple a items.toArray) tup fun T => wpAny_pyIter_enum T.en ?_
    refine ⟨_, [_, _], _, _, H1, rfl, I1.kept (t' := s1.toks) T.old, turn_enumT a _ _, ⟨⟨_, T.en⟩, ⟨_, T.it, rfl, rfl⟩, Nat.succ_ne_self _, Nat.ne_of_lt la, Nat.ne_of_lt (Nat.lt_succ_of_lt la)⟩, fun b m => ?_, q⟩
    have big : s1.heap.objs.size ≤ b := by
      rcases List.mem_cons.mp m with z | z
      · exact z ▸ Nat.le_succ _
      · exact Nat.le_of_eq (List.mem_singleton.mp z).symm
    exact I1.fpOk big (I1.hok.fresh big)
theorem walk_enumT {K : PySem.W.Frag} {a : Addr} {xs : List V} : Walk (IteT K a) xs.length (fun H => SqT K H a xs) (YPair (fun i => some (.int (i : Nat))) (fun i => xs[i]?)) where
  goes i _ lt q := ⟨xs, xs[i], q, List.getElem?_eq_getElem lt⟩
  stops _ q := ⟨xs, q, rfl⟩
  yields i H v H' _ q y := y.elim fun T z => z.elim fun x ⟨h1, h2, h3, h4⟩ => ⟨T, _, x, h1, h2, h3, rfl, h4 xs q⟩
end L2
end

-- Rel
section
set_option Elab.async false
set_option linter.all false
set_option maxRecDepth 100000
set_option maxHeartbeats 4000000
/-! Rel: what a def leaves of the heap; data of tuples; the drawn source. -/
namespace R
open PySem PySem.Spec PyProof.Rows L2 LamX NdefX
/-! ### data that stands in tuples -/
mutual
inductive Tp (H : Hp) : V → PyData → Prop
  | non : Tp H .non .none
  | bl (b : Bool) : Tp H (.bl b) (.bool b)
  | int (i : Int) : Tp H (.int i) (.int i)
  | str (x : Str) : Tp H (.str x) (.str x)
  | tup {a : Addr} {xs : List V} {ds : List PyData} : H a = some (.tup xs) → Tps H xs ds → Tp H (.ref a) (.tuple ds)
inductive Tps (H : Hp) : List V → List PyData → Prop
  | nil : Tps H [] []
  | cons {v : V} {vs : List V} {d : PyData} {ds : List PyData} : Tp H v d → Tps H vs ds → Tps H (v :: vs) (d :: ds)
end
def TK (H H' : Hp) : Prop := ∀ a xs, H a = some (.tup xs) → H' a = some (.tup xs)
theorem TK.refl (H : Hp) : TK H H := fun _ _ h => h
theorem TK.trans {H H1 H2 : Hp} (a : TK H H1) (b : TK H1 H2) : TK H H2 := fun c xs h => b c xs (a c xs h)
theorem TK.new {H : Hp} {p : Addr} {o : HO} (h : H p = none) : TK H (upd H p o) := fun a xs e => by
  rw [upd_ne (ne_of_none e h)]
  exact e
theorem TK.lst {H : Hp} {p : Addr} {xs : List V} {o : HO} (h : H p = some (.lst xs)) : TK H (upd H p o) := fun a ys e => by
  rw [upd_ne (ne_of e h (by intro z; cases z))]
  exact e
mutual
theorem Tp.mono {H H' : Hp} (k : TK H H') : ∀ {v : V} {d : PyData}, Tp H v d → Tp H' v d
  | _, _, .non => .non
  | _, _, .bl b => .bl b
  | _, _, .int i => .int i
  | _, _, .str x => .str x
  | _, _, .tup h t => .tup (k _ _ h) (Tps.mono k t)
theorem Tps.mono {H H' : Hp} (k : TK H H') : ∀ {vs : List V} {ds : List PyData}, Tps H vs ds → Tps H' vs ds
  | _, _, .nil => .nil
  | _, _, .cons h t => .cons (Tp.mono k h) (Tps.mono k t)
end
mutual
theorem Tp.dp {K : PySem.W.Frag} {H : Hp} : ∀ {v : V} {d : PyData}, Tp H v d → Dp K H v d
  | _, _, .non => .non
  | _, _, .bl b => .bl b
  | _, _, .int i => .int i
  | _, _, .str x => .str x
  | _, _, .tup h t => .tup (SqT.of h) (Tps.dp t)
theorem Tps.dp {K : PySem.W.Frag} {H : Hp} : ∀ {vs : List V} {ds : List PyData}, Tps H vs ds → DpAll K H vs ds
  | _, _, .nil => .nil
  | _, _, .cons h t => .cons (Tp.dp h) (Tps.dp t)
end
theorem Tps.length {H : Hp} : ∀ {vs : List V} {ds : List PyData}, Tps H vs ds → vs.length = ds.length
  | _, _, .nil => rfl
  | _, _, .cons _ t => by
    rw [List.length_cons, List.length_cons, Tps.length t]
theorem Tps.get {H : Hp} : ∀ {vs : List V} {ds : List PyData} {i : Nat} {v : V}, Tps H vs ds → vs[i]? = some v → ∃ d, ds[i]? = some d ∧ Tp H v d
  | _, _, _, _, .nil, e => by simp at e
  | _, _, 0, _, .cons h _, e => by simp at e; subst e; exact ⟨_, rfl, h⟩
  | _, _, i + 1, v, .cons _ t, e => by
    obtain ⟨d, h1, h2⟩ := Tps.get (i := i) (v := v) t (by simpa using e)
    exact ⟨d, by simpa using h1, h2⟩
theorem Tps.getD {H : Hp} : ∀ {vs : List V} {ds : List PyData} {i : Nat} {d : PyData}, Tps H vs ds → ds[i]? = some d → ∃ v, vs[i]? = some v ∧ Tp H v d
  | _, _, _, _, .nil, e => by simp at e
  | _, _, 0, _, .cons h _, e => by simp at e; subst e; exact ⟨_, rfl, h⟩
  | _, _, i + 1, v, .cons _ t, e => by
    obtain ⟨d, h1, h2⟩ := Tps.getD (i := i) (d := v) t (by simpa using e)
    exact ⟨d, by simpa using h1, h2⟩
theorem Tps.append {H : Hp} : ∀ {vs ws : List V} {ds es : List PyData}, Tps H vs ds → Tps H ws es → Tps H (vs ++ ws) (ds ++ es)
  | _, _, _, _, .nil, t => t
  | _, _, _, _, .cons h t, u => .cons h (Tps.append t u)
theorem Tps.erase {H : Hp} : ∀ {vs : List V} {ds : List PyData} (i : Nat), Tps H vs ds → Tps H (vs.eraseIdx i) (ds.eraseIdx i)
  | _, _, _, .nil => .nil
  | _, _, 0, .cons _ t => t
  | _, _, i + 1, .cons h t => .cons h (Tps.erase i t)
theorem Tps.ints {H : Hp} : ∀ (ns : List Int), Tps H (ns.map V.int) (ns.map PyData.int)
  | [] => .nil
  | n :: r => .cons (.int n) (Tps.ints r)
theorem Tps.ints_of {H : Hp} : ∀ {vs : List V} {ns : List Int}, Tps H vs (ns.map PyData.int) → vs = ns.map V.int
  | _, [], h => by cases h; rfl
  | _, n :: r, h => by
    cases h with
    | cons h1 h2 =>
      cases h1
      rw [Tps.ints_of h2] <;> rfl
/-! ### pairs of numbers -/
def prD (p : Int × Int) : PyData := .tuple [.int p.1, .int p.2]
def lkD (ps : List (Int × Int)) : List PyData := ps.map prD
theorem tp_pr {H : Hp} {v : V} {p : Int × Int} (h : Tp H v (prD p)) : ∃ a, v = .ref a ∧ H a = some (.tup [.int p.1, .int p.2]) := by
  cases h with
  | tup h t => exact ⟨_, rfl, by rw [Tps.ints_of (ns := [p.1, p.2]) t] at h; exact h⟩
theorem pr_tp {H : Hp} {a : Addr} {i j : Int} (h : H a = some (.tup [.int i, .int j])) : Tp H (.ref a) (prD (i, j)) := .tup h (.cons (.int i) (.cons (.int j) .nil))
/-! ### the drawn source: a list of two numbers -/
def BIG : Nat := 1048600
def Src (H : Hp) (a : Addr) : Prop := ∃ x y : Int, H a = some (.lst [.int x, .int y]) ∧ 0 ≤ x ∧ x.natAbs < 2 ^ BIG ∧ 0 ≤ y ∧ y < 2147483647
/-! ### what is left as it was -/
structure Ext (T : List NTab) (so : Option Addr) (H H' : Hp) : Prop where
  kp : ∀ b o, some b ≠ so → (∀ ps, o ≠ .tbl ps) → H b = some o → H' b = some o
  tb : TabsN T H → TabsN T H'
  sr : ∀ a, so = some a → Src H a → Src H' a
  fr : ∀ b, H' b = none → H b = none
section
variable {T : List NTab} {so : Option Addr} {H H1 H2 : Hp} {a : Addr}
theorem Ext.refl (T : List NTab) (so : Option Addr) (H : Hp) : Ext T so H H := ⟨fun _ _ _ _ h => h, fun h => h, fun _ _ h => h, fun _ h => h⟩
theorem Ext.trans (x : Ext T so H H1) (y : Ext T so H1 H2) : Ext T so H H2 := ⟨fun b o n t h => y.kp b o n t (x.kp b o n t h), fun h => y.tb (x.tb h), fun b e h => y.sr b e (x.sr b e h), fun b h => x.fr b (y.fr b h)⟩
theorem upd_none' {H : Hp} {a b : Addr} {o : HO} (e : upd H a o b = none) : H b = none := by
  unfold upd at e
  split at e
  · cases e
  · exact e
theorem tabs_new {H : Hp} {p : Addr} {o : HO} (n : H p = none) (h : TabsN T H) : TabsN T (upd H p o) := h.ext fun b u e => by
  rw [upd_ne (ne_of_none e n)]
  exact e
/-- a new object -/
theorem Ext.new {p : Addr} {o : HO} (n : H p = none) : Ext T so H (upd H p o) :=
  ⟨fun b u _ _ e => by rw [upd_ne (ne_of_none e n)]; exact e, tabs_new n, fun b e ⟨x, y, h, r⟩ => ⟨x, y, by rw [upd_ne (ne_of_none h n)]; exact h, r⟩, fun b e => upd_none' e⟩
/-- an object that the beginning does not know is changed -/
theorem Ext.mut {p : Addr} {o u : HO} (x : Ext T so H H1) (n : H p = none) (h1 : H1 p = some u) (nt : ∀ ps, u ≠ .tbl ps) (nc : ∀ c q, u ≠ CodeO c q) (ns : so ≠ some p) : Ext T so H (upd H1 p o) :=
  ⟨fun b w a b' e => by rw [upd_ne (ne_of_none e n)]; exact x.kp b w a b' e, fun h => by
    have q := x.tb h
    intro t ht
    obtain ⟨ps, a1, a2, a3⟩ := q t ht
    refine ⟨ps, by rw [upd_ne (ne_of a1 h1 (Ne.symm (nt ps)))]; exact a1, a2, fun pos cv hc => ?_⟩
    obtain ⟨c, e1, e2⟩ := a3 pos cv hc
    exact ⟨c, e1, by rw [upd_ne (ne_of e2 h1 (Ne.symm (nc c _)))]; exact e2⟩,
   fun b e q => by
    obtain ⟨x', y', h', r⟩ := x.sr b e q
    exact ⟨x', y', by rw [upd_ne (fun z => ns (by rw [e, z]))]; exact h', r⟩, fun b e => x.fr b (upd_none' e)⟩
theorem lst_nt {xs : List V} (ps : Array Value) : (HO.lst xs) ≠ .tbl ps := fun z => by cases z
theorem lst_nc {xs : List V} (c : Addr) (q : Str) : (HO.lst xs) ≠ CodeO c q := fun z => by
  unfold CodeO at z
  cases z
theorem tup_nt {xs : List V} (ps : Array Value) : (HO.tup xs) ≠ .tbl ps := fun z => by cases z
theorem ins_nt {C d : Addr} {fs : List (Str × V)} (ps : Array Value) : (HO.ins C d fs) ≠ .tbl ps := fun z => by cases z
theorem ins_nc {C d : Addr} {fs : List (Str × V)} (c : Addr) (q : Str) : (HO.ins C d fs) ≠ CodeO c q := fun z => by
  unfold CodeO at z
  cases z
theorem own_nt {x : Addr} (ps : Array Value) : (HO.own x) ≠ .tbl ps := fun z => by cases z
theorem frz_nt {o : Obj} {u : HO} (ps : Array Value) : (HO.frz o u) ≠ .tbl ps := fun z => by cases z
theorem Ext.mutL {p : Addr} {o : HO} {xs : List V} (x : Ext T so H H1) (n : H p = none) (h1 : H1 p = some (.lst xs)) (ns : so ≠ some p) : Ext T so H (upd H1 p o) := x.mut n h1 lst_nt lst_nc ns
/-- nothing but new objects: so the source is left too -/
theorem Ext.toS (x : Ext T none H H1) : Ext T so H H1 := ⟨fun b o _ t h => x.kp b o (fun z => nomatch z) t h, x.tb, fun b _ ⟨i, j, h, r⟩ => ⟨i, j, x.kp b _ (fun z => nomatch z) lst_nt h, r⟩, x.fr⟩
theorem Ext.tup {xs : List V} (x : Ext T none H H1) (h : H a = some (.tup xs)) : H1 a = some (.tup xs) := x.kp a _ (fun z => nomatch z) tup_nt h
theorem Ext.lst {xs : List V} (x : Ext T none H H1) (h : H a = some (.lst xs)) : H1 a = some (.lst xs) := x.kp a _ (fun z => nomatch z) lst_nt h
theorem Ext.ins {C d : Addr} {fs : List (Str × V)} (x : Ext T none H H1) (h : H a = some (.ins C d fs)) : H1 a = some (.ins C d fs) := x.kp a _ (fun z => nomatch z) ins_nt h
theorem Ext.tk (x : Ext T none H H1) : TK H H1 := fun _ _ h => x.tup h
/-- with the source: it is a list -/
theorem Ext.tkS {s : Addr} (x : Ext T (some s) H H1) (q : Src H s) : TK H H1 := fun a xs h => x.kp a _ (fun z => by
  obtain ⟨i, j, e, _⟩ := q
  rw [Option.some.inj z, e] at h
  cases h) tup_nt h
theorem Ext.insS {s C d : Addr} {fs : List (Str × V)} (x : Ext T (some s) H H1) (q : Src H s) (h : H a = some (.ins C d fs)) : H1 a = some (.ins C d fs) := x.kp a _ (fun z => by
  obtain ⟨i, j, e, _⟩ := q
  rw [Option.some.inj z, e] at h
  cases h) ins_nt h
theorem Ext.lstS {s : Addr} {xs : List V} (x : Ext T (some s) H H1) (n : a ≠ s) (h : H a = some (.lst xs)) : H1 a = some (.lst xs) := x.kp a _ (fun z => n (Option.some.inj z)) lst_nt h
theorem Ext.src {s : Addr} (x : Ext T (some s) H H1) (q : Src H s) : Src H1 s := x.sr s rfl q
theorem Ext.same (x : Same H H1) (fr : ∀ b, H1 b = none → H b = none) : Ext T so H H1 := ⟨fun b o _ _ h => x b o h, fun h => h.ext x, fun b _ ⟨i, j, h, r⟩ => ⟨i, j, x b _ h, r⟩, fr⟩
theorem new_ne {b : Addr} (n : H b = none) {o : HO} (h : H a = some o) : a ≠ b := ne_of_none h n
end
/-! ### three comparisons in a row -/
def tChain3 (r r' r'' : R2) (ta tb tc td : TE) : TE := fun σ H Q => ta σ H fun x H1 => tb σ H1 fun y H2 => r x y H2 fun z H3 => ∃ k, z = .bl k ∧
  (if k = true then tc σ H3 fun w H4 => r' y w H4 fun z' H5 => ∃ k', z' = .bl k' ∧ (if k' = true then td σ H5 fun u H6 => r'' w u H6 Q else Q (.bl false) H5) else Q (.bl false) H3)
theorem pe_chain3 {X : Cx} {a b c d : Expr} {ta tb tc td : TE} {pos : Pos} {op op' op'' : CmpOp} {r r' r'' : R2} (ho : OpR X (compareOp op) r) (ho' : OpR X (compareOp op') r') (ho'' : OpR X (compareOp op'') r'') (ha : PE X a ta) (hb : PE X b tb) (hc : PE X c tc) (hd : PE X d td)
    (hm : lastMarks [op, op', op''] [b, c, d] = false := by with_unfolding_all rfl) : PE X (.Compare a [op, op', op''] [b, c, d] pos) (tChain3 r r' r'' ta tb tc td) := by
  refine ⟨fun pins s σ H Q I h => ?_⟩
  refine Compare_chain (thn (ha.run pins s σ H _ I h) fun v s1 ⟨x, H1, I1, r1, q1⟩ => chain_link (thn (hb.run pins s1 σ H1 _ I1 q1) fun u s2 ⟨y, H2, I2, r2, q2⟩ =>
    thn (ho pins s2 σ H2 x y v u _ I2 r1 r2 q2) fun d s3 ⟨z, H3, I3, r3, k, e, q3⟩ => ?_)) hm
  subst e
  cases r3
  refine wpAny_truthy_bool ?_
  cases k with
  | false => exact ite_ff ⟨.bl false, H3, I3, rfl, q3⟩
  | true =>
    refine ite_tt (chain_link (thn (hc.run pins s3 σ H3 _ I3 q3) fun w' s4 ⟨z', H4, I4, r4, q4⟩ => thn (ho' pins s4 σ H4 y z' u w' _ I4 r2 r4 q4) fun d2 s5 ⟨z2, H5, I5, r5, k2, e2, q5⟩ => ?_))
    subst e2
    cases r5
    refine wpAny_truthy_bool ?_
    cases k2 with
    | false => exact ite_ff ⟨.bl false, H5, I5, rfl, q5⟩
    | true => exact ite_tt (chain_last (thn (hd.run pins s5 σ H5 _ I5 q5) fun w2 s6 ⟨z3, H6, I6, r6, q6⟩ => ho'' pins s6 σ H6 z' z3 w' w2 Q I6 r4 r6 q6))
/-! ### where a def of the text stands -/
structure DefAt (K : PySem.W.Frag) (mg : Str → Option Value) (x qual : Str) (st : Stmt) (ps : List Str) (f : Addr) (fd : FuncData) : Prop where
  fn : Fun K x qual st f fd
  bd : L2.Binds K fd ps []
theorem iteB {c : Bool} {A B : Prop} (h1 : c = true → A) (h2 : c = false → B) : if c = true then A else B := by
  cases c with
  | true => exact iteT (h1 rfl)
  | false => exact iteF (h2 rfl)
end R
end

-- Text
section
set_option Elab.async false
set_option linter.all false
set_option maxRecDepth 100000
set_option maxHeartbeats 4000000
/-! Text: the program's text by places, what its top leaves. -/
namespace R
open PySem PySem.Spec PyProof.Rows L2 LamX NdefX LamP
/-! ### the text by places -/
def top (i : Nat) : Stmt := PySem.Challenge.pw_pairfloors_k31_cores_by_striking_in_any.main.body.getD i (.Pass ⟨0, 0, 0, 0⟩)
abbrev s_Refused_init : Stmt := inClass (top 1) 0
abbrev s_is_number : Stmt := top 5
abbrev s_is_below : Stmt := top 6
abbrev s_core_of : Stmt := top 11
abbrev s_places_left : Stmt := top 12
abbrev s_Lpool : Stmt := top 14
abbrev s_Ltake : Stmt := top 15
abbrev s_Lone : Stmt := top 16
abbrev s_Lput : Stmt := top 17
abbrev s_Lreadings : Stmt := top 18
abbrev s_Lletters : Stmt := top 19
abbrev s_Lstruck_so : Stmt := top 20
abbrev s_Ltold : Stmt := top 21
abbrev s_law : Stmt := top 22
abbrev N_Refused_init : List Str := ["self", "what"]
theorem sc_Refused_init : FnScope N_Refused_init ["self", "what"] (defScope s_Refused_init) := ⟨rfl, rfl, rfl, by decide +kernel, rfl, by decide +kernel, by decide +kernel⟩
abbrev N_is_number : List Str := ["value"]
theorem sc_is_number : FnScope N_is_number ["value"] (defScope s_is_number) := ⟨rfl, rfl, rfl, by decide +kernel, rfl, by decide +kernel, by decide +kernel⟩
abbrev N_is_below : List Str := ["value", "limit"]
theorem sc_is_below : FnScope N_is_below ["value", "limit"] (defScope s_is_below) := ⟨rfl, rfl, rfl, by decide +kernel, rfl, by decide +kernel, by decide +kernel⟩
abbrev N_core_of : List Str := ["row", "i", "coat", "places", "letters", "readings", "at"]
theorem sc_core_of : FnScope N_core_of ["row"] (defScope s_core_of) := ⟨rfl, rfl, rfl, by decide +kernel, rfl, by decide +kernel, by decide +kernel⟩
abbrev N_places_left : List Str := ["row", "left", "i", "coat"]
theorem sc_places_left : FnScope N_places_left ["row"] (defScope s_places_left) := ⟨rfl, rfl, rfl, by decide +kernel, rfl, by decide +kernel, by decide +kernel⟩
abbrev N_Lpool : List Str := ["_law_script", "_law_k", "_law_cell", "_law_big", "_law_mixed"]
theorem sc_Lpool : FnScope N_Lpool ["_law_script", "_law_k"] (defScope s_Lpool) := ⟨rfl, rfl, rfl, by decide +kernel, rfl, by decide +kernel, by decide +kernel⟩
abbrev N_Ltake : List Str := ["_law_source", "_law_top", "_law_drawn"]
theorem sc_Ltake : FnScope N_Ltake ["_law_source", "_law_top"] (defScope s_Ltake) := ⟨rfl, rfl, rfl, by decide +kernel, rfl, by decide +kernel, by decide +kernel⟩
abbrev N_Lone : List Str := ["_law_source", "_law_things"]
theorem sc_Lone : FnScope N_Lone ["_law_source", "_law_things"] (defScope s_Lone) := ⟨rfl, rfl, rfl, by decide +kernel, rfl, by decide +kernel, by decide +kernel⟩
abbrev N_Lput : List Str := ["_law_row", "_law_at", "_law_thing"]
theorem sc_Lput : FnScope N_Lput ["_law_row", "_law_at", "_law_thing"] (defScope s_Lput) := ⟨rfl, rfl, rfl, by decide +kernel, rfl, by decide +kernel, by decide +kernel⟩
abbrev N_Lreadings : List Str := ["_law_left", "_law_odd", "_law_found", "_law_k", "_law_i"]
theorem sc_Lreadings : FnScope N_Lreadings ["_law_left", "_law_odd"] (defScope s_Lreadings) := ⟨rfl, rfl, rfl, by decide +kernel, rfl, by decide +kernel, by decide +kernel⟩
abbrev N_Lletters : List Str := ["_law_source", "_law_n", "_law_coats", "_law_row", "_law_turn", "_law_at", "_law_letter", "_law_x"]
theorem sc_Lletters : FnScope N_Lletters ["_law_source", "_law_n", "_law_coats"] (defScope s_Lletters) := ⟨rfl, rfl, rfl, by decide +kernel, rfl, by decide +kernel, by decide +kernel⟩
abbrev N_Lstruck_so : List Str := ["_law_source", "_law_row", "_law_left", "_law_turn", "_law_like", "_law_at", "_law_other", "_law_i", "_law_k"]
theorem sc_Lstruck_so : FnScope N_Lstruck_so ["_law_source", "_law_row"] (defScope s_Lstruck_so) := ⟨rfl, rfl, rfl, by decide +kernel, rfl, by decide +kernel, by decide +kernel⟩
abbrev N_Ltold : List Str := ["_law_row", "_law_found", "e"]
theorem sc_Ltold : FnScope N_Ltold ["_law_row"] (defScope s_Ltold) := ⟨rfl, rfl, rfl, by decide +kernel, rfl, by decide +kernel, by decide +kernel⟩
abbrev N_law : List Str := ["_law_script", "_law_turn", "_law_source", "_law_n", "_law_coats", "_law_row", "_law_x", "_law_found", "_law_due", "_law_y", "_law_bad", "_law_short"]
theorem sc_law : FnScope N_law ["_law_script"] (defScope s_law) := ⟨rfl, rfl, rfl, by decide +kernel, rfl, by decide +kernel, by decide +kernel⟩
/-! ### what the top leaves -/
structure FunC (K : PySem.W.Frag) (x qual : Str) (st : Stmt) (f : Addr) (fd : FuncData) (c : Addr) : Prop where
  ex : ∃ (oc : Value) (od : Option Addr) (kV doc pm : Value) (an : Option Addr) (ct : Value) (osl : Array (Option Value)), fd = PySem.W.fnOf x qual (defArgs st) (defBody st) (defScope st) .none kV doc pm an (.ref c) ct ∧ K.lookup f = some ⟨oc, od, .func fd, osl⟩ ∧ PySem.W.codeIn K (.ref c) qual = true
structure ErrC (K : PySem.W.Frag) (mg : Str → Option Value) (x : Str) (fI C : Addr) : Prop where
  gC : mg x = some (.ref C)
  ox : OexC K C
  xf : XfC K C
  iC : PySem.W.findIn K (.ref C) "__init__" = some (some (.ref fI))
  nw : PySem.W.findIn K (.ref C) "what" = some none
structure Txt (K : PySem.W.Frag) (mg : Str → Option Value) : Type where
  a_Refused_init : Addr
  d_Refused_init : FuncData
  F_Refused_init : Fun K "__init__" "Refused.__init__" s_Refused_init a_Refused_init d_Refused_init
  b_Refused_init : L2.Binds K d_Refused_init ["self", "what"] []
  a_is_number : Addr
  d_is_number : FuncData
  F_is_number : Fun K "is_number" "is_number" s_is_number a_is_number d_is_number
  b_is_number : L2.Binds K d_is_number ["value"] []
  g_is_number : mg "is_number" = some (.ref a_is_number)
  a_is_below : Addr
  d_is_below : FuncData
  F_is_below : Fun K "is_below" "is_below" s_is_below a_is_below d_is_below
  b_is_below : L2.Binds K d_is_below ["value", "limit"] []
  g_is_below : mg "is_below" = some (.ref a_is_below)
  a_core_of : Addr
  d_core_of : FuncData
  F_core_of : Fun K "core_of" "core_of" s_core_of a_core_of d_core_of
  b_core_of : L2.Binds K d_core_of ["row"] []
  g_core_of : mg "core_of" = some (.ref a_core_of)
  a_places_left : Addr
  d_places_left : FuncData
  F_places_left : Fun K "places_left" "places_left" s_places_left a_places_left d_places_left
  b_places_left : L2.Binds K d_places_left ["row"] []
  g_places_left : mg "places_left" = some (.ref a_places_left)
  a_Lpool : Addr
  d_Lpool : FuncData
  F_Lpool : Fun K "_law_pool" "_law_pool" s_Lpool a_Lpool d_Lpool
  b_Lpool : L2.Binds K d_Lpool ["_law_script", "_law_k"] []
  g_Lpool : mg "_law_pool" = some (.ref a_Lpool)
  a_Ltake : Addr
  d_Ltake : FuncData
  F_Ltake : Fun K "_law_take" "_law_take" s_Ltake a_Ltake d_Ltake
  b_Ltake : L2.Binds K d_Ltake ["_law_source", "_law_top"] []
  g_Ltake : mg "_law_take" = some (.ref a_Ltake)
  a_Lone : Addr
  d_Lone : FuncData
  F_Lone : Fun K "_law_one" "_law_one" s_Lone a_Lone d_Lone
  b_Lone : L2.Binds K d_Lone ["_law_source", "_law_things"] []
  g_Lone : mg "_law_one" = some (.ref a_Lone)
  a_Lput : Addr
  d_Lput : FuncData
  F_Lput : Fun K "_law_put" "_law_put" s_Lput a_Lput d_Lput
  b_Lput : L2.Binds K d_Lput ["_law_row", "_law_at", "_law_thing"] []
  g_Lput : mg "_law_put" = some (.ref a_Lput)
  a_Lreadings : Addr
  d_Lreadings : FuncData
  F_Lreadings : Fun K "_law_readings" "_law_readings" s_Lreadings a_Lreadings d_Lreadings
  b_Lreadings : L2.Binds K d_Lreadings ["_law_left", "_law_odd"] []
  g_Lreadings : mg "_law_readings" = some (.ref a_Lreadings)
  a_Lletters : Addr
  d_Lletters : FuncData
  F_Lletters : Fun K "_law_letters" "_law_letters" s_Lletters a_Lletters d_Lletters
  b_Lletters : L2.Binds K d_Lletters ["_law_source", "_law_n", "_law_coats"] []
  g_Lletters : mg "_law_letters" = some (.ref a_Lletters)
  a_Lstruck_so : Addr
  d_Lstruck_so : FuncData
  F_Lstruck_so : Fun K "_law_struck_so" "_law_struck_so" s_Lstruck_so a_Lstruck_so d_Lstruck_so
  b_Lstruck_so : L2.Binds K d_Lstruck_so ["_law_source", "_law_row"] []
  g_Lstruck_so : mg "_law_struck_so" = some (.ref a_Lstruck_so)
  a_Ltold : Addr
  d_Ltold : FuncData
  F_Ltold : Fun K "_law_told" "_law_told" s_Ltold a_Ltold d_Ltold
  b_Ltold : L2.Binds K d_Ltold ["_law_row"] []
  g_Ltold : mg "_law_told" = some (.ref a_Ltold)
  a_law : Addr
  d_law : FuncData
  F_law : Fun K "law" "law" s_law a_law d_law
  b_law : L2.Binds K d_law ["_law_script"] []
  g_law : mg "law" = some (.ref a_law)
  C_Refused : Addr
  e_Refused : ErrC K mg "Refused" a_Refused_init C_Refused
  C_BadSize : Addr
  e_BadSize : ErrC K mg "BadSize" a_Refused_init C_BadSize
  C_BadCoat : Addr
  e_BadCoat : ErrC K mg "BadCoat" a_Refused_init C_BadCoat
  tI : PySem.W.typeIn K (.ref a_Refused_init) = some (.type "function")
  x_Refused_Refused : PySem.W.exmOne K (.ref C_Refused) (.ref C_Refused) = some true
  x_Refused_BadSize : PySem.W.exmOne K (.ref C_Refused) (.ref C_BadSize) = some false
  x_Refused_BadCoat : PySem.W.exmOne K (.ref C_Refused) (.ref C_BadCoat) = some false
  x_BadSize_Refused : PySem.W.exmOne K (.ref C_BadSize) (.ref C_Refused) = some true
  x_BadSize_BadSize : PySem.W.exmOne K (.ref C_BadSize) (.ref C_BadSize) = some true
  x_BadSize_BadCoat : PySem.W.exmOne K (.ref C_BadSize) (.ref C_BadCoat) = some false
  x_BadCoat_Refused : PySem.W.exmOne K (.ref C_BadCoat) (.ref C_Refused) = some true
  x_BadCoat_BadSize : PySem.W.exmOne K (.ref C_BadCoat) (.ref C_BadSize) = some false
  x_BadCoat_BadCoat : PySem.W.exmOne K (.ref C_BadCoat) (.ref C_BadCoat) = some true
  t_MOST_COATS : Tok
  c_MOST_COATS : mg "MOST_COATS" = some (.int 6 t_MOST_COATS)
  t_SHORTEST_ROW : Tok
  c_SHORTEST_ROW : mg "SHORTEST_ROW" = some (.int 3 t_SHORTEST_ROW)
  t_LONGEST_ROW : Tok
  c_LONGEST_ROW : mg "LONGEST_ROW" = some (.int 40 t_LONGEST_ROW)
  n_bool : mg "bool" = none
  n_enumerate : mg "enumerate" = none
  n_int : mg "int" = none
  n_isinstance : mg "isinstance" = none
  n_len : mg "len" = none
  n_max : mg "max" = none
  n_min : mg "min" = none
  n_range : mg "range" = none
  n_tuple : mg "tuple" = none
end R
end

-- Draw
section
set_option Elab.async false
set_option linter.all false
set_option maxRecDepth 100000
set_option maxHeartbeats 4000000
set_option exponentiation.threshold 100
/-! Draw: the laws' own draws over any text that has them. -/
namespace R
open PySem PySem.Spec PyProof.Rows L2 LamX NdefX LamP
def Ret (T : List NTab) (H : Hp) (Q : VK) (P : V → Hp → Prop) : Prop := ∀ v H', Ext T none H H' → P v H' → Q v H'
def RetV (T : List NTab) (H : Hp) (Q : VK) (v : V) : Prop := ∀ H', Ext T none H H' → Q v H'
theorem seq_cut {t R : TS} {D : Ends} {σ : L2.St} {H : Hp} (J : L2.St → Hp → Prop) (h1 : ∀ R' : L2.St → Hp → Prop, (∀ σ' H', J σ' H' → R' σ' H') → t { D with nx := R' } σ H) (h2 : ∀ σ' H', J σ' H' → R D σ' H') : tSeq t R D σ H := h1 (R D) h2
theorem iteF' {c : Bool} {A B : Prop} (h : c = false) (k : B) : if c = true then A else B := by rw [h]; exact iteF k
theorem iteT' {c : Bool} {A B : Prop} (h : c = true) (k : A) : if c = true then A else B := by rw [h]; exact iteT k
theorem bits_lt {z : Int} (h : Builtin.Int.intBits z ≤ 1048576) : z.natAbs < 2 ^ 1048576 := by
  unfold Builtin.Int.intBits at h
  by_cases e : z = 0
  · subst e
    exact Nat.two_pow_pos _
  · rw [if_neg (by simpa using e)] at h
    exact Nat.lt_of_lt_of_le Nat.lt_log2_self (Nat.pow_le_pow_right (by decide) h)
theorem big_lt {c : Int} {v : Nat} (h : c.natAbs < 2 ^ 1048576) (hv : v ≤ c.natAbs) : v < 2 ^ BIG :=
  Nat.lt_of_le_of_lt hv (Nat.lt_of_lt_of_le h (Nat.pow_le_pow_right (by decide) (by unfold BIG; decide)))
section
variable {P : Program} {w : World} {K : PySem.W.Frag} {mg : Str → Option Value} {base : Heap}
theorem room65 {k : Nat} {A : Around} (r : Room k A) : A.units + 65 < cLine := by have := r.un; omega
/-- what a def that draws gives back: the source has moved on, nothing else has changed -/
def RetS (TT : List NTab) (so : Addr) (H : Hp) (Q : VK) (good : V → Hp → Prop) : Prop := ∀ v H', Ext TT (some so) H H' → Src H' so → good v H' → Q v H'
theorem Ext.srcSet {TT : List NTab} {so : Addr} {H H1 : Hp} {x y : Int} (x1 : Ext TT (some so) H H1) (s1 : Src H1 so) (hx : 0 ≤ x ∧ x.natAbs < 2 ^ BIG) (hy : 0 ≤ y ∧ y < 2147483647) :
    Ext TT (some so) H (upd H1 so (.lst [.int x, .int y])) ∧ Src (upd H1 so (.lst [.int x, .int y])) so := by
  obtain ⟨a, b, h, _⟩ := s1
  have me : Src (upd H1 so (.lst [.int x, .int y])) so := ⟨x, y, upd_same, hx.1, hx.2, hy.1, hy.2⟩
  refine ⟨⟨fun c o ne nt e => ?_, fun t => ?_, fun c e _ => ?_, fun c e => x1.fr c (upd_none' e)⟩, me⟩
  · rw [upd_ne (fun z => ne (by rw [z]))]
    exact x1.kp c o ne nt e
  · have q := x1.tb t
    intro p hp
    obtain ⟨ps, a1, a2, a3⟩ := q p hp
    refine ⟨ps, (upd_ne (ne_of a1 h (Ne.symm (lst_nt ps)))).trans a1, a2, fun pos cv hc => ?_⟩
    obtain ⟨d, e1, e2⟩ := a3 pos cv hc
    exact ⟨d, e1, (upd_ne (ne_of e2 h (Ne.symm (lst_nc d _)))).trans e2⟩
  · cases e
    exact me
/-- a source that the beginning does not know is forgotten -/
theorem Ext.dropS {TT : List NTab} {so : Addr} {H H1 H2 : Hp} (x : Ext TT none H H1) (n : H so = none) (y : Ext TT (some so) H1 H2) : Ext TT none H H2 :=
  ⟨fun b o _ nt e => y.kp b o (fun z => by cases z; rw [n] at e; cases e) nt (x.kp b o (fun z => nomatch z) nt e), fun t => y.tb (x.tb t), fun _ e => (nomatch e), fun b e => x.fr b (y.fr b e)⟩
theorem SqL.ext {TT : List NTab} {H H1 : Hp} {a : Addr} {xs : List V} (h : SqL K H a xs) (x : Ext TT none H H1) : SqL K H1 a xs := by
  rcases h with (h | ⟨o, h⟩) | h
  · exact .inl (.inl (x.lst h))
  · exact .inl (.inr ⟨o, x.kp a _ (fun z => nomatch z) frz_nt h⟩)
  · exact .inr h
/-- a new object: what is kept, and where it stands -/
theorem newX {TT : List NTab} {H H1 : Hp} {p : Addr} {o : HO} {so : Option Addr} (x : Ext TT so H H1) (n : H1 p = none) : Ext TT so H (upd H1 p o) ∧ upd H1 p o p = some o := ⟨x.trans (Ext.new n), upd_same⟩
def spTake (TT : List NTab) : Sp := fun vs H Q _ => ∃ (so : Addr) (n : Int), vs = [.ref so, .int n] ∧ Src H so ∧ 0 < n ∧ n < 2 ^ 62 ∧ RetS TT so H Q fun v _ => ∃ m : Int, v = .int m ∧ 0 ≤ m ∧ m < n
theorem ok_take (T : Txt K mg) (TT : List NTab) : FnOk P w K mg base CX0 1 T.a_Ltake T.d_Ltake ["_law_source", "_law_top"] (spTake TT) := by
  refine T.F_Ltake.ok sc_Ltake (fun vs H Q E h => ?_) (fun cdv A outer s H vs Q E hr h => ?_)
  · obtain ⟨so, n, rfl, _⟩ := h
    rfl
  · obtain ⟨so, n, rfl, hs, hn, hn2, k⟩ := h
    have nd := sc_Ltake.nd
    refine ⟨_, pss_cons (ps_if (pt_cmpR op_gt (pe_ix ix_list (pv 0) pe_int (fun _ _ => rfl)) pe_int (nomark _))
        (pss_cons (ps_set (i := 2) nd rfl (Or.inl rfl) (pe_op op_mod (pe_callTy call_int1 (by rfl) T.n_int (by decide +kernel) (pa_cons (pe_ix ix_list (pv 0) pe_int (fun _ _ => rfl)) pa_nil)) (pv 1)))
        (pss_cons (ps_asg (pe_op op_fdivW (pe_ix ix_list (pv 0) pe_int (fun _ _ => rfl)) (pv 1)) (pg_sub (pv 0) pe_int set_list))
        (pss_one (ps_ret (pv 2))))) pss_nil)
      (pss_cons (ps_asg (pe_op op_mod (pe_callTy call_int1 (by rfl) T.n_int (by decide +kernel) (pa_cons (pe_op op_add (pe_op op_mul (pe_ix ix_list (pv 0) pe_int (fun _ _ => rfl)) pe_int) pe_int) pa_nil)) pe_int) (pg_sub (pv 0) pe_int set_list))
      (pss_one (ps_ret (pe_op op_mod (pe_callTy call_int1 (by rfl) T.n_int (by decide +kernel) (pa_cons (pe_op op_fdiv (pe_op op_mod (pe_callTy call_int1 (by rfl) T.n_int (by decide +kernel) (pa_cons (pe_op op_mulW (pe_ix ix_list (pv 0) pe_int (fun _ _ => rfl)) (pe_ix ix_list (pv 0) pe_int (fun _ _ => rfl))) pa_nil)) pe_int) pe_int) pa_nil)) (pv 1))))), ?_⟩
    have hs0 := hs
    obtain ⟨x, y, h, hx0, hxB, hy0, hyB⟩ := hs
    have n30 : n.natAbs < 2 ^ 62 := by omega
    refine ⟨_, rfl, so, _, 0, _, rfl, rfl, SqL.of h, rfl, _, _, rfl, rfl, _, rfl, ?_⟩
    refine iteB (fun h0 => ?_) (fun h0 => ?_)
    · have hx : 0 < x := of_decide_eq_true h0
      refine ⟨_, rfl, so, _, 0, _, rfl, rfl, SqL.of h, rfl, .inl ⟨_, rfl, _, rfl, _, _, rfl, rfl, hn, ?_⟩⟩
      refine ⟨_, rfl, so, _, 0, _, rfl, rfl, SqL.of h, rfl, _, rfl, _, _, rfl, rfl, wide_div hn n30 (by omega) (by omega), ?_⟩
      refine ⟨_, rfl, so, _, 0, 0, rfl, rfl, h, rfl, ?_⟩
      have d0 : 0 ≤ x / n := Int.ediv_nonneg hx0 (by omega)
      have d1 : x / n ≤ x := Int.ediv_le_self n hx0
      obtain ⟨e1, e2⟩ := (Ext.refl TT (some so) H).srcSet (x := x / n) (y := y) hs0 ⟨d0, wide_le d0 d1 hxB⟩ ⟨hy0, hyB⟩
      exact ⟨_, rfl, k _ _ e1 e2 ⟨_, rfl, Int.emod_nonneg _ (by omega), Int.emod_lt_of_pos _ hn⟩⟩
    · refine ⟨_, rfl, so, _, 1, _, rfl, rfl, SqL.of h, rfl, _, _, rfl, rfl, .inr (by omega), _, _, rfl, rfl, .inl ⟨_, rfl, _, _, rfl, rfl, by omega, ?_⟩⟩
      refine ⟨_, rfl, so, _, 1, 1, rfl, rfl, h, rfl, ?_⟩
      have m0 : 0 ≤ (y * 39373 + 7) % 2147483647 := Int.emod_nonneg _ (by omega)
      have m1 : (y * 39373 + 7) % 2147483647 < 2147483647 := Int.emod_lt_of_pos _ (by omega)
      obtain ⟨e1, e2⟩ := (Ext.refl TT (some so) H).srcSet (x := x) (y := (y * 39373 + 7) % 2147483647) hs0 ⟨hx0, hxB⟩ ⟨m0, m1⟩
      dsimp only [List.set]
      generalize (y * 39373 + 7) % 2147483647 = z at m0 m1 e1 e2 ⊢
      have zb : z.natAbs < 2 ^ 31 := by omega
      refine ⟨_, rfl, so, _, 1, _, rfl, rfl, SqL.of upd_same, rfl, _, rfl, so, _, 1, _, rfl, rfl, SqL.of upd_same, rfl, _, _, rfl, rfl, wide_mul (a := 31) (b := 31) zb zb (by decide) (by decide) (by decide), .inl ⟨_, rfl, _, _, rfl, rfl, by omega, ?_⟩⟩
      have q0 : 0 ≤ z * z % 2147483629 := Int.emod_nonneg _ (by omega)
      have q1 : z * z % 2147483629 < 2147483629 := Int.emod_lt_of_pos _ (by omega)
      refine ⟨_, _, rfl, rfl, ⟨by decide, by decide⟩, .inl ⟨_, rfl, _, rfl, _, _, rfl, rfl, hn, ?_⟩⟩
      exact k _ _ e1 e2 ⟨_, rfl, Int.emod_nonneg _ (by omega), Int.emod_lt_of_pos _ hn⟩
def spOne (TT : List NTab) : Sp := fun vs H Q _ => ∃ (so l : Addr) (xs : List V), vs = [.ref so, .ref l] ∧ Src H so ∧ H l = some (.lst xs) ∧ l ≠ so ∧ 0 < xs.length ∧ xs.length < 1000 ∧ RetS TT so H Q fun v _ => v ∈ xs
theorem atI_in {α : Type} {xs : List α} {m : Int} (h0 : 0 ≤ m) (h : m < xs.length) : ∃ v, atI xs m = some v ∧ v ∈ xs := by
  obtain ⟨k, rfl⟩ : ∃ k : Nat, m = (k : Int) := ⟨m.toNat, by omega⟩
  have hk : k < xs.length := by omega
  exact ⟨xs[k], atI_nat (List.getElem?_eq_getElem hk), List.getElem_mem hk⟩
theorem ok_one (T : Txt K mg) (TT : List NTab) : FnOk P w K mg base CX0 2 T.a_Lone T.d_Lone ["_law_source", "_law_things"] (spOne TT) := by
  refine T.F_Lone.ok sc_Lone (fun vs H Q E h => ?_) (fun cdv A outer s H vs Q E hr h => ?_)
  · obtain ⟨so, l, xs, rfl, _⟩ := h
    rfl
  · obtain ⟨so, l, xs, rfl, hs, hl, ne, h0, h1, k⟩ := h
    refine ⟨_, pss_one (ps_ret (pe_ix ix_list (pv 1) (pe_call (ok_take T TT) (hr.mono (by decide)) rfl T.g_Ltake T.F_Ltake.kp T.b_Ltake .nil pass0 (pa_cons (pv 0) (pa_cons (pe_callB call_len_seq (by rfl) T.n_len PySem.boot_len (pa_cons (pv 1) pa_nil)) pa_nil))) (fun _ _ => rfl))), ?_⟩
    refine ⟨_, rfl, _, rfl, _, rfl, l, _, rfl, .inl (SqL.of hl), so, _, rfl, hs, by omega, by omega, fun v H1 x1 s1 hv => ?_⟩
    obtain ⟨m, rfl, m0, m1⟩ := hv
    obtain ⟨v, hv, hm⟩ := atI_in m0 m1
    exact ⟨l, _, m, v, rfl, rfl, SqL.of (x1.lstS ne hl), hv, k _ _ x1 s1 hm⟩
theorem src_ne {H : Hp} {so l : Addr} (q : Src H so) (n : H l = none) : l ≠ so := fun z => by
  obtain ⟨_, _, e, _⟩ := q
  rw [← z, n] at e
  cases e
def spPool (K : PySem.W.Frag) (TT : List NTab) : Sp := fun vs H Q _ => ∃ (l : Addr) (ns : List Int) (k : Int), vs = [.ref l, .int k] ∧ 0 ≤ k ∧ k < 1000 ∧ SqL K H l (ns.map V.int) ∧ (∀ z ∈ ns, Builtin.Int.intBits z ≤ 1048576) ∧ Ret TT H Q fun v H' => ∃ so, v = .ref so ∧ Src H' so ∧ H so = none
theorem ok_pool (T : Txt K mg) (TT : List NTab) : FnOk P w K mg base CX0 1 T.a_Lpool T.d_Lpool ["_law_script", "_law_k"] (spPool K TT) := by
  refine T.F_Lpool.ok sc_Lpool (fun vs H Q E h => ?_) (fun cdv A outer s H vs Q E hr h => ?_)
  · obtain ⟨l, ns, k, rfl, _⟩ := h
    rfl
  · obtain ⟨l, ns, k, rfl, k0, k1, hl, hb, q⟩ := h
    have nd := sc_Lpool.nd
    refine ⟨_, pss_cons (ps_set (i := 2) nd rfl (Or.inl rfl) pe_int)
      (pss_cons (ps_if (pt_cmpR op_lt (pv 1) (pe_callB call_len_seq (by rfl) T.n_len PySem.boot_len (pa_cons (pv 0) pa_nil)) (nomark _)) (pss_one (ps_set (i := 2) nd rfl (Or.inl rfl) (pe_ix ix_list (pv 0) (pv 1) (fun _ _ => rfl))))
        (pss_one (ps_if (pt_truth (pv 0) (by intro _; rfl)) (pss_one (ps_set (i := 2) nd rfl (Or.inl rfl) (pe_ix ix_list (pv 0) pe_int (fun _ _ => rfl)))) pss_nil)))
      (pss_cons (ps_set (i := 3) nd rfl (Or.inl rfl) (pe_callB (call_max2 rfl) (by rfl) T.n_max (by decide +kernel) (pa_cons (pe_callTy call_int1 (by rfl) T.n_int (by decide +kernel) (pa_cons (pv 2) pa_nil)) (pa_cons (pe_callTy call_int1 (by rfl) T.n_int (by decide +kernel) (pa_cons (pe_op op_sub (pe_un un_neg pe_int) (pv 2)) pa_nil)) pa_nil))))
      (pss_cons (ps_set (i := 4) nd rfl (Or.inl rfl) (pe_op op_mod (pe_callTy call_int1 (by rfl) T.n_int (by decide +kernel) (pa_cons (pe_op op_mul (pe_op op_add (pe_op op_add (pe_op op_add (pe_op op_mod (pe_callTy call_int1 (by rfl) T.n_int (by decide +kernel) (pa_cons (pv 3) pa_nil)) pe_int)
          (pe_op op_mul (pe_op op_mul pe_int (pv 1)) (pv 1))) (pe_op op_mul pe_int (pv 1))) pe_int) pe_int) pa_nil)) pe_int))
      (pss_one (ps_ret (pe_lst (pa_cons (pe_op op_mul (pv 3) (pe_callTy call_int1 (by rfl) T.n_int (by decide +kernel) (pa_cons (pe_cmpR op_ge (pv 3) (pe_op op_pow pe_int pe_int) (nomark _)) pa_nil))) (pa_cons (pv 4) pa_nil)))))))), ?_⟩
    dsimp only
    refine seq_cut (fun σ H' => H = H' ∧ σ = [some (.ref l), some (.int k), some (.int 0), none, none]) (fun R join => join _ _ ⟨rfl, rfl⟩) ?_
    rintro σ _ ⟨rfl, rfl⟩
    refine seq_cut (fun σ H' => H = H' ∧ ∃ c : Int, c.natAbs < 2 ^ 1048576 ∧ σ = [some (.ref l), some (.int k), some (.int c), none, none]) (fun R join => ?_) ?_
    · refine ⟨_, rfl, _, rfl, l, _, rfl, .inl hl, _, _, rfl, rfl, _, rfl, ?_⟩
      refine iteB (fun h => ?_) (fun h => ?_)
      · have h0 : k < ((ns.map V.int).length : Nat) := of_decide_eq_true h
        rw [List.length_map] at h0
        obtain ⟨j, rfl⟩ : ∃ j : Nat, k = (j : Int) := ⟨k.toNat, by omega⟩
        have hj : j < ns.length := by omega
        refine ⟨_, rfl, _, rfl, l, _, _, .int ns[j], rfl, rfl, hl, atI_nat (by rw [List.getElem?_map, List.getElem?_eq_getElem hj]; rfl), ?_⟩
        exact join _ _ ⟨rfl, _, bits_lt (hb _ (List.getElem_mem hj)), rfl⟩
      · refine ⟨_, rfl, _, .inl ⟨_, hl, rfl⟩, ?_⟩
        cases ns with
        | nil => exact iteF' rfl (join _ _ ⟨rfl, 0, Nat.two_pow_pos _, rfl⟩)
        | cons c r =>
          refine iteT' rfl ⟨_, rfl, l, _, 0, .int c, rfl, rfl, hl, atI_nat (j := 0) rfl, ?_⟩
          exact join _ _ ⟨rfl, _, bits_lt (hb _ List.mem_cons_self), rfl⟩
    · rintro σ _ ⟨rfl, c, hcb, rfl⟩
      obtain ⟨B, hB⟩ : ∃ B : Int, B = (if (-1 - c) > c then (-1 - c) else c) := ⟨_, rfl⟩
      have B0 : 0 ≤ B := by rw [hB]; split <;> omega
      have B1 : B.natAbs ≤ (c).natAbs := by rw [hB]; split <;> omega
      have BB := big_lt hcb B1
      have kk : 0 ≤ 7919 * k ∧ 7919 * k < 2 ^ 62 := by omega
      refine ⟨_, rfl, .inl ⟨_, rfl, _, rfl, _, rfl, _, _, rfl, rfl, .inl ⟨_, rfl, c, -1 - c, rfl, ?_⟩⟩⟩
      rw [← hB]
      refine ⟨_, rfl, .inl ⟨_, rfl, _, _, rfl, rfl, (by show (0 : Int) < 2147483629; decide), _, rfl, _, _, rfl, rfl, .inl ⟨by decide, by decide⟩, _, rfl, _, _, rfl, rfl, .inl ⟨by omega, by omega⟩, _, _, rfl, rfl, _, rfl, _, _, rfl, rfl, .inl ⟨by decide, by decide⟩, _, _, rfl, rfl, _, _, rfl, rfl, _, _, rfl, rfl, .inr ⟨by decide, by decide⟩, .inl ⟨_, rfl, _, _, rfl, rfl, (by show (0 : Int) < 2147483647; decide), ?_⟩⟩⟩
      refine ⟨_, rfl, _, rfl, _, _, rfl, rfl, ⟨by decide, by decide, by decide⟩, _, _, rfl, rfl, .inr ⟨_, rfl, _, _, rfl, rfl, .inr ?_, _, rfl, (by show 2 ≤ sizeLine; decide), fun so nso => ?_⟩⟩
      · split <;> exact ⟨by decide, by decide⟩
      · refine q _ _ (Ext.new nso) ⟨so, rfl, ⟨_, _, upd_same, ?_, ?_, Int.emod_nonneg _ (by decide), Int.emod_lt_of_pos _ (by decide)⟩, nso⟩
        · split
          · rw [Int.mul_one]; exact B0
          · rw [Int.mul_zero]; exact Int.le_refl _
        · split
          · rw [Int.mul_one]; exact BB
          · rw [Int.mul_zero]; exact Nat.two_pow_pos _
end
end R
end

-- Err
section
set_option Elab.async false
set_option linter.all false
set_option maxRecDepth 100000
set_option maxHeartbeats 4000000
namespace R
open PySem PySem.Spec PyProof.Rows L2 LamX NdefX LamP
/-! ### errors -/
def spErrInit (K : PySem.W.Frag) : Sp := fun vs H Q _ => ∃ (a C : Addr) (v : V), vs = [.ref a, v] ∧ OexC K C ∧ PySem.W.findIn K (.ref C) "what" = some none ∧ H a = some (exo a C none) ∧
  ∀ dx, H dx = none → dx ≠ a → Q .non (upd (upd H dx (exd dx [("what", v)])) a (exo a C (some dx)))
/-- an error of the class at C is wished, its what as P tells -/
def Rz (TT : List NTab) (E : XK) (H : Hp) (C : Addr) (P : V → Hp → Prop) : Prop := ∀ v d H', Ext TT none H H' → H' d = some (.xd [("what", v)]) → P v H' → E (.ref C) (some d) H'
theorem Rz.step {TT : List NTab} {E : XK} {H H1 : Hp} {C : Addr} {P : V → Hp → Prop} (h : Rz TT E H C P) (x : Ext TT none H H1) : Rz TT E H1 C P := fun v d H' y => h v d H' (x.trans y)
def tErr (C : Addr) (ta : TA) : L2.St → Hp → XK → Prop := fun σ H Q => ta σ H fun vs H1 => ∃ v, vs = [v] ∧ ∀ d, H1 d = none → Q (.ref C) (some d) (upd H1 d (.xd [("what", v)]))
section
variable {P : Program} {w : World} {K : PySem.W.Frag} {mg : Str → Option Value} {base : Heap}
theorem ok_err_init (T : Txt K mg) : FnOk P w K mg base CX0 1 T.a_Refused_init T.d_Refused_init ["self", "what"] (spErrInit K) := by
  refine T.F_Refused_init.ok sc_Refused_init (fun vs H Q E h => ?_) (fun cdv A outer s H vs Q E hr h => ?_)
  · obtain ⟨a, C, v, rfl, _⟩ := h
    rfl
  · obtain ⟨a, C, v, rfl, hC, hw, ha, k⟩ := h
    refine ⟨_, pss_one (ps_ost (pv 0) (pv 1)), ?_⟩
    exact ⟨_, rfl, _, rfl, a, C, rfl, hC, hw, .inl ⟨ha, k⟩⟩
theorem pa_mono {X : Cx} {es : List Expr} {ta : TA} (ha : PA X es ta) : PA X es (fun σ H Q2 => ∃ Q1 : List V → Hp → Prop, ta σ H Q1 ∧ ∀ vs H1, Q1 vs H1 → Q2 vs H1) := by
  refine ⟨fun pos pins s σ H Q I h => ?_⟩
  obtain ⟨Q1, h1, m⟩ := h
  exact wpAny_mono (ha.run pos pins s σ H Q1 I h1) (fun us s' ⟨vs, H', I', r, q⟩ => ⟨vs, H', I', r, m _ _ q⟩) fun _ _ x => x
theorem pmk_err {X : Cx} {x : Str} {C : Addr} {e : Expr} {ta : TA} {p pos : Pos} (T : Txt X.K X.mg) (hE : ErrC X.K X.mg x T.a_Refused_init C) (hr : Room 2 X.A) (hg : Gl X x) (ha : PA X [e] ta)
    (hdb : (x == ("__debug__" : Str)) = false := by decide) (he : starEach (e :: []) X.env = (false, eval e X.env) :: starEach [] X.env := by rfl) (hpl : (backTo pos (starEach [] X.env)).any (·.1) = false := by rfl) :
    PMk X (.Call (.Name x p) [e] [] pos) (tErr C ta) := by
  have q := pmk_oex (pos := pos) (p := p) hE.ox hE.iC T.tI (ok_err_init (P := X.prog) (w := X.w) (base := X.base) T) hr T.b_Refused_init .nil pass0 hg hE.gC (pa_mono ha) hdb he hpl
  intro pins s σ H Q I h
  refine q pins s σ H Q I ?_
  refine ⟨_, h, fun vs H1 hv => ?_⟩
  obtain ⟨v, rfl, k⟩ := hv
  refine ⟨(by show 1 ≤ 1000; decide), fun a na => ?_⟩
  refine ⟨a, C, v, rfl, hE.ox, hE.nw, upd_same, fun dx nd ne => ?_⟩
  have nd1 : H1 dx = none := by
    rw [upd_ne ne] at nd
    exact nd
  refine ⟨rfl, dx, [("what", v)], upd_same, by rw [upd_ne ne]; exact upd_same, nd1, ?_⟩
  have e1 : upd (del (upd (upd (upd H1 a (exo a C none)) dx (exd dx [("what", v)])) a (exo a C (some dx))) a) dx (.xd [("what", v)]) = upd H1 dx (.xd [("what", v)]) := by
    funext b
    by_cases hb : b = dx
    · rw [hb, upd_same, upd_same]
    · rw [upd_ne hb, upd_ne hb]
      by_cases hba : b = a
      · rw [hba, del_same, na]
      · rw [del_ne hba, upd_ne hba, upd_ne hb, upd_ne hba]
  rw [e1]
  exact k dx nd1
end
end R
end

-- FormsN
section
set_option Elab.async false
set_option linter.all false
set_option maxRecDepth 100000
set_option maxHeartbeats 4000000
namespace R
open PySem PySem.Spec PyProof.Rows L2 LamX NdefX LamP
def spIsNumber : Sp := fun vs H Q _ => ∃ n : Int, vs = [.int n] ∧ Q (.bl true) H
def spIsBelow : Sp := fun vs H Q _ => ∃ n m : Int, vs = [.int n, .int m] ∧ Q (.bl (decide (0 ≤ n) && decide (n < m))) H
section
variable {P : Program} {w : World} {K : PySem.W.Frag} {mg : Str → Option Value} {base : Heap}
theorem ok_is_number (T : Txt K mg) (TT : List NTab) : FnOk P w K mg base CX0 1 T.a_is_number T.d_is_number ["value"] spIsNumber := by
  refine T.F_is_number.ok sc_is_number (fun vs H Q E h => ?_) (fun cdv A outer s H vs Q E hr h => ?_)
  · obtain ⟨n, rfl, _⟩ := h
    rfl
  · obtain ⟨n, rfl, k⟩ := h
    refine ⟨_, pss_one (ps_ret (pe_and (pe_callB call_isi (by rfl) T.n_isinstance (by decide +kernel) (pa_cons (pv 0) (pa_cons (pe_bltn (v := .ty "int") (u := Value.type "int") (by rfl) T.n_int (by decide +kernel) rfl) pa_nil)))
      (pe_one (pe_not (pe_callB call_isi (by rfl) T.n_isinstance (by decide +kernel) (pa_cons (pv 0) (pa_cons (pe_bltn (v := .ty "bool") (u := Value.type "bool") (by rfl) T.n_bool (by decide +kernel) rfl) pa_nil))))))), ?_⟩
    refine ⟨_, rfl, _, _, .type "int", .type "int", true, rfl, .ty _, .base (.int _), kit_ty (by decide +kernel), _, rfl, ?_⟩
    refine iteT ⟨_, rfl, _, _, .type "int", .type "bool", false, rfl, .ty _, .base (.int _), kit_ty (by decide +kernel), _, rfl, ?_⟩
    exact k
theorem ok_is_below (T : Txt K mg) (TT : List NTab) : FnOk P w K mg base CX0 2 T.a_is_below T.d_is_below ["value", "limit"] spIsBelow := by
  refine T.F_is_below.ok sc_is_below (fun vs H Q E h => ?_) (fun cdv A outer s H vs Q E hr h => ?_)
  · obtain ⟨n, m, rfl, _⟩ := h
    rfl
  · obtain ⟨n, m, rfl, k⟩ := h
    refine ⟨_, pss_one (ps_ret (pe_and (pe_call (ok_is_number T TT) hr rfl T.g_is_number T.F_is_number.kp T.b_is_number .nil pass0 (pa_cons (pv 0) pa_nil))
      (pe_one (pe_chain op_le op_lt pe_int (pv 0) (pv 1))))), ?_⟩
    refine ⟨_, rfl, n, rfl, _, rfl, iteT ?_⟩
    refine ⟨_, rfl, _, _, rfl, rfl, _, rfl, ?_⟩
    refine iteB (fun h => ?_) (fun h => ?_)
    · refine ⟨_, rfl, _, _, rfl, rfl, ?_⟩
      rw [h] at k
      exact k
    · rw [h] at k
      exact k
end
end R
end

-- TupSum
section
set_option Elab.async false
set_option linter.all false
set_option maxRecDepth 100000
set_option maxHeartbeats 4000000
/-! TupSum: sum(t), t a tuple of whole numbers; a tuple behind a tuple; data of rows of numbers. -/
namespace TupX
open PySem PySem.Spec PyProof.Rows L2 NdefX R
def rSumT (K : PySem.W.Frag) : List V → Hp → VK → Prop := fun vs H Q => ∃ (t : Addr) (ns : List Int), vs = [V.ref t] ∧ SqT K H t (ns.map V.int) ∧ Q (.int ns.sum) H
theorem csumT {X : Cx} (K : PySem.W.Frag) (hc : X.calm = true := by rfl) (hK : X.K = K := by rfl) : CallR X (.builtin "sum") (rSumT K) := by
  subst hK
  rintro pins s σ H vs us Q I r ⟨t, ns, rfl, ht, q⟩
  obtain ⟨its, vi, at_, _⟩ := I.tuple ht
  cases Vals.ref1 r
  obtain ⟨prs, e⟩ := (Vals.ints vi).allInts.items
  have total : numsOf (intItems prs).toList = ns := by
    rw [← e]
    exact (Vals.ints vi).numsOf
  rw [nums_intItems] at total
  have tup : s.heap.IsTuple t (intItems prs) := by
    rw [← e]
    obtain ⟨o, h1, h2, n, h3⟩ := at_
    exact ⟨o, h1, h2, n, h3⟩
  refine PySem.W.ktm_sumG (I.ok.hd hc) tup (fun h' tk t' up => ⟨.int ns.sum, H, I.kept up, ⟨t', ?_⟩, q⟩)
  rw [preSum_eq, List.take_of_length_le (by simp), total]
/-- a row of whole numbers, as data -/
def rowD (r : List Nat) : PyData := .tuple (r.map fun (n : Nat) => .int (n : Int))
def rowsD (L : List (List Nat)) : List PyData := L.map rowD
theorem tps_nats {H : Hp} : ∀ {vs : List V} {r : List Nat}, Tps H vs (r.map fun (n : Nat) => PyData.int (n : Int)) → vs = (r.map Int.ofNat).map V.int
  | _, [], h => by
    cases h
    rfl
  | _, n :: r, h => by
    cases h with
    | cons h1 h2 =>
      cases h1
      rw [tps_nats h2] <;> rfl
theorem nats_tps {H : Hp} : ∀ r : List Nat, Tps H ((r.map Int.ofNat).map V.int) (r.map fun (n : Nat) => PyData.int (n : Int))
  | [] => .nil
  | n :: r => .cons (.int _) (nats_tps r)
theorem row_at {H : Hp} {v : V} {r : List Nat} (h : Tp H v (rowD r)) : ∃ a, v = .ref a ∧ H a = some (.tup ((r.map Int.ofNat).map V.int)) := by
  cases h with
  | tup h t =>
    rw [tps_nats t] at h
    exact ⟨_, rfl, h⟩
theorem row_tp {H : Hp} {a : Addr} {r : List Nat} (h : H a = some (.tup ((r.map Int.ofNat).map V.int))) : Tp H (.ref a) (rowD r) := .tup h (nats_tps r)
theorem sum_nats : ∀ r : List Nat, (r.map Int.ofNat).sum = ((r.sum : Nat) : Int)
  | [] => rfl
  | n :: r => by
    rw [List.map_cons, List.sum_cons, sum_nats r, List.sum_cons, Int.natCast_add] <;> rfl
/-- a row of whole numbers of any sign, as data -/
def rowI (r : List Int) : PyData := .tuple (r.map PyData.int)
def rowsI' (L : List (List Int)) : List PyData := L.map rowI
theorem rowI_at {H : Hp} {v : V} {r : List Int} (h : Tp H v (rowI r)) : ∃ a, v = .ref a ∧ H a = some (.tup (r.map V.int)) := by
  cases h with
  | tup h t =>
    rw [Tps.ints_of t] at h
    exact ⟨_, rfl, h⟩
theorem rowI_tp {H : Hp} {a : Addr} {r : List Int} (h : H a = some (.tup (r.map V.int))) : Tp H (.ref a) (rowI r) := .tup h (Tps.ints r)
/-- a list of such rows -/
def IsRowsI (H : Hp) (l : Addr) (L : List (List Int)) : Prop := ∃ vs, H l = some (.lst vs) ∧ Tps H vs (rowsI' L)
theorem rowsI_len {H : Hp} {vs : List V} {L : List (List Int)} (h : Tps H vs (rowsI' L)) : vs.length = L.length := by
  rw [h.length]
  unfold rowsI'
  rw [List.length_map]
theorem rowsI_get {H : Hp} {vs : List V} {L : List (List Int)} {j : Nat} {x : V} (h : Tps H vs (rowsI' L)) (e : vs[j]? = some x) : ∃ r, L[j]? = some r ∧ Tp H x (rowI r) := by
  obtain ⟨d, h1, h2⟩ := h.get e
  unfold rowsI' at h1
  rw [List.getElem?_map] at h1
  cases er : L[j]? with
  | none => rw [er] at h1; cases h1
  | some r =>
    rw [er] at h1
    cases h1
    exact ⟨r, rfl, h2⟩
theorem rowsI_append (A B : List (List Int)) : rowsI' (A ++ B) = rowsI' A ++ rowsI' B := by
  unfold rowsI'
  rw [List.map_append]
/-- t + u, whichever is empty -/
def rCatK (K : PySem.W.Frag) : R2 := rCatA K
theorem catAK {X : Cx} (K : PySem.W.Frag) (h : X.K = K := by rfl) : OpR X (binaryOp .Add) (rCatA K) := h ▸ op_catA
/-- a tuple and a tuple behind it: whichever way, a tuple of both -/
theorem cat_tup {K : PySem.W.Frag} {TT : List NTab} {H : Hp} {l b : Addr} {xs zs : List V} {Q : VK} (hx : H l = some (.tup xs)) (hz : H b = some (.tup zs)) (small : xs.length + zs.length ≤ sizeLine)
    (h : ∀ q G, Ext TT none H G → G q = some (.tup (xs ++ zs)) → Q (.ref q) G) : rCatA K (.ref l) (.ref b) H Q := by
  refine ⟨l, b, xs, zs, rfl, rfl, SqT.of hx, SqT.of hz, small, fun e => ?_, fun _ e => ?_, fun _ _ p np => ?_⟩
  · subst e
    exact h b H (Ext.refl ..) hz
  · subst e
    rw [List.append_nil] at h
    exact h l H (Ext.refl ..) hx
  · exact h p _ (Ext.new np) upd_same
end TupX
end

-- MinT
section
set_option Elab.async false
set_option linter.all false
set_option maxRecDepth 100000
set_option maxHeartbeats 4000000
/-! MinT: min(l), min(l, default=d), l a list of tuples of numbers. -/
namespace MinX
open PySem PySem.Spec PyProof.Rows L2 NdefX R TupX
abbrev ltL (a b : List Int) : Bool := PySem.W.listLt a b
theorem lt_cons (x y : Int) (a b : List Int) : ltL (x :: a) (y :: b) = if x = y then ltL a b else decide (x < y) := rfl
theorem lt_nil (a : List Int) : ltL a [] = false := by cases a <;> rfl
theorem ltL_total : ∀ a b : List Int, ltL a b = false → ltL b a = false → a = b
  | [], [], _, _ => rfl
  | [], y :: b, h, _ => by cases h
  | x :: a, [], _, h => by cases h
  | x :: a, y :: b, h1, h2 => by
    rw [lt_cons] at h1 h2
    by_cases e : x = y
    · subst e
      rw [if_pos rfl] at h1 h2
      rw [ltL_total a b h1 h2]
    · rw [if_neg e] at h1
      rw [if_neg (fun z => e z.symm)] at h2
      have h1 := of_decide_eq_false h1
      have h2 := of_decide_eq_false h2
      omega
theorem ltL_trans : ∀ a b c : List Int, ltL a b = true → ltL b c = true → ltL a c = true
  | a, b, [], _, h => by rw [lt_nil] at h; cases h
  | a, [], z :: c, h, _ => by rw [lt_nil] at h; cases h
  | [], y :: b, z :: c, _, _ => rfl
  | x :: a, y :: b, z :: c, h1, h2 => by
    rw [lt_cons] at h1 h2 ⊢
    by_cases e : x = y
    · subst e
      rw [if_pos rfl] at h1
      by_cases e2 : x = z
      · subst e2
        rw [if_pos rfl] at h2 ⊢
        exact ltL_trans a b c h1 h2
      · rw [if_neg e2] at h2 ⊢
        exact h2
    · rw [if_neg e] at h1
      have h1 := of_decide_eq_true h1
      by_cases e2 : y = z
      · subst e2
        rw [if_neg e]
        exact decide_eq_true h1
      · rw [if_neg e2] at h2
        have h2 := of_decide_eq_true h2
        rw [if_neg (by omega)]
        exact decide_eq_true (by omega)
theorem ltL_irr : ∀ a : List Int, ltL a a = false
  | [] => rfl
  | x :: a => by rw [lt_cons, if_pos rfl, ltL_irr a]
structure Least (m : List Int) (L : List (List Int)) : Prop where
  mem : m ∈ L
  le : ∀ r ∈ L, ltL r m = false
theorem Least.same {m m' : List Int} {L L' : List (List Int)} (h : Least m L) (h' : Least m' L') (s : ∀ x, x ∈ L ↔ x ∈ L') : m = m' :=
  ltL_total m m' (h'.le m ((s m).mp h.mem)) (h.le m' ((s m').mpr h'.mem))
abbrev TI := PySem.W.Tup Int
theorem min_least : ∀ (L : List (List Int)) (x : List Int), Least (PySem.W.minOf (⟨x⟩ : TI) (L.map PySem.W.Tup.mk)).items (x :: L)
  | [], x => ⟨List.mem_singleton.mpr rfl, fun r hr => by
    have e : r = x := List.mem_singleton.mp hr
    rw [e]
    exact ltL_irr x⟩
  | y :: L, x => by
    show Least (PySem.W.minOf (if ltL y x = true then (⟨y⟩ : TI) else ⟨x⟩) (L.map PySem.W.Tup.mk)).items _
    by_cases c : ltL y x = true
    · rw [if_pos c]
      obtain ⟨h1, h2⟩ := min_least L y
      refine ⟨List.mem_cons_of_mem _ h1, fun r hr => ?_⟩
      rcases List.mem_cons.mp hr with z | z
      · rw [z]
        cases e : ltL x (PySem.W.minOf (⟨y⟩ : TI) (L.map PySem.W.Tup.mk)).items with
        | false => rfl
        | true =>
          have := ltL_trans _ _ _ c e
          rw [h2 y List.mem_cons_self] at this
          cases this
      · exact h2 r z
    · rw [if_neg c]
      obtain ⟨h1, h2⟩ := min_least L x
      refine ⟨?_, fun r hr => ?_⟩
      · rcases List.mem_cons.mp h1 with z | z
        · rw [z]; exact List.mem_cons_self
        · exact List.mem_cons_of_mem _ (List.mem_cons_of_mem _ z)
      · rcases List.mem_cons.mp hr with z | z
        · rw [z]
          exact h2 x List.mem_cons_self
        · rcases List.mem_cons.mp z with z | z
          · rw [z]
            cases e : ltL y (PySem.W.minOf (⟨x⟩ : TI) (L.map PySem.W.Tup.mk)).items with
            | false => rfl
            | true =>
              have c : ltL y x = false := by simpa using c
              rcases List.mem_cons.mp h1 with z | z
              · rw [z, c] at e; cases e
              · -- least is not x: then least ≤ x, r < least, so r < x
                cases e2 : ltL x (PySem.W.minOf (⟨x⟩ : TI) (L.map PySem.W.Tup.mk)).items with
                | true => rw [h2 x List.mem_cons_self] at e2; cases e2
                | false =>
                  cases e3 : ltL (PySem.W.minOf (⟨x⟩ : TI) (L.map PySem.W.Tup.mk)).items x with
                  | true =>
                    rw [ltL_trans _ _ _ e e3] at c
                    cases c
                  | false =>
                    rw [← ltL_total _ _ e2 e3, c] at e
                    cases e
          · exact h2 r (List.mem_cons_of_mem _ z)
theorem lay_row : ∀ s : List Int, PyData.canLayAll0 (s.map PyData.int) = true
  | [] => by simp [PyData.canLayAll0]
  | m :: s => by
    have := lay_row s
    simp [PyData.canLayAll0, PyData.canLay0, this]
theorem lay_one (s : List Int) : PyData.canLayAll0 [rowI s] = true := by
  simp [rowI, PyData.canLay0, PyData.canLayAll0, lay_row]
theorem reads_one {h : Heap} {v : Value} {d : PyData} {as : List Addr} (r : Reads h v d as) (c : PyData.canLayAll0 [d] = true) : SeqAt.readOf h v = d := by
  have := SeqAt.readsAll_map [d] [v] _ c (ReadsAll.cons r .nil)
  exact (List.cons.inj this).1
theorem toD_map : ∀ L : List (List Int), (L.map (PySem.W.Tup.mk : List Int → TI)).map PySem.W.Datum.toD = rowsI' L
  | [] => rfl
  | r :: L => by
    have := toD_map L
    rw [List.map_cons, List.map_cons, this] <;> rfl
def rMinT (K : PySem.W.Frag) : List V → Hp → VK → Prop := fun vs H Q => ∃ (a : Addr) (xs : List V) (L : List (List Int)), vs = [.ref a] ∧ SqL K H a xs ∧ Tps H xs (rowsI' L) ∧ L ≠ [] ∧
  ∀ x m, x ∈ xs → Tp H x (rowI m) → Least m L → Q x H
def rMinDT (K : PySem.W.Frag) : List V → List V → Hp → VK → Prop := fun vs zs H Q => ∃ (a : Addr) (xs : List V) (L : List (List Int)) (d : V), vs = [.ref a] ∧ zs = [d] ∧ SqL K H a xs ∧ Tps H xs (rowsI' L) ∧
  (L = [] → Q d H) ∧ ∀ x m, x ∈ xs → Tp H x (rowI m) → Least m L → Q x H
section
variable {X : Cx}
theorem room_min (hu : X.A.units + 65 < cLine) : X.A.units + 1 + PySem.W.Datum.depth TI < cLine := by
  have : PySem.W.Datum.depth TI ≤ 10 := by decide
  omega
theorem pick {pins : List (Addr × Obj)} {σ : L2.St} {H : Hp} {s : Shared} {xs : List V} {its : List Value} {y : List Int} {L : List (List Int)} {Q : VK} {i : Nat} {v : Value} {h' : Heap} {tk : Nat}
    (I : Inv X pins σ H s) (rv : Vals xs its) (ht : Tps H xs (rowsI' (y :: L))) (q : ∀ x m, x ∈ xs → Tp H x (rowI m) → Least m (y :: L) → Q x H)
    (hi : its.toArray[i]? = some v) (hv : PySem.W.Holds h' v (PySem.W.minOf (⟨y⟩ : TI) (L.map PySem.W.Tup.mk))) (hk : ∀ b o, s.heap.get? b = some o → h'.get? b = some o) : EP X pins σ Q v { s with heap := h', toks := tk } := by
  have hi : its[i]? = some v := by simpa using hi
  have hil := (List.getElem?_eq_some_iff.mp hi).1
  have hxl : i < xs.length := by rw [rv.length]; exact hil
  obtain ⟨u, hu, ru⟩ := rv.get (List.getElem?_eq_getElem hxl)
  rw [hi] at hu
  cases hu
  obtain ⟨d, hd, htp⟩ := ht.get (List.getElem?_eq_getElem hxl)
  have hd2 : ∃ r, (y :: L)[i]? = some r ∧ d = rowI r := by
    unfold rowsI' at hd
    rw [List.getElem?_map] at hd
    cases e : (y :: L)[i]? with
    | none => rw [e] at hd; cases hd
    | some r => rw [e] at hd; cases hd; exact ⟨r, rfl, rfl⟩
  obtain ⟨r, hr, rfl⟩ := hd2
  obtain ⟨as, r1⟩ := Dp.reads I (rowI r) _ v htp.dp ru
  obtain ⟨bs, r2⟩ := hv
  have e1 := reads_one (Reads.keeps hk r1) (lay_one r)
  have e2 := reads_one r2 (lay_one _)
  have e3 : rowI r = rowI (PySem.W.minOf (⟨y⟩ : TI) (L.map PySem.W.Tup.mk)).items := e1.symm.trans e2
  refine ⟨xs[i], H, I.kept hk, ru, q _ _ (List.getElem_mem hxl) ?_ (min_least L y)⟩
  rw [← e3]
  exact htp
theorem cr_minT (hc : X.calm = true) (hu : X.A.units + 65 < cLine) : CallR X (.builtin "min") (rMinT X.K) := by
  intro pins s σ H vs us Q I r h
  obtain ⟨a, xs, L, rfl, hs, ht, hne, q⟩ := h
  obtain ⟨its, rv, hl, _⟩ := I.list hs
  rw [Vals.ref1 r]
  cases L with
  | nil => exact absurd rfl hne
  | cons y L =>
    obtain ⟨as, ra⟩ := Dp.readsAll I _ _ its ht.dp rv
    exact PySem.W.min_list_datum (α := TI) (x := ⟨y⟩) (xs := L.map PySem.W.Tup.mk) (I.ok.hd hc) hl.isList ⟨as, by rw [show ((⟨y⟩ : TI) :: L.map PySem.W.Tup.mk) = (y :: L).map PySem.W.Tup.mk from rfl, toD_map]; simpa using ra⟩ (room_min hu)
      fun i v h' tk hi hv hk => pick I rv ht q hi hv hk
theorem cr_minDT (hc : X.calm = true) (hu : X.A.units + 65 < cLine) : CallRK X (.builtin "min") ["default"] (rMinDT X.K) := by
  intro pins s σ H vs zs us ws Q I r rz h
  obtain ⟨a, xs, L, d, rfl, rfl, hs, ht, q0, q⟩ := h
  obtain ⟨its, rv, hl, _⟩ := I.list hs
  rw [Vals.ref1 r]
  cases rz with
  | cons rd rn =>
    cases rn
    obtain ⟨as, ra⟩ := Dp.readsAll I _ _ its ht.dp rv
    refine PySem.W.min_list_datum_default (α := TI) (xs := L.map PySem.W.Tup.mk) (I.ok.hd hc) hl.isList ⟨as, by rw [toD_map]; simpa using ra⟩ (room_min hu) (fun e h' tk hk => ?_) fun y ys i v h' tk e hi hv hk => ?_
    · exact ⟨d, H, I.kept hk, rd, q0 (List.map_eq_nil_iff.mp e)⟩
    · cases L with
      | nil => cases e
      | cons y L =>
        cases e
        exact pick I rv ht q hi hv hk
end
end MinX
end

-- CoreM
section
set_option Elab.async false
set_option linter.all false
set_option maxRecDepth 100000
set_option maxHeartbeats 4000000
/-! CoreM: rows round a ring, like neighbours struck out: the mathematics. -/
namespace CoreX
open MinX
/-- a letter put ahead of a row without like neighbours -/
def lm (a : Int) : List Int → List Int
  | [] => [a]
  | b :: r => if a = b then r else a :: b :: r
/-- .. behind it -/
def rm (a : Int) : List Int → List Int
  | [] => [a]
  | [b] => if b = a then [] else [b, a]
  | b :: c :: r => b :: rm a (c :: r)
def nf : List Int → List Int
  | [] => []
  | a :: w => lm a (nf w)
def Red : List Int → Prop
  | [] => True
  | [_] => True
  | a :: b :: r => a ≠ b ∧ Red (b :: r)
theorem Red.tail {a : Int} {r : List Int} (h : Red (a :: r)) : Red r := by
  cases r with
  | nil => trivial
  | cons b r => exact h.2
theorem lm_red (a : Int) : ∀ {st : List Int}, Red st → Red (lm a st)
  | [], _ => trivial
  | b :: r, h => by
    show Red (if a = b then r else a :: b :: r)
    by_cases e : a = b
    · rw [if_pos e]; exact h.tail
    · rw [if_neg e]; exact ⟨e, h⟩
theorem nf_red : ∀ w : List Int, Red (nf w)
  | [] => trivial
  | a :: w => lm_red a (nf_red w)
theorem lm_twice (a : Int) : ∀ {st : List Int}, Red st → lm a (lm a st) = st
  | [], _ => by simp [lm]
  | b :: r, h => by
    show lm a (if a = b then r else a :: b :: r) = b :: r
    by_cases e : a = b
    · subst e
      rw [if_pos rfl]
      cases r with
      | nil => rfl
      | cons c r => exact if_neg h.1
    · rw [if_neg e]
      exact if_pos rfl
theorem nf_app : ∀ (u v v' : List Int), nf v = nf v' → nf (u ++ v) = nf (u ++ v')
  | [], _, _, h => h
  | a :: u, v, v', h => congrArg (lm a) (nf_app u v v' h)
/-- two like neighbours struck out -/
theorem nf_strike (u v : List Int) (a : Int) : nf (u ++ a :: a :: v) = nf (u ++ v) := nf_app u _ _ (lm_twice a (nf_red v))
theorem rm_lm (a b : Int) : ∀ st : List Int, rm b (lm a st) = lm a (rm b st)
  | [] => by
    show (if a = b then [] else [a, b]) = (if a = b then [] else [a, b])
    rfl
  | [c] => by
    show rm b (if a = c then [] else [a, c]) = lm a (if c = b then [] else [c, b])
    by_cases h1 : a = c
    · subst h1
      rw [if_pos rfl]
      by_cases h2 : a = b
      · subst h2; rw [if_pos rfl] <;> rfl
      · rw [if_neg h2]
        show [b] = if a = a then [b] else [a, a, b]
        rw [if_pos rfl]
    · rw [if_neg h1]
      show a :: (if c = b then [] else [c, b]) = _
      by_cases h2 : c = b
      · rw [if_pos h2] <;> rfl
      · rw [if_neg h2]
        show _ = if a = c then [b] else [a, c, b]
        rw [if_neg h1]
  | c :: d :: r => by
    show rm b (if a = c then d :: r else a :: c :: d :: r) = (if a = c then rm b (d :: r) else a :: c :: rm b (d :: r))
    by_cases h : a = c
    · rw [if_pos h, if_pos h]
    · rw [if_neg h, if_neg h] <;> rfl
theorem nf_snoc (b : Int) : ∀ w : List Int, nf (w ++ [b]) = rm b (nf w)
  | [] => rfl
  | a :: w => by
    show lm a (nf (w ++ [b])) = rm b (lm a (nf w))
    rw [nf_snoc b w, rm_lm]
theorem lm_len (a : Int) : ∀ st : List Int, (lm a st).length % 2 = (st.length + 1) % 2
  | [] => rfl
  | b :: r => by
    show (if a = b then r else a :: b :: r).length % 2 = _
    split <;> simp only [List.length_cons] <;> omega
theorem nf_len : ∀ w : List Int, (nf w).length % 2 = w.length % 2
  | [] => rfl
  | a :: w => by
    have h1 := nf_len w
    have h2 := lm_len a (nf w)
    show (lm a (nf w)).length % 2 = (w.length + 1) % 2
    omega
/-! ### like ends struck out -/
def Ends (st : List Int) : Prop := 2 ≤ st.length ∧ st.head? = st.getLast?
instance (st : List Int) : Decidable (Ends st) := by unfold Ends; exact inferInstance
/-- how often both ends are struck, and what is left -/
inductive Trim : Nat → List Int → List Int → Prop
  | stop {st : List Int} : ¬ Ends st → Trim 0 st st
  | step {t : Nat} {a : Int} {st c : List Int} : Trim t st c → Trim (t + 1) (a :: (st ++ [a])) c
theorem ends_of (a : Int) (st : List Int) : Ends (a :: (st ++ [a])) := by
  refine ⟨by simp, ?_⟩
  rw [List.head?_cons, show a :: (st ++ [a]) = (a :: st) ++ [a] from rfl, List.getLast?_append]
  rfl
theorem Trim.det {t t' : Nat} {st c c' : List Int} (h : Trim t st c) : Trim t' st c' → t = t' ∧ c = c' := by
  induction h generalizing t' c' with
  | stop n =>
    intro h'
    cases h' with
    | stop _ => exact ⟨rfl, rfl⟩
    | step h => exact absurd (ends_of _ _) n
  | @step t a st c h ih =>
    intro h'
    generalize e : a :: (st ++ [a]) = w at h'
    cases h' with
    | stop n => rw [← e] at n; exact absurd (ends_of _ _) n
    | @step t2 a2 st2 c2 h2 =>
      injection e with e1 e2
      subst e1
      have e3 : st = st2 := by
        have := congrArg List.dropLast e2
        rwa [List.dropLast_concat, List.dropLast_concat] at this
      subst e3
      obtain ⟨h3, h4⟩ := ih h2
      exact ⟨congrArg (· + 1) h3, h4⟩
theorem ends_split {st : List Int} (h : Ends st) : ∃ (a : Int) (m : List Int), st = a :: (m ++ [a]) := by
  obtain ⟨h1, h2⟩ := h
  cases st with
  | nil => simp at h1
  | cons a r =>
    rcases List.eq_nil_or_concat r with e | ⟨m, b, e⟩
    · subst e; simp at h1
    · subst e
      rw [List.concat_eq_append] at h2 ⊢
      rw [List.head?_cons, show a :: (m ++ [b]) = (a :: m) ++ [b] from rfl, List.getLast?_append] at h2
      have : a = b := Option.some.inj h2
      subst this
      exact ⟨a, m, rfl⟩
theorem trim_ex : ∀ (n : Nat) (st : List Int), st.length ≤ n → ∃ t c, Trim t st c
  | n, st, h => by
    by_cases e : Ends st
    · obtain ⟨a, m, rfl⟩ := ends_split e
      cases n with
      | zero => simp at h
      | succ n =>
        have : m.length ≤ n := by simp at h; omega
        obtain ⟨t, c, q⟩ := trim_ex n m this
        exact ⟨t + 1, c, .step q⟩
    · exact ⟨0, st, .stop e⟩
/-! ### readings -/
def rot (c : List Int) (j : Nat) : List Int := c.drop j ++ c.take j
def Rd (odd : Bool) (s : Nat) (c x : List Int) : Prop := ∃ j, j < c.length ∧ (odd = true ∨ (s + j) % 2 = 0) ∧ x = rot c j
theorem Rd.par {odd : Bool} {s s' : Nat} {c x : List Int} (h : s % 2 = s' % 2) : Rd odd s c x ↔ Rd odd s' c x := by
  constructor
  · rintro ⟨j, h1, h2 | h2, h3⟩
    · exact ⟨j, h1, .inl h2, h3⟩
    · exact ⟨j, h1, .inr (by omega), h3⟩
  · rintro ⟨j, h1, h2 | h2, h3⟩
    · exact ⟨j, h1, .inl h2, h3⟩
    · exact ⟨j, h1, .inr (by omega), h3⟩
theorem Rd.odd {s s' : Nat} {c x : List Int} : Rd true s c x ↔ Rd true s' c x := by
  constructor <;> (rintro ⟨j, h1, _, h3⟩; exact ⟨j, h1, .inl rfl, h3⟩)
theorem rot_next (a : Int) (r : List Int) {j : Nat} (h : j ≤ r.length) : rot (r ++ [a]) j = rot (a :: r) (j + 1) := by
  unfold rot
  rw [List.drop_succ_cons, List.take_succ_cons, List.drop_append_of_le_length h, List.take_append_of_le_length h, List.append_assoc] <;> rfl
theorem rot_zero (c : List Int) : rot c 0 = c := by simp [rot]
theorem rot_all (c : List Int) : rot c c.length = c := by simp [rot]
/-- a row read from its second letter on -/
theorem Rd.turn {odd : Bool} {s : Nat} {a : Int} {r x : List Int} (ev : odd = true ∨ (r.length + 1) % 2 = 0) : Rd odd s (r ++ [a]) x ↔ Rd odd (s + 1) (a :: r) x := by
  constructor
  · rintro ⟨j, h1, h2, rfl⟩
    rw [List.length_append] at h1
    have h1 : j ≤ r.length := Nat.lt_succ_iff.mp h1
    rw [rot_next a r h1]
    by_cases e : j = r.length
    · subst e
      refine ⟨0, by simp, ?_, ?_⟩
      · rcases h2 with h2 | h2
        · exact .inl h2
        · rcases ev with ev | ev
          · exact .inl ev
          · exact .inr (by omega)
      · rw [rot_zero, show r.length + 1 = (a :: r).length from rfl, rot_all]
    · refine ⟨j + 1, by rw [List.length_cons]; omega, ?_, rfl⟩
      rcases h2 with h2 | h2
      · exact .inl h2
      · exact .inr (by omega)
  · rintro ⟨j, h1, h2, rfl⟩
    rw [List.length_cons] at h1
    cases j with
    | zero =>
      refine ⟨r.length, by rw [List.length_append]; exact Nat.lt_succ_self _, ?_, ?_⟩
      · rcases h2 with h2 | h2
        · exact .inl h2
        · rcases ev with ev | ev
          · exact .inl ev
          · exact .inr (by omega)
      · rw [rot_next a r (Nat.le_refl _), rot_zero, show r.length + 1 = (a :: r).length from rfl, rot_all]
    | succ j =>
      refine ⟨j, by rw [List.length_append]; simp only [List.length_cons, List.length_nil]; omega, ?_, (rot_next a r (by omega)).symm⟩
      rcases h2 with h2 | h2
      · exact .inl h2
      · exact .inr (by omega)
end CoreX
end

-- CoreN
section
set_option Elab.async false
set_option linter.all false
set_option maxRecDepth 100000
set_option maxHeartbeats 4000000
/-! CoreN: striking like neighbours, round the ring, leaves the readings. -/
namespace CoreX
open MinX
theorem rm_concat (a b : Int) : ∀ m : List Int, rm a (m ++ [b]) = if b = a then m else m ++ [b, a]
  | [] => rfl
  | c :: m => by
    have ih := rm_concat a b m
    cases hm : m ++ [b] with
    | nil => simp at hm
    | cons d r =>
      rw [hm] at ih
      show rm a (c :: (m ++ [b])) = _
      rw [hm]
      show c :: rm a (d :: r) = _
      rw [ih]
      split <;> rfl
theorem no_ends {st : List Int} (h : ¬ Ends st) {t : Nat} {c : List Int} (q : Trim t st c) : t = 0 ∧ c = st := q.det (.stop h)
theorem ends_cons {a b : Int} {m : List Int} (h : a ≠ b) : ¬ Ends (a :: (m ++ [b])) := by
  intro z
  have e := z.2
  rw [List.head?_cons, show a :: (m ++ [b]) = (a :: m) ++ [b] from rfl, List.getLast?_append] at e
  exact h (Option.some.inj e)
theorem red_cons2 {a b : Int} {r : List Int} (h : Red (a :: b :: r)) : a ≠ b := h.1
theorem rm_cons (a b c : Int) (r : List Int) : rm a (b :: c :: r) = b :: rm a (c :: r) := rfl
/-- a letter ahead of a reduced row and behind it: the readings are those of the row, the other way about -/
theorem conj {odd : Bool} {s : Nat} {a : Int} {v : List Int} (hv : Red v) (ev : odd = true ∨ v.length % 2 = 0) {t t' : Nat} {c c' : List Int} (h : Trim t v c) (h' : Trim t' (lm a (rm a v)) c') (x : List Int) :
    Rd odd (s + t') c' x ↔ Rd odd (s + 1 + t) c x := by
  cases v with
  | nil =>
    have e : lm a (rm a []) = [] := by show (if a = a then [] else _) = _; rw [if_pos rfl]
    rw [e] at h'
    obtain ⟨_, rfl⟩ := no_ends (st := []) (by intro z; have := z.1; simp at this) h
    obtain ⟨_, rfl⟩ := no_ends (st := []) (by intro z; have := z.1; simp at this) h'
    constructor <;> (rintro ⟨j, h1, _⟩; simp at h1)
  | cons b r =>
    rcases List.eq_nil_or_concat r with e | ⟨m, d, e⟩
    · subst e
      have od : odd = true := by
        rcases ev with z | z
        · exact z
        · simp at z
      subst od
      obtain ⟨_, rfl⟩ := no_ends (st := [b]) (by intro z; have := z.1; simp at this) h
      by_cases e : b = a
      · subst e
        have e2 : lm b (rm b [b]) = [b] := by show lm b (if b = b then [] else _) = _; rw [if_pos rfl] <;> rfl
        rw [e2] at h'
        obtain ⟨_, rfl⟩ := no_ends (st := [b]) (by intro z; have := z.1; simp at this) h'
        exact Rd.odd
      · have e2 : lm a (rm a [b]) = a :: ([b] ++ [a]) := by
          show lm a (if b = a then [] else [b, a]) = _
          rw [if_neg e]
          exact if_neg (fun z => e z.symm)
        rw [e2] at h'
        obtain ⟨_, rfl⟩ := h'.det (.step (.stop (by intro z; have := z.1; simp at this)))
        exact Rd.odd
    · rw [List.concat_eq_append] at e
      subst e
      have e0 : rm a (b :: (m ++ [d])) = if d = a then b :: m else b :: (m ++ [d, a]) := rm_concat a d (b :: m)
      rw [e0] at h'
      by_cases e1 : a = b
      · subst e1
        by_cases e2 : d = a
        · subst e2
          rw [if_pos rfl] at h'
          have e3 : lm d (d :: m) = m := if_pos rfl
          rw [e3] at h'
          obtain ⟨t2, c2, q⟩ := trim_ex m.length m (Nat.le_refl _)
          obtain ⟨rfl, rfl⟩ := h'.det q
          obtain ⟨rfl, rfl⟩ := h.det (.step q)
          exact Rd.par (by omega)
        · rw [if_neg e2] at h'
          have e3 : lm a (a :: (m ++ [d, a])) = m ++ [d, a] := if_pos rfl
          rw [e3] at h'
          obtain ⟨rfl, rfl⟩ := no_ends (ends_cons (fun z => e2 z.symm)) h
          have n' : ¬ Ends (m ++ [d, a]) := by
            cases m with
            | nil => exact ends_cons (m := []) e2
            | cons g m =>
              have : a ≠ g := red_cons2 hv
              have q := ends_cons (a := g) (b := a) (m := m ++ [d]) (fun z => this z.symm)
              rw [List.append_assoc] at q
              exact q
          obtain ⟨rfl, rfl⟩ := no_ends n' h'
          rw [show m ++ [d, a] = (m ++ [d]) ++ [a] by rw [List.append_assoc] <;> rfl]
          refine (Rd.turn ?_).trans (Rd.par (by omega))
          rcases ev with z | z
          · exact .inl z
          · exact .inr z
      · by_cases e2 : d = a
        · subst e2
          rw [if_pos rfl] at h'
          have e3 : lm d (b :: m) = d :: b :: m := if_neg e1
          rw [e3] at h'
          obtain ⟨rfl, rfl⟩ := no_ends (ends_cons (fun z => e1 z.symm)) h
          have n' : ¬ Ends (d :: b :: m) := by
            rcases List.eq_nil_or_concat m with e | ⟨m2, g, e⟩
            · subst e; exact ends_cons (m := []) e1
            · rw [List.concat_eq_append] at e
              subst e
              have nd : ∀ (u : List Int), Red (u ++ [g] ++ [d]) → g ≠ d := by
                intro u
                induction u with
                | nil => intro q; exact red_cons2 q
                | cons y u ih => intro q; exact ih q.tail
              have q := nd (b :: m2) hv
              exact ends_cons (a := d) (b := g) (m := b :: m2) (fun z => q z.symm)
          obtain ⟨rfl, rfl⟩ := no_ends n' h'
          have tn := Rd.turn (odd := odd) (s := s + 1) (a := d) (r := b :: m) (x := x) (by
            rcases ev with z | z
            · exact .inl z
            · refine .inr ?_
              simp only [List.length_cons, List.length_append, List.length_nil] at z ⊢
              omega)
          refine (Rd.par (s' := s + 1 + 1) (by omega)).trans (tn.symm.trans (Rd.par (by omega)))
        · rw [if_neg e2] at h'
          have e3 : lm a (b :: (m ++ [d, a])) = a :: ((b :: (m ++ [d])) ++ [a]) := by
            show (if a = b then _ else a :: b :: (m ++ [d, a])) = _
            rw [if_neg e1, List.cons_append, List.append_assoc] <;> rfl
          rw [e3] at h'
          obtain ⟨rfl, rfl⟩ := h'.det (.step h)
          exact Rd.par (by omega)
/-! ### the readings of a row -/
/-- x is a reading of the row w, whose first place counts as s -/
def RdW (odd : Bool) (s : Nat) (w x : List Int) : Prop := ∃ t c, Trim t (nf w) c ∧ Rd odd (s + t) c x
theorem RdW.of {odd : Bool} {s t : Nat} {w c x : List Int} (h : Trim t (nf w) c) : RdW odd s w x ↔ Rd odd (s + t) c x := by
  constructor
  · rintro ⟨t', c', h', q⟩
    obtain ⟨rfl, rfl⟩ := h.det h'
    exact q
  · exact fun q => ⟨t, c, h, q⟩
theorem RdW.par {odd : Bool} {s s' : Nat} {w x : List Int} (h : s % 2 = s' % 2) : RdW odd s w x ↔ RdW odd s' w x := by
  constructor
  · rintro ⟨t, c, q, r⟩; exact ⟨t, c, q, (Rd.par (by omega)).mp r⟩
  · rintro ⟨t, c, q, r⟩; exact ⟨t, c, q, (Rd.par (by omega)).mp r⟩
theorem RdW.odd {s s' : Nat} {w x : List Int} : RdW true s w x ↔ RdW true s' w x := by
  constructor
  · rintro ⟨t, c, q, r⟩; exact ⟨t, c, q, Rd.odd.mp r⟩
  · rintro ⟨t, c, q, r⟩; exact ⟨t, c, q, Rd.odd.mp r⟩
theorem RdW.strike {odd : Bool} {s : Nat} {x : List Int} (u v : List Int) (a : Int) : RdW odd s (u ++ a :: a :: v) x ↔ RdW odd s (u ++ v) x := by
  unfold RdW
  rw [nf_strike]
theorem RdW.ends {odd : Bool} {s : Nat} {x : List Int} (w : List Int) (a : Int) (ev : odd = true ∨ w.length % 2 = 0) : RdW odd s (a :: (w ++ [a])) x ↔ RdW odd (s + 1) w x := by
  obtain ⟨t, c, h⟩ := trim_ex _ (nf w) (Nat.le_refl _)
  obtain ⟨t', c', h'⟩ := trim_ex _ (nf (a :: (w ++ [a]))) (Nat.le_refl _)
  rw [RdW.of h, RdW.of h']
  have e : nf (a :: (w ++ [a])) = lm a (rm a (nf w)) := congrArg (lm a) (nf_snoc a w)
  rw [e] at h'
  refine conj (nf_red w) ?_ h h' x
  rcases ev with z | z
  · exact .inl z
  · exact .inr (by rw [nf_len]; exact z)
theorem RdW.turn {odd : Bool} {s : Nat} {x : List Int} (u : List Int) (a : Int) (ev : odd = true ∨ (u.length + 1) % 2 = 0) : RdW odd s (a :: u) x ↔ RdW odd (s + 1) (u ++ [a]) x := by
  have h1 := RdW.ends (odd := odd) (s := s) (x := x) (u ++ [a]) a (by
    rcases ev with z | z
    · exact .inl z
    · exact .inr (by rw [List.length_append]; exact z))
  have h2 : nf (a :: (u ++ [a] ++ [a])) = nf (a :: u) := by
    have := nf_strike (a :: u) [] a
    rw [List.append_nil] at this
    rw [← this, List.append_assoc] <;> rfl
  refine Iff.trans ?_ h1
  unfold RdW
  rw [h2]
/-- read from another letter on -/
theorem RdW.rot {odd : Bool} {x : List Int} : ∀ (j : Nat) (s : Nat) (w : List Int), j ≤ w.length → (odd = true ∨ w.length % 2 = 0) → (RdW odd s w x ↔ RdW odd (s + j) (CoreX.rot w j) x)
  | 0, s, w, _, _ => by rw [rot_zero, Nat.add_zero]
  | j + 1, s, w, h, ev => by
    cases w with
    | nil => simp at h
    | cons a u =>
      have hj : j ≤ u.length := by simp at h; exact h
      have h1 := RdW.turn (odd := odd) (s := s) (x := x) u a ev
      have h2 := RdW.rot (odd := odd) (x := x) j (s + 1) (u ++ [a]) (by rw [List.length_append]; omega) (by rw [List.length_append]; exact ev)
      rw [rot_next a u hj] at h2
      refine h1.trans (h2.trans ?_)
      rw [show s + 1 + j = s + (j + 1) by omega]
/-! ### the core: the least reading, nothing where there is none -/
def IsCore (odd : Bool) (s : Nat) (w m : List Int) : Prop := ((∀ x, ¬ RdW odd s w x) ∧ m = []) ∨ ∃ L, (∀ x, x ∈ L ↔ RdW odd s w x) ∧ Least m L
theorem IsCore.same {odd odd' : Bool} {s s' : Nat} {w w' m m' : List Int} (h : IsCore odd s w m) (h' : IsCore odd' s' w' m') (e : ∀ x, RdW odd s w x ↔ RdW odd' s' w' x) : m = m' := by
  rcases h with ⟨n, rfl⟩ | ⟨L, hL, l⟩
  · rcases h' with ⟨_, rfl⟩ | ⟨L', hL', l'⟩
    · rfl
    · exact absurd ((e _).mpr ((hL' _).mp l'.mem)) (n _)
  · rcases h' with ⟨n', rfl⟩ | ⟨L', hL', l'⟩
    · exact absurd ((e _).mp ((hL _).mp l.mem)) (n' _)
    · exact l.same l' fun x => (hL x).trans ((e x).trans (hL' x).symm)
end CoreX
end

-- TupCut
section
set_option Elab.async false
set_option linter.all false
set_option maxRecDepth 100000
set_option maxHeartbeats 4000000
/-! TupCut: t[:n], t[n:], t a tuple, whether the whole or a part. -/
namespace TupX
open PySem PySem.Spec PyProof.Rows L2 NdefX R
theorem cut_to (xs : List V) (m : Nat) : cutV xs none (some (m : Int)) = xs.take m := by
  unfold cutV
  rw [HT.sIx_nat, HT.sIx_none, List.drop_zero, Nat.sub_zero]
  rcases Nat.le_total m xs.length with h | h
  · rw [Nat.min_eq_left h]
  · rw [Nat.min_eq_right h, List.take_of_length_le (Nat.le_refl _), List.take_of_length_le h]
theorem cut_from (xs : List V) (m : Nat) : cutV xs (some (m : Int)) none = xs.drop m := by
  unfold cutV
  rw [HT.sIx_nat, HT.sIx_none]
  rcases Nat.le_total m xs.length with h | h
  · rw [Nat.min_eq_left h, List.take_of_length_le (by rw [List.length_drop]; exact Nat.le_refl _)]
  · rw [Nat.min_eq_right h, List.drop_of_length_le (Nat.le_refl _), List.drop_of_length_le h, List.take_nil]
theorem sl_any {K : PySem.W.Frag} {TT : List NTab} {H : Hp} {l : Addr} {xs : List V} {lo hi : Option Int} {Q : VK} (hx : H l = some (.tup xs))
    (h : ∀ q G, Ext TT none H G → G q = some (.tup (cutV xs lo hi)) → Q (.ref q) G) : rSlA K (.ref l) lo hi H Q := by
  refine ⟨l, xs, rfl, SqT.of hx, fun e => h l H (Ext.refl ..) ?_, fun _ p np => h p _ (Ext.new np) upd_same⟩
  have e2 : cutV xs lo hi = xs := by
    unfold cutV
    rw [e.1, e.2, List.drop_zero, Nat.sub_zero, List.take_of_length_le (Nat.le_refl _)]
  rw [e2]
  exact hx
end TupX
end

-- Grid
section
set_option Elab.async false
set_option linter.all false
set_option maxRecDepth 100000
set_option maxHeartbeats 4000000
/-! Grid: a list of lists of numbers, changed in place. -/
namespace GridX
open PySem PySem.Spec PyProof.Rows L2 NdefX R
def nV (n : Nat) : V := .int (n : Int)
def rowV (W : Nat) (g : Nat → Nat) : List V := (List.range W).map fun m => nV (g m)
theorem row_len (W : Nat) (g : Nat → Nat) : (rowV W g).length = W := by unfold rowV; simp
theorem row_at {W m : Nat} (g : Nat → Nat) (h : m < W) : (rowV W g)[m]? = some (nV (g m)) := by
  unfold rowV
  rw [List.getElem?_map, List.getElem?_range h] <;> rfl
theorem row_atI {W m : Nat} (g : Nat → Nat) (h : m < W) : atI (rowV W g) (m : Int) = some (nV (g m)) := atI_nat (row_at g h)
theorem row_succ (W : Nat) (g : Nat → Nat) : rowV W g ++ [nV (g W)] = rowV (W + 1) g := by
  unfold rowV
  rw [List.range_succ, List.map_append] <;> rfl
theorem row_congr {W : Nat} {g g' : Nat → Nat} (h : ∀ m, m < W → g m = g' m) : rowV W g = rowV W g' := by
  unfold rowV
  refine List.map_congr_left fun m hm => ?_
  rw [h m (List.mem_range.mp hm)]
theorem row_set {W m : Nat} (g : Nat → Nat) (v : Nat) (h : m < W) : (rowV W g).set m (nV v) = rowV W (fun x => if x = m then v else g x) := by
  apply List.ext_getElem?
  intro i
  by_cases hi : i < W
  · rw [row_at _ hi, List.getElem?_set]
    by_cases e : m = i
    · subst e
      rw [if_pos rfl, if_pos (by rw [row_len]; exact hi), if_pos rfl]
    · rw [if_neg e, row_at _ hi, if_neg (fun z => e z.symm)]
  · rw [List.getElem?_eq_none (by rw [List.length_set, row_len]; omega), List.getElem?_eq_none (by rw [row_len]; omega)]
theorem ixN_nat {n m : Nat} (h : m < n) : ixN n (m : Int) = some m := by
  unfold ixN
  rw [if_pos (by omega), if_pos (by omega)]
  simp
structure Grid (H : Hp) (a : Addr) (R W : Nat) (f : Nat → Nat → Nat) (ads : List Addr) : Prop where
  top : H a = some (.lst (ads.map V.ref))
  len : ads.length = R
  row : ∀ p r, ads[p]? = some r → H r = some (.lst (rowV W (f p)))
  nd : ads.Nodup
  out : a ∉ ads
theorem Grid.ext {TT : List NTab} {H H1 : Hp} {a : Addr} {R W : Nat} {f : Nat → Nat → Nat} {ads : List Addr} (g : Grid H a R W f ads) (x : Ext TT none H H1) : Grid H1 a R W f ads :=
  ⟨x.lst g.top, g.len, fun p r h => x.lst (g.row p r h), g.nd, g.out⟩
theorem Grid.congr {H : Hp} {a : Addr} {R W : Nat} {f f' : Nat → Nat → Nat} {ads : List Addr} (g : Grid H a R W f ads) (h : ∀ p m, p < R → m < W → f p m = f' p m) : Grid H a R W f' ads :=
  ⟨g.top, g.len, fun p r e => by
    have hp : p < R := by
      rw [← g.len]
      exact (List.getElem?_eq_some_iff.mp e).1
    rw [g.row p r e, row_congr fun m hm => h p m hp hm], g.nd, g.out⟩
/-- where the row p stands -/
theorem Grid.at {H : Hp} {a : Addr} {R W : Nat} {f : Nat → Nat → Nat} {ads : List Addr} (g : Grid H a R W f ads) {p : Nat} (h : p < R) : ∃ r, ads[p]? = some r ∧ atI (ads.map V.ref) (p : Int) = some (.ref r) ∧ H r = some (.lst (rowV W (f p))) ∧ r ∈ ads := by
  have hl : p < ads.length := by rw [g.len]; exact h
  refine ⟨ads[p], List.getElem?_eq_getElem hl, atI_nat ?_, g.row p _ (List.getElem?_eq_getElem hl), List.getElem_mem hl⟩
  rw [List.getElem?_map, List.getElem?_eq_getElem hl] <;> rfl
theorem Grid.put {H : Hp} {a r : Addr} {R W p m : Nat} {f : Nat → Nat → Nat} {ads : List Addr} (g : Grid H a R W f ads) (hp : ads[p]? = some r) (hm : m < W) (v : Nat) :
    Grid (upd H r (.lst ((rowV W (f p)).set m (nV v)))) a R W (fun p' m' => if p' = p ∧ m' = m then v else f p' m') ads := by
  have hr : r ∈ ads := List.mem_of_getElem? hp
  refine ⟨?_, g.len, fun p' r' e => ?_, g.nd, g.out⟩
  · rw [upd_ne (fun z => g.out (by rw [z]; exact hr))]
    exact g.top
  · by_cases ep : p' = p
    · subst ep
      rw [hp] at e
      cases e
      rw [upd_same, row_set _ _ hm]
      refine congrArg (fun z => some (HO.lst z)) (row_congr fun x _ => ?_)
      by_cases ex : x = m
      · rw [if_pos ex, if_pos ⟨rfl, ex⟩]
      · rw [if_neg ex, if_neg (fun z => ex z.2)]
    · have ne : r' ≠ r := fun z => by
        subst z
        obtain ⟨h1, e1⟩ := List.getElem?_eq_some_iff.mp e
        obtain ⟨h2, e2⟩ := List.getElem?_eq_some_iff.mp hp
        have q := List.pairwise_iff_getElem.mp (show ads.Pairwise (· ≠ ·) from g.nd)
        rcases Nat.lt_trichotomy p' p with lt | eq | lt
        · exact q p' p h1 h2 lt (e1.trans e2.symm)
        · exact ep eq
        · exact q p p' h2 h1 lt (e2.trans e1.symm)
      rw [upd_ne ne, g.row p' r' e]
      refine congrArg (fun z => some (HO.lst z)) (row_congr fun x _ => ?_)
      rw [if_neg (fun z => ep z.1)]
theorem Grid.push {H : Hp} {a r : Addr} {R W : Nat} {f : Nat → Nat → Nat} {ads : List Addr} (g : Grid H a R W f ads) (hn : r ∉ ads) (ha : r ≠ a) (hr : H r = some (.lst (rowV W (f R)))) :
    Grid (upd H a (.lst (ads.map V.ref ++ [.ref r]))) a (R + 1) W f (ads ++ [r]) := by
  refine ⟨?_, by rw [List.length_append, g.len] <;> rfl, fun p r' e => ?_, ?_, ?_⟩
  · rw [upd_same, List.map_append] <;> rfl
  · by_cases hp : p < ads.length
    · rw [List.getElem?_append_left hp] at e
      rw [upd_ne (fun z => g.out (by rw [← z]; exact List.mem_of_getElem? e))]
      exact g.row p r' e
    · have hp2 : p < (ads ++ [r]).length := (List.getElem?_eq_some_iff.mp e).1
      rw [List.length_append] at hp2
      have : p = ads.length := by simp only [List.length_cons, List.length_nil] at hp2; omega
      subst this
      rw [List.getElem?_append_right (Nat.le_refl _), Nat.sub_self] at e
      cases e
      rw [upd_ne ha, g.len]
      exact hr
  · rw [List.nodup_append]
    refine ⟨g.nd, by simp, fun x hx y hy z => ?_⟩
    cases List.mem_singleton.mp hy
    subst z
    exact hn hx
  · intro z
    rcases List.mem_append.mp z with z | z
    · exact g.out z
    · exact ha (List.mem_singleton.mp z).symm
end GridX
end

-- Places
section
set_option Elab.async false
set_option linter.all false
set_option maxRecDepth 100000
set_option maxHeartbeats 4000000
namespace R
open PySem PySem.Spec PyProof.Rows L2 LamX NdefX LamP CoreX TupX
open GridX (nV)
/-! the places that are left when like neighbours are struck, and like ends -/
def lets (w : List Int) (ps : List Nat) : List Int := ps.map fun i => w.getD i 0
theorem getD_at {w : List Int} {i : Nat} (h : i < w.length) : w.getD i 0 = w[i] := by rw [List.getD_eq_getElem?_getD, List.getElem?_eq_getElem h] <;> rfl
theorem at_row {w : List Int} {i : Nat} (h : i < w.length) : atI (w.map V.int) (i : Int) = some (.int (w.getD i 0)) := by
  refine atI_nat ?_
  rw [List.getElem?_map, List.getElem?_eq_getElem h, getD_at h] <;> rfl
theorem at_last (m : List V) (x : V) : atI (m ++ [x]) (-1) = some x := by
  unfold atI ixN
  rw [if_neg (by omega), List.length_append, List.length_cons, List.length_nil, if_pos (by omega)]
  show (m ++ [x])[((-1 : Int) + ((m.length + (0 + 1) : Nat) : Int)).toNat]? = some x
  rw [show ((-1 : Int) + ((m.length + (0 + 1) : Nat) : Int)).toNat = m.length by omega, List.getElem?_append_right (Nat.le_refl _), Nat.sub_self] <;> rfl
theorem lm_le (a : Int) : ∀ st : List Int, (lm a st).length ≤ st.length + 1
  | [] => Nat.le_refl _
  | b :: r => by
    show (if a = b then r else a :: b :: r).length ≤ _
    split <;> simp only [List.length_cons] <;> omega
theorem nf_le : ∀ w : List Int, (nf w).length ≤ w.length
  | [] => Nat.le_refl _
  | a :: w => by
    have h1 := nf_le w
    have h2 := lm_le a (nf w)
    show (lm a (nf w)).length ≤ w.length + 1
    omega
theorem lets_concat (w : List Int) (m : List Nat) (p : Nat) : lets w (m ++ [p]) = lets w m ++ [w.getD p 0] := by unfold lets; rw [List.map_append] <;> rfl
/-- the places left behind: in order, where they stand, of which sides -/
structure Pl (w : List Int) (s n : Nat) (ps : List Nat) : Prop where
  lt : ∀ p ∈ ps, p < n
  par : ∀ j p, ps[j]? = some p → p % 2 = (s + j) % 2
theorem Pl.snoc {w : List Int} {n : Nat} {ps : List Nat} (h : Pl w 0 n ps) (e : n % 2 = ps.length % 2) : Pl w 0 (n + 1) (ps ++ [n]) := by
  refine ⟨fun p hp => ?_, fun j p hj => ?_⟩
  · rcases List.mem_append.mp hp with z | z
    · exact Nat.lt_succ_of_lt (h.lt p z)
    · rw [List.mem_singleton.mp z]; omega
  · by_cases z : j < ps.length
    · rw [List.getElem?_append_left z] at hj
      exact h.par j p hj
    · have jl := (List.getElem?_eq_some_iff.mp hj).1
      rw [List.length_append] at jl
      simp only [List.length_cons, List.length_nil] at jl
      have : j = ps.length := by omega
      subst this
      rw [List.getElem?_append_right (Nat.le_refl _), Nat.sub_self] at hj
      cases hj
      omega
theorem Pl.init {w : List Int} {s n : Nat} {m : List Nat} {p : Nat} (h : Pl w s n (m ++ [p])) : Pl w s n m :=
  ⟨fun q hq => h.lt q (List.mem_append_left _ hq), fun j q hj => h.par j q (by rw [List.getElem?_append_left (List.getElem?_eq_some_iff.mp hj).1]; exact hj)⟩
theorem Pl.tail {w : List Int} {s n : Nat} {m : List Nat} {p : Nat} (h : Pl w s n (p :: m)) : Pl w (s + 1) n m :=
  ⟨fun q hq => h.lt q (List.mem_cons_of_mem _ hq), fun j q hj => by
    have := h.par (j + 1) q (by rw [List.getElem?_cons_succ]; exact hj)
    omega⟩
theorem Pl.mono {w : List Int} {s n n' : Nat} {ps : List Nat} (h : Pl w s n ps) (l : n ≤ n') : Pl w s n' ps := ⟨fun p hp => Nat.lt_of_lt_of_le (h.lt p hp) l, h.par⟩
section
variable {P : Program} {w : World} {K : PySem.W.Frag} {mg : Str → Option Value} {base : Heap}
def spPlaces (TT : List NTab) : Sp := fun vs H Q _ => ∃ (t : Addr) (ws : List Int), vs = [.ref t] ∧ H t = some (.tup (ws.map V.int)) ∧ ws.length ≤ 100 ∧
  ∀ l H' ps n, Ext TT none H H' → H' l = some (.lst (ps.map nV)) → Trim n (nf ws) (lets ws ps) → Pl ws n ws.length ps → Q (.ref l) H'
theorem ok_places_left (T : Txt K mg) (TT : List NTab) : FnOk P w K mg base CX0 1 T.a_places_left T.d_places_left ["row"] (spPlaces TT) := by
  refine T.F_places_left.ok sc_places_left (fun vs H Q E h => ?_) (fun cdv A outer s H vs Q E hr h => ?_)
  · obtain ⟨t, ws, rfl, _⟩ := h
    rfl
  · obtain ⟨t, ws, rfl, ht, hl, k⟩ := h
    have nd := sc_places_left.nd
    refine ⟨_, (pss_cons (ps_set (i := 1) nd rfl (Or.inl rfl) (pe_lst pa_nil))
        (pss_cons (ps_for PassesOwn.never rfl (pi_enumT (by rfl) T.n_enumerate (pa_cons (pv 0) pa_nil)) (pg_tup rfl (pgs_cons (pg_name (i := 2) nd rfl (Or.inl rfl)) (pgs_cons (pg_name (i := 3) nd rfl (Or.inl rfl)) pgs_nil)))
          (pss_one (ps_if (PW.pt (pw_and (pt_truth (pv 1) (by intro _; rfl)) (pw_and1 (pt_cmpR op_eq (pe_ix ix_tup (pv 0) (pe_ix ix_list (pv 1) (pe_un un_neg pe_int) (fun _ _ => rfl)) (fun _ _ => rfl)) (pv 3) (nomark _))))) (pss_one (ps_expr (pe_bm0 PySem.F.plainAttrs_list PySem.F.slot_list_pop PySem.F.type_list_pop mt_pop (pv 1)))) (pss_one (ps_expr (pe_bm PySem.F.plainAttrs_list PySem.F.slot_list_append PySem.F.type_list_append mt_append (pv 1) (pa_cons (pv 2) pa_nil)))))))
        (pss_cons (ps_while PassesOwn.never (PW.pt (pw_and (pt_cmpR op_ge (pe_callB call_len_seq (by rfl) T.n_len PySem.boot_len (pa_cons (pv 1) pa_nil)) pe_int (nomark _)) (pw_and1 (pt_cmpR op_eq (pe_ix ix_tup (pv 0) (pe_ix ix_list (pv 1) pe_int (fun _ _ => rfl)) (fun _ _ => rfl)) (pe_ix ix_tup (pv 0) (pe_ix ix_list (pv 1) (pe_un un_neg pe_int) (fun _ _ => rfl)) (fun _ _ => rfl)) (nomark _)))))
          (pss_one (ps_set (i := 1) nd rfl (Or.inl rfl) (pe_slice sl_list (pv 1) (po_some pe_int) (po_some (pe_un un_neg pe_int))))))
        (pss_one (ps_ret (pv 1)))))), ?_⟩
    refine ⟨Nat.zero_le _, fun l nl => ?_⟩
    obtain ⟨x0, h0⟩ := newX (TT := TT) (so := none) (o := .lst []) (Ext.refl _ _ H) nl
    refine ⟨_, rfl, t, _, rfl, SqT.of (x0.tup ht), for_it (walk_enumT (K := K) (a := t) (xs := ws.map V.int)) (fun i σ H' => ∃ (ps : List Nat) (u2 u3 : Option V), σ = [some (.ref t), some (.ref l), u2, u3] ∧ Ext TT none H H' ∧ H' l = some (.lst (ps.map nV)) ∧ lets ws ps = nf (ws.take i) ∧ Pl ws 0 i ps)
      ⟨[], none, none, rfl, x0, h0, rfl, ⟨(fun _ h => nomatch h), fun j p h => by simp at h⟩⟩ (fun i σ H' _ ⟨_, _, _, _, x, _⟩ => SqT.of (x.tup ht)) ?_ ?_⟩
    · rintro i x σ H1 H2 hi ⟨ps, u2, u3, rfl, x1, h1, el, pl⟩ ⟨Ta, y, z, rfl, nT, rfl, hy, hz⟩
      cases hy
      rw [List.length_map] at hi
      have hz : (ws.map V.int)[i]? = some z := hz
      rw [List.getElem?_map, List.getElem?_eq_getElem hi] at hz
      have hz : V.int ws[i] = z := Option.some.inj hz
      subst hz
      have x2 : Ext TT none H (upd H1 Ta (.tup [.int (i : Nat), .int ws[i]])) := x1.trans (Ext.new nT)
      have h2 : upd H1 Ta (.tup [.int (i : Nat), .int ws[i]]) l = some (.lst (ps.map nV)) := (upd_ne (ne_of_none h1 nT)).trans h1
      have hT : upd H1 Ta (.tup [.int (i : Nat), .int ws[i]]) Ta = some (.tup [.int (i : Nat), .int ws[i]]) := upd_same
      generalize upd H1 Ta (.tup [.int (i : Nat), .int ws[i]]) = H2 at x2 h2 hT ⊢
      have lenI : (nf (ws.take i)).length % 2 = i % 2 := by rw [nf_len, List.length_take]; omega
      have lenP : ps.length = (nf (ws.take i)).length := by rw [← el]; unfold lets; rw [List.length_map]
      have lenP2 : ps.length ≤ 100 := by
        have := nf_le (ws.take i)
        rw [List.length_take] at this
        omega
      have next : nf (ws.take (i + 1)) = rm ws[i] (nf (ws.take i)) := by
        rw [List.take_succ, List.getElem?_eq_getElem hi]
        exact nf_snoc _ _
      refine ⟨Ta, _, rfl, SqT.of hT, rfl, _, _, rfl, _, _, rfl, rfl, ?_⟩
      rcases List.eq_nil_or_concat ps with e | ⟨m, p, e⟩
      · subst e
        refine ⟨_, rfl, _, .inl ⟨_, SqL.of h2, rfl⟩, ?_⟩
        refine iteF' rfl ?_
        refine ⟨_, rfl, Or.inl ⟨rfl, _, SqL.of h2⟩, _, rfl, l, _, _, rfl, rfl, h2, by show 0 < 2 ^ 24; decide, [i], _, _, rfl, x2.mutL nl h2 (fun z => nomatch z), upd_same, ?_, ?_⟩
        · rw [next, ← el]
          show [ws.getD i 0] = [ws[i]]
          rw [getD_at hi]
        · exact pl.snoc (by rw [lenP, lenI])
      · rw [List.concat_eq_append] at e
        subst e
        have pi : p < i := pl.lt p (List.mem_append_right _ (List.mem_singleton.mpr rfl))
        have h2' : H2 l = some (.lst (m.map nV ++ [nV p])) := by rw [h2, List.map_append] <;> rfl
        rw [lets_concat] at el
        have ne0 : (m.map nV ++ [nV p]).isEmpty = false := by cases m <;> rfl
        refine ⟨_, rfl, _, .inl ⟨_, SqL.of h2', rfl⟩, ?_⟩
        rw [ne0]
        refine iteT' rfl ?_
        refine ⟨_, rfl, _, rfl, _, rfl, l, _, _, _, rfl, rfl, SqL.of h2', at_last _ _, t, _, _, _, rfl, rfl, SqT.of (x2.tup ht), at_row (by omega), _, rfl, rfl, _, rfl, ?_⟩
        rw [← el, rm_concat] at next
        refine iteB (fun g => ?_) (fun g => ?_)
        · have g : ws.getD p 0 = ws[i] := by simpa using g
          rw [if_pos g] at next
          refine ⟨_, rfl, Or.inl ⟨rfl, _, SqL.of h2'⟩, l, _, nV p, rfl, rfl, h2', by simp, m, _, _, rfl, x2.mutL nl h2' (fun z => nomatch z), ?_, next.symm, pl.init.mono (Nat.le_succ _)⟩
          rw [upd_same, List.dropLast_concat]
        · have g : ¬ ws.getD p 0 = ws[i] := by simpa using g
          rw [if_neg g] at next
          refine ⟨_, rfl, Or.inl ⟨rfl, _, SqL.of h2'⟩, _, rfl, l, _, _, rfl, rfl, h2', by rw [List.length_append, List.length_map]; rw [List.length_append] at lenP2; simp only [List.length_cons, List.length_nil] at lenP2 ⊢; exact small1000 (by omega), m ++ [p] ++ [i], _, _, rfl, x2.mutL nl h2' (fun z => nomatch z), ?_, ?_, pl.snoc (by rw [lenP, lenI])⟩
          · rw [upd_same, List.map_append, List.map_append] <;> rfl
          · rw [next, lets_concat, lets_concat, getD_at hi, List.append_assoc] <;> rfl
    · rintro σ H1 ⟨ps, u2, u3, rfl, x1, h1, el, pl⟩
      rw [List.length_map, List.take_length] at el
      rw [List.length_map] at pl
      dsimp only
      refine seq_cut (fun σ H' => ∃ (l : Addr) (ps : List Nat) (n : Nat), σ = [some (.ref t), some (.ref l), u2, u3] ∧ Ext TT none H H' ∧ H' l = some (.lst (ps.map nV)) ∧ Trim n (nf ws) (lets ws ps) ∧ Pl ws n ws.length ps) (fun R join => ?_) ?_
      · refine ⟨fun m σ H' => ∃ (l : Addr) (ps : List Nat) (n : Nat), m = ps.length ∧ σ = [some (.ref t), some (.ref l), u2, u3] ∧ Ext TT none H H' ∧ H' l = some (.lst (ps.map nV)) ∧ (∀ n' c, Trim n' (lets ws ps) c → Trim (n' + n) (nf ws) c) ∧ Pl ws n ws.length ps ∧ ps.length ≤ 100, ⟨ps.length, l, ps, 0, rfl, rfl, x1, h1, fun n' c q => by rw [el] at q; exact q, pl, ?_⟩, ?_⟩
        · have := nf_le ws
          rw [← el] at this
          unfold lets at this
          rw [List.length_map] at this
          omega
        · rintro m σ H2 ⟨l2, ps2, n2, rfl, rfl, x2, h2, tr, pl2, len2⟩
          have lenV : (ps2.map nV).length = ps2.length := List.length_map _
          refine ⟨_, rfl, l2, _, rfl, .inl (SqL.of h2), _, _, rfl, rfl, _, rfl, ?_⟩
          rw [lenV]
          refine iteB (fun g => ?_) (fun g => ?_)
          · have g : 2 ≤ ps2.length := by
              have := of_decide_eq_true g
              omega
            obtain ⟨p, m, q, rfl⟩ : ∃ p m q, ps2 = p :: (m ++ [q]) := by
              cases ps2 with
              | nil => simp at g
              | cons p r =>
                rcases List.eq_nil_or_concat r with e | ⟨m, q, e⟩
                · subst e; simp at g
                · exact ⟨p, m, q, by rw [e, List.concat_eq_append]⟩
            have pi : p < ws.length := pl2.lt p List.mem_cons_self
            have qi : q < ws.length := pl2.lt q (List.mem_cons_of_mem _ (List.mem_append_right _ (List.mem_singleton.mpr rfl)))
            have h2' : H2 l2 = some (.lst (nV p :: m.map nV ++ [nV q])) := by rw [h2, List.map_cons, List.map_append] <;> rfl
            have el2 : lets ws (p :: (m ++ [q])) = ws.getD p 0 :: (lets ws m ++ [ws.getD q 0]) := by
              show ws.getD p 0 :: lets ws (m ++ [q]) = _
              rw [lets_concat]
            have a0 : atI (nV p :: m.map nV ++ [nV q]) (0 : Int) = some (nV p) := atI_nat (j := 0) rfl
            refine ⟨_, rfl, _, rfl, l2, _, _, _, rfl, rfl, SqL.of h2', a0, t, _, _, _, rfl, rfl, SqT.of (x2.tup ht), at_row pi, ?_⟩
            refine ⟨_, rfl, _, rfl, _, rfl, l2, _, _, _, rfl, rfl, SqL.of h2', at_last (nV p :: m.map nV) (nV q), t, _, _, _, rfl, rfl, SqT.of (x2.tup ht), at_row qi, rfl, _, rfl, ?_⟩
            refine iteB (fun g3 => ?_) (fun g3 => ?_)
            · have g3 : ws.getD p 0 = ws.getD q 0 := by simpa using g3
              refine ⟨_, fun σ' H' z => z, ?_⟩
              refine ⟨_, rfl, _, rfl, _, rfl, _, rfl, l2, _, rfl, SqL.of h2', fun l3 nl3 => ?_⟩
              have ecut : cutV (nV p :: m.map nV ++ [nV q]) (some 1) (some (-1)) = m.map nV := by
                unfold cutV
                have e1 : HT.sIx (nV p :: m.map nV ++ [nV q]).length 0 (some 1) = 1 := by
                  rw [show (1 : Int) = ((1 : Nat) : Int) from rfl, HT.sIx_nat]
                  simp
                have e2 : HT.sIx (nV p :: m.map nV ++ [nV q]).length (nV p :: m.map nV ++ [nV q]).length (some (-1)) = m.length + 1 := by
                  unfold HT.sIx
                  dsimp only
                  rw [if_pos (by decide)]
                  simp only [List.length_append, List.length_cons, List.length_nil, List.length_map]
                  omega
                rw [e1, e2]
                show (m.map nV ++ [nV q]).take (m.length + 1 - 1) = _
                rw [Nat.add_sub_cancel, ← List.length_map (f := nV) (as := m), List.take_left]
              refine ⟨m.length, by rw [List.length_cons, List.length_append]; omega, l3, m, n2 + 1, rfl, rfl, x2.trans (Ext.new nl3), ?_, fun n' c z => ?_, ?_, ?_⟩
              · rw [upd_same, ecut]
              · rw [el2, ← g3] at tr
                have := tr (n' + 1) c (.step z)
                rwa [show n' + 1 + n2 = n' + (n2 + 1) by omega] at this
              · exact pl2.tail.init
              · rw [List.length_cons, List.length_append] at len2
                omega
            · have g3 : ¬ ws.getD p 0 = ws.getD q 0 := by simpa using g3
              refine join _ _ ⟨l2, _, n2, rfl, x2, h2, ?_, pl2⟩
              have := tr 0 _ (.stop (st := lets ws (p :: (m ++ [q]))) (by rw [el2]; exact ends_cons g3))
              rwa [Nat.zero_add] at this
          · have g : ¬ 2 ≤ ps2.length := by
              have := of_decide_eq_false g
              omega
            refine iteF ?_
            refine join _ _ ⟨l2, ps2, n2, rfl, x2, h2, ?_, pl2⟩
            have := tr 0 _ (.stop (st := lets ws ps2) (fun z => g (by have := z.1; unfold lets at this; rwa [List.length_map] at this)))
            rwa [Nat.zero_add] at this
      · rintro σ H2 ⟨l2, ps2, n2, rfl, x2, h2, tr, pl2⟩
        exact ⟨_, rfl, k l2 _ ps2 n2 x2 h2 tr pl2⟩
end
end R
end

-- Blk
section
set_option Elab.async false
set_option linter.all false
set_option maxRecDepth 100000
set_option maxHeartbeats 4000000
/-! Blk: rules that speak of the written part, with that part named: for the insides of comprehensions. -/
namespace BlkX
open PySem PySem.Spec PyProof.Rows L2
variable {X : Cx} (K : PySem.W.Frag)
theorem ixl (h : X.K = K := by rfl) : IxR X (rIxL K) := h ▸ ix_list
theorem ixt (h : X.K = K := by rfl) : IxR X (rIxT K) := h ▸ ix_tup
theorem csum (hc : X.calm = true := by rfl) (h : X.K = K := by rfl) : CallR X (.builtin "sum") (rSum K) := h ▸ cr_sum hc
theorem call (hc : X.calm = true := by rfl) (h : X.K = K := by rfl) : CallR X (.builtin "all") (rAll K) := h ▸ cr_all hc
theorem cany (hc : X.calm = true := by rfl) (h : X.K = K := by rfl) : CallR X (.builtin "any") (rAny K) := h ▸ cr_any hc
def rLen : List V → Hp → VK → Prop := fun xs H Q => ∃ p ys, xs = [.ref p] ∧ (SqL K H p ys ∨ SqT K H p ys) ∧ Q (.int ys.length) H
theorem clen (h : X.K = K := by rfl) : CallR X (.builtin "len") (rLen K) := by
  subst h
  exact call_len_seq
def rTupO : List V → Hp → VK → Prop := fun xs H Q => ∃ p ys, xs = [.ref p] ∧ ((SqL K H p ys ∧ ∀ l, H l = none → Q (.ref l) (upd H l (.tup ys))) ∨ (SqT K H p ys ∧ Q (.ref p) H))
theorem ctup (h : X.K = K := by rfl) : CallR X (.type "tuple") (rTupO K) := by
  subst h
  exact call_tuple_of
theorem pil {tg l : Expr} {tl : TE} (hl : PE X l tl) (h : X.K = K := by rfl) : PI X tg l (iList K tl) := h ▸ pi_list hl
theorem pit {tg l : Expr} {tl : TE} (hl : PE X l tl) (h : X.K = K := by rfl) : PI X tg l (iTup K tl) := h ▸ pi_tup hl
theorem sll (h : X.K = K := by rfl) : SlR X (rSlL K) := h ▸ sl_list
theorem slt (h : X.K = K := by rfl) : SlR X (rSlA K) := h ▸ sl_tupA
theorem catT (h : X.K = K := by rfl) : OpR X (binaryOp .Add) (rCatT K) := h ▸ op_catT
def tTru (ta : TE) : TT := fun σ H Q => ta σ H fun x H' => ∃ k, TruV K x H' k ∧ Q k H'
theorem ptru {a : Expr} {ta : TE} (ha : PE X a ta) (he : ∀ whole, isTrue a X.env whole = (do let v ← whole; standAt a.pos; holding [v] (truthy v)) := by intro _; rfl) (h : X.K = K := by rfl) : PT X a (tTru K ta) := h ▸ pt_truth ha he
end BlkX
end

-- CoreOf
section
set_option Elab.async false
set_option linter.all false
set_option maxRecDepth 100000
set_option maxHeartbeats 4000000
namespace R
open PySem PySem.Spec PyProof.Rows L2 LamX NdefX LamP CoreX TupX MinX BlkX
open GridX (nV)
/-! the core of a row -/
def Let6 (m : Int) : Prop := 0 ≤ m ∧ m < 6
def oddB (n : Nat) : Bool := n % 2 == 1
section
variable {P : Program} {w : World} {K : PySem.W.Frag} {mg : Str → Option Value} {base : Heap}
def spCore (T : Txt K mg) (TT : List NTab) : Sp := fun vs H Q E => ∃ (t : Addr) (ws : List Int), vs = [.ref t] ∧ H t = some (.tup (ws.map V.int)) ∧ ws.length ≤ 100 ∧
  (¬ (3 ≤ ws.length ∧ ws.length ≤ 40) → Rz TT E H T.C_BadSize fun v _ => v = .int (ws.length : Int)) ∧
  (3 ≤ ws.length → ws.length ≤ 40 → ∀ i, (∀ j, j < i → Let6 (ws.getD j 0)) → i < ws.length → ¬ Let6 (ws.getD i 0) → Rz TT E H T.C_BadCoat fun v _ => v = .int (i : Int)) ∧
  (3 ≤ ws.length → ws.length ≤ 40 → (∀ j, j < ws.length → Let6 (ws.getD j 0)) → ∀ v H' m, Ext TT none H H' → Tp H' v (rowI m) → IsCore (oddB ws.length) 0 ws m → Q v H')
theorem ok_core_of (T : Txt K mg) (TT : List NTab) : FnOk P w K mg base (L2.CX P w) 3 T.a_core_of T.d_core_of ["row"] (spCore T TT) := by
  refine T.F_core_of.okX sc_core_of (fun vs H Q E h => ?_) (fun cdv A outer s H vs Q E hr h => ?_)
  · obtain ⟨t, ws, rfl, _⟩ := h
    rfl
  · obtain ⟨t, ws, rfl, ht, hl, k1, k2, k3⟩ := h
    have nd := sc_core_of.nd
    refine ⟨_, (pss_cons (ps_if (pt_not (pt_chain op_le op_le (pe_glob (v := .int 3) rfl T.c_SHORTEST_ROW ⟨_, rfl⟩) (pe_callB call_len_seq (by rfl) T.n_len PySem.boot_len (pa_cons (pv 0) pa_nil)) (pe_glob (v := .int 40) rfl T.c_LONGEST_ROW ⟨_, rfl⟩))) (pss_one (ps_raise rfl (takes_of rfl rfl rfl rfl) (pmk_err (C := T.C_BadSize) T T.e_BadSize (hr.mono (by decide)) rfl (pa_cons (pe_callB call_len_seq (by rfl) T.n_len PySem.boot_len (pa_cons (pv 0) pa_nil)) pa_nil)))) pss_nil)
        (pss_cons (ps_for (passes_of rfl) rfl (pi_enumT (by rfl) T.n_enumerate (pa_cons (pv 0) pa_nil)) (pg_tup rfl (pgs_cons (pg_name (i := 1) nd rfl (Or.inl rfl)) (pgs_cons (pg_name (i := 2) nd rfl (Or.inl rfl)) pgs_nil)))
          (pss_one (ps_if (pt_not (pt_val (pe_call (ok_is_below T TT) (hr.mono (by decide)) rfl T.g_is_below T.F_is_below.kp T.b_is_below .nil pass0 (pa_cons (pv 2) (pa_cons (pe_glob (v := .int 6) rfl T.c_MOST_COATS ⟨_, rfl⟩) pa_nil))))) (pss_one (ps_raise rfl (takes_of rfl rfl rfl rfl) (pmk_err (C := T.C_BadCoat) T T.e_BadCoat (hr.mono (by decide)) rfl (pa_cons (pv 1) pa_nil)))) pss_nil)))
        (pss_cons (ps_set (i := 3) nd rfl (Or.inl rfl) (pe_call (ok_places_left T TT) (hr.mono (by decide)) rfl T.g_places_left T.F_places_left.kp T.b_places_left .nil pass0 (pa_cons (pv 0) pa_nil)))
        (pss_cons (ps_set (i := 4) nd rfl (Or.inr rfl) (pe_callTy call_tuple_of (by rfl) T.n_tuple (by decide +kernel) (pa_cons (pe_lc (own := [("i", 1)]) (g := gName 1) (tt := tYes) rfl nd (pi_list (pv 3)) (blkOk_by (own := [("i", 1)]) (N := N_core_of) (sc := defScope s_core_of) (by decide +kernel)) (fun _ _ _ _ _ => (pg_name (i := 1) nd rfl (Or.inl rfl))) (fun _ _ _ _ _ => pts_nil) (fun _ _ _ _ _ => (pe_ix (ixt K) (pv 0) (pv 1) (fun _ _ => rfl)))) pa_nil)))
        (pss_cons (ps_setLc (i := 5) (own := [("i", 1), ("at", 6)]) (g := gTup K 2 (gCons (gName 6) (gCons (gName 1) gNil))) rfl nd rfl rfl (sw_true rfl rfl rfl (by decide +kernel)) (pi_enum (by rfl) T.n_enumerate (pa_cons (pv 3) pa_nil)) (blkOk_by (own := [("i", 1), ("at", 6)]) (N := N_core_of) (sc := defScope s_core_of) (by decide +kernel)) (fun _ _ _ _ _ => (pg_tup rfl (pgs_cons (pg_name (i := 6) nd rfl (Or.inl rfl)) (pgs_cons (pg_name (i := 1) nd rfl (Or.inl rfl)) pgs_nil)))) (fun _ _ _ _ _ => (pts_one (PW.pt (pw_or (pt_cmpR op_eq (pe_op op_and (pe_callB (clen K) (by rfl) T.n_len PySem.boot_len (pa_cons (pv 0) pa_nil)) pe_int) pe_int (nomark _)) (pw_or1 (pt_cmpR op_eq (pe_op op_and (pv 1) pe_int) pe_int (nomark _))))))) (fun _ _ _ _ _ => (pe_op (TupX.catAK K) (pe_slice (slt K) (pv 4) (po_some (pv 6)) po_none) (pe_slice (slt K) (pv 4) po_none (po_some (pv 6))))))
        (pss_one (ps_ret (pe_callBK (MinX.cr_minDT rfl (room65 hr)) (by rfl) T.n_min (by decide +kernel) (pa_cons (pv 5) pa_nil) (pk_cons (pe_tup pa_nil) pk_nil))))))))), ?_⟩
    have lenW : (ws.map V.int).length = ws.length := List.length_map _
    refine seq_cut (fun σ H' => σ = [some (.ref t), none, none, none, none, none, none] ∧ H = H' ∧ 3 ≤ ws.length ∧ ws.length ≤ 40) (fun R join => ?_) ?_
    · refine ⟨_, rfl, t, _, rfl, .inr (SqT.of ht), ?_⟩
      rw [lenW]
      refine ⟨_, _, rfl, rfl, _, rfl, ?_⟩
      refine iteB (fun h => ?_) (fun h => ?_)
      · refine ⟨_, _, rfl, rfl, _, rfl, ?_⟩
        refine iteB (fun h3 => ?_) (fun h3 => ?_)
        · have h' : ¬ (3 ≤ ws.length ∧ ws.length ≤ 40) := fun z => by simp at h3; omega
          refine ⟨_, rfl, t, _, rfl, .inr (SqT.of ht), _, rfl, fun d nd => k1 h' _ _ _ (Ext.new nd) upd_same (by rw [lenW])⟩
        · refine join _ _ ⟨rfl, rfl, ?_, ?_⟩
          · simp at h; omega
          · simp at h3; omega
      · refine ⟨_, rfl, ?_⟩
        refine iteT' rfl ?_
        have h' : ¬ (3 ≤ ws.length ∧ ws.length ≤ 40) := fun z => by simp at h; omega
        exact ⟨_, rfl, t, _, rfl, .inr (SqT.of ht), _, rfl, fun d nd => k1 h' _ _ _ (Ext.new nd) upd_same (by rw [lenW])⟩
    · rintro σ _ ⟨rfl, rfl, l3, l40⟩
      have k2 := k2 l3 l40
      have k3 := k3 l3 l40
      refine seq_cut (fun σ H' => ∃ u1 u2, σ = [some (.ref t), u1, u2, none, none, none, none] ∧ Ext TT none H H' ∧ ∀ j, j < ws.length → Let6 (ws.getD j 0)) (fun R join => ?_) ?_
      · refine ⟨_, rfl, t, _, rfl, SqT.of ht, for_it (walk_enumT (K := K) (a := t) (xs := ws.map V.int)) (fun i σ H' => ∃ (u1 u2 : Option V), σ = [some (.ref t), u1, u2, none, none, none, none] ∧ Ext TT none H H' ∧ ∀ j, j < i → Let6 (ws.getD j 0))
          ⟨none, none, rfl, Ext.refl .., fun j z => absurd z (Nat.not_lt_zero _)⟩ (fun i σ H' _ ⟨_, _, _, x, _⟩ => SqT.of (x.tup ht)) ?_ ?_⟩
        · rintro i x σ H1 H2 hi ⟨u1, u2, rfl, x1, ok⟩ ⟨Ta, y, z, rfl, nT, rfl, hy, hz⟩
          cases hy
          rw [lenW] at hi
          have hz : (ws.map V.int)[i]? = some z := hz
          rw [List.getElem?_map, List.getElem?_eq_getElem hi] at hz
          have hz : V.int ws[i] = z := Option.some.inj hz
          subst hz
          have x2 : Ext TT none H (upd H1 Ta (.tup [.int (i : Nat), .int ws[i]])) := x1.trans (Ext.new nT)
          refine ⟨Ta, _, rfl, SqT.of upd_same, rfl, _, _, rfl, _, _, rfl, rfl, ?_⟩
          generalize upd H1 Ta (.tup [.int (i : Nat), .int ws[i]]) = H2 at x2 ⊢
          refine ⟨_, rfl, ws[i], 6, rfl, ?_⟩
          refine ⟨_, rfl, ?_⟩
          refine iteB (fun g => ?_) (fun g => ?_)
          · have bad : ¬ Let6 (ws.getD i 0) := by
              rw [getD_at hi]
              intro z
              have : (decide (0 ≤ ws[i]) && decide (ws[i] < 6)) = true := by rw [decide_eq_true z.1, decide_eq_true z.2] <;> rfl
              rw [this] at g
              cases g
            exact ⟨_, rfl, _, rfl, fun d nd => k2 i ok hi bad _ _ _ (x2.trans (Ext.new nd)) upd_same rfl⟩
          · have good : Let6 (ws.getD i 0) := by
              rw [getD_at hi]
              have g : (decide (0 ≤ ws[i]) && decide (ws[i] < 6)) = true := by simpa using g
              rw [Bool.and_eq_true] at g
              exact ⟨of_decide_eq_true g.1, of_decide_eq_true g.2⟩
            refine ⟨_, _, rfl, x2, fun j hj => ?_⟩
            by_cases z : j < i
            · exact ok j z
            · rw [show j = i by omega]; exact good
        · rintro σ H1 ⟨u1, u2, rfl, x1, ok⟩
          rw [lenW] at ok
          exact join _ _ ⟨u1, u2, rfl, x1, ok⟩
      · rintro σ H1 ⟨u1, u2, rfl, x1, ok⟩
        have k := k3 ok
        have ht1 := x1.tup ht
        refine ⟨_, rfl, t, ws, rfl, ht1, hl, fun l H2 ps n x2 h2 tr pl => ?_⟩
        have ht2 := x2.tup ht1
        have lenP : ps.length ≤ ws.length := by
          have h1 := nf_le ws
          have h2 : ∀ {n st c}, Trim n st c → c.length ≤ st.length := by
            intro n st c q
            induction q with
            | stop _ => exact Nat.le_refl _
            | step _ ih => simp only [List.length_cons, List.length_append]; omega
          have h3 := h2 tr
          unfold lets at h3
          rw [List.length_map] at h3
          omega
        refine ⟨_, rfl, l, rfl, ⟨_, SqL.of h2⟩, fun D hD => lc_it (walk_list (xs := ps.map nV)) (fun j H' => Ext TT none H2 H' ∧ H' D = some (.lst ((lets ws (ps.take j)).map V.int))) ⟨Ext.new hD, upd_same⟩ ?_ (fun j x H4 H3 hj e y => ?_) (fun H3 e => ?_)⟩
        · rintro j H' _ ⟨x3, _⟩
          exact SqL.of (x3.lst h2)
        · obtain ⟨rfl, y⟩ := y
          obtain ⟨x3, h3⟩ := e
          rw [List.length_map] at hj
          have y : (ps.map nV)[j]? = some x := y
          rw [List.getElem?_map, List.getElem?_eq_getElem hj] at y
          have y : nV ps[j] = x := Option.some.inj y
          subst y
          refine ⟨rfl, ?_⟩
          dsimp only [tYes]
          refine iteT ?_
          refine ⟨_, rfl, _, rfl, t, _, _, _, rfl, rfl, SqT.of (x3.tup ht2), at_row (pl.lt _ (List.getElem_mem hj)), ?_⟩
          refine ⟨_, h3, by unfold lets; rw [List.length_map, List.length_map, List.length_take]; exact small1000 (by omega), x3.mutL hD h3 (fun z => nomatch z), ?_⟩
          rw [upd_same, List.take_succ, List.getElem?_eq_getElem hj]
          unfold lets
          rw [List.map_append, List.map_append] <;> rfl
        · obtain ⟨x3, h3⟩ := e
          rw [List.length_map, List.take_length] at h3
          obtain ⟨c, ec⟩ : ∃ c, c = lets ws ps := ⟨_, rfl⟩
          have lc : c.length = ps.length := by rw [ec]; exact List.length_map _
          rw [← ec] at h3 tr
          refine ⟨D, _, rfl, .inl ⟨SqL.of h3, fun lt nlt => ?_⟩⟩
          obtain ⟨x4, h4⟩ := newX (TT := TT) (so := none) (o := .tup (c.map V.int)) x3 nlt
          generalize upd H3 lt (.tup (c.map V.int)) = H4 at x4 h4 ⊢
          have hl4 := x4.lst h2
          have ht4 := x4.tup ht2
          refine ⟨_, rfl, l, _, rfl, SqL.of hl4, fun D2 hD2 => ?_⟩
          refine lc_it (walk_enum (xs := ps.map nV)) (fun j H' => Ext TT none H4 H' ∧ ∃ vs L, H' D2 = some (.lst vs) ∧ Tps H' vs (rowsI' L) ∧ vs.length ≤ j ∧ ∀ x, x ∈ L ↔ ∃ q, q < j ∧ (oddB ws.length = true ∨ (0 + n + q) % 2 = 0) ∧ x = rot c q) ⟨Ext.new hD2, [], [], upd_same, .nil, Nat.le_refl _, fun x => ⟨(fun z => nomatch z), fun ⟨q, z, _⟩ => absurd z (Nat.not_lt_zero _)⟩⟩ ?_ (fun j x H5 H6 hj e y => ?_) (fun H5 e => ?_)
          · rintro j H' _ ⟨x5, _⟩
            exact SqL.of (x5.lst hl4)
          · obtain ⟨Ta, u, v, rfl, nT, rfl, e1, e2⟩ := y
            obtain ⟨x5, vs, L, hD5, hvs, lv, mem⟩ := e
            rw [List.length_map] at hj
            cases e1
            have e2 : (ps.map nV)[j]? = some v := e2
            rw [List.getElem?_map, List.getElem?_eq_getElem hj] at e2
            have e2 : nV ps[j] = v := Option.some.inj e2
            subst e2
            have par := pl.par j _ (List.getElem?_eq_getElem hj)
            have x6 := x5.trans (Ext.new (T := TT) (so := none) (o := .tup [.int (j : Nat), nV ps[j]]) nT)
            have hD6 : upd H5 Ta (.tup [.int (j : Nat), nV ps[j]]) D2 = some (.lst vs) := (upd_ne (ne_of_none hD5 nT)).trans hD5
            have hT6 : upd H5 Ta (.tup [.int (j : Nat), nV ps[j]]) Ta = some (.tup [.int (j : Nat), nV ps[j]]) := upd_same
            have hvs6 := hvs.mono (TK.new nT (o := .tup [.int (j : Nat), nV ps[j]]))
            generalize upd H5 Ta (.tup [.int (j : Nat), nV ps[j]]) = H6 at x6 hD6 hT6 hvs6 ⊢
            refine ⟨Ta, _, rfl, SqT.of hT6, rfl, _, _, rfl, _, _, rfl, rfl, ?_⟩
            have ht6 := (x4.trans x6).tup ht2
            have hlt6 := x6.tup h4
            have lj : j ≤ c.length := by omega
            have app : (oddB ws.length = true ∨ (0 + n + j) % 2 = 0) → ∀ (q : Addr) G, Ext TT none H6 G → G q = some (.tup ((rot c j).map V.int)) → ∃ xs, G D2 = some (.lst xs) ∧ xs.length < sizeLine ∧ (Ext TT none H4 (upd G D2 (.lst (xs ++ [V.ref q]))) ∧ ∃ vs L, upd G D2 (.lst (xs ++ [V.ref q])) D2 = some (.lst vs) ∧ Tps (upd G D2 (.lst (xs ++ [V.ref q]))) vs (rowsI' L) ∧ vs.length ≤ j + 1 ∧ ∀ x, x ∈ L ↔ ∃ q, q < j + 1 ∧ (oddB ws.length = true ∨ (0 + n + q) % 2 = 0) ∧ x = rot c q) := by
              intro g q G xG hG
              have hDG := xG.lst hD6
              refine ⟨vs, hDG, small1000 (by omega), (x6.trans xG).mutL hD2 hDG (fun z => nomatch z), vs ++ [V.ref q], L ++ [rot c j], upd_same, ?_, by rw [List.length_append]; simp only [List.length_cons, List.length_nil]; omega, fun x => ?_⟩
              · rw [rowsI_append]
                refine ((hvs6.mono xG.tk).mono (TK.lst hDG)).append (.cons ?_ .nil)
                exact (rowI_tp hG).mono (TK.lst hDG)
              · rw [List.mem_append, mem x, List.mem_singleton]
                constructor
                · rintro (⟨q, q1, q2, q3⟩ | z)
                  · exact ⟨q, by omega, q2, q3⟩
                  · exact ⟨j, by omega, g, z⟩
                · rintro ⟨q, q1, q2, q3⟩
                  by_cases z : q = j
                  · exact .inr (by rw [q3, z])
                  · exact .inl ⟨q, by omega, q2, q3⟩
            have noapp : ¬ (oddB ws.length = true ∨ (0 + n + j) % 2 = 0) → (Ext TT none H4 H6 ∧ ∃ vs L, H6 D2 = some (.lst vs) ∧ Tps H6 vs (rowsI' L) ∧ vs.length ≤ j + 1 ∧ ∀ x, x ∈ L ↔ ∃ q, q < j + 1 ∧ (oddB ws.length = true ∨ (0 + n + q) % 2 = 0) ∧ x = rot c q) := by
              intro g
              refine ⟨x6, vs, L, hD6, hvs6, by omega, fun x => ?_⟩
              rw [mem x]
              constructor
              · rintro ⟨q, q1, q2, q3⟩
                exact ⟨q, by omega, q2, q3⟩
              · rintro ⟨q, q1, q2, q3⟩
                refine ⟨q, ?_, q2, q3⟩
                by_cases z : q = j
                · rw [z] at q2; exact absurd q2 g
                · omega
            refine ⟨rfl, ?_⟩
            refine ⟨_, rfl, t, _, rfl, .inr (SqT.of ht6), _, _, rfl, rfl, rfl, _, rfl, ?_⟩
            have b1 : Builtin.bitAnd (((ws.map V.int).length : Nat) : Int) 1 = ((ws.length : Nat) : Int) % 2 := by rw [bitAnd_m1, lenW]
            have b2 : Builtin.bitAnd ((ps[j] : Nat) : Int) 1 = ((ps[j] : Nat) : Int) % 2 := bitAnd_m1 _
            refine iteB (fun g => ?_) (fun g => ?_)
            · have od : oddB ws.length = true := by
                have g : V.int (Builtin.bitAnd (((ws.map V.int).length : Nat) : Int) 1) = V.int 1 := of_decide_eq_true g
                injection g with g
                rw [b1] at g
                unfold oddB
                exact beq_iff_eq.mpr (by omega)
              refine ⟨_, rfl, _, rfl, _, rfl, ?_⟩
              dsimp only [tNoPart]
              refine sl_any (TT := TT) hlt6 (fun q1 G1 y1 g1 => ?_)
              rw [cut_from, ← List.map_drop] at g1
              refine ⟨_, rfl, _, rfl, _, rfl, sl_any (TT := TT) (y1.tup hlt6) (fun q2 G2 y2 g2 => ?_)⟩
              rw [cut_to, ← List.map_take] at g2
              refine cat_tup (TT := TT) (y2.tup g1) g2 (by rw [List.length_map, List.length_map, List.length_drop, List.length_take]; exact Nat.le_of_lt (small1000 (by omega))) (fun q3 G3 y3 g3 => ?_)
              rw [← List.map_append] at g3
              exact app (.inl od) q3 G3 ((y1.trans y2).trans y3) g3
            · have nod : oddB ws.length = false := by
                have g : ¬ V.int (Builtin.bitAnd (((ws.map V.int).length : Nat) : Int) 1) = V.int 1 := of_decide_eq_false g
                unfold oddB
                refine beq_eq_false_iff_ne.mpr fun z => g ?_
                rw [b1]
                exact congrArg V.int (by omega)
              refine ⟨_, rfl, _, _, rfl, rfl, rfl, _, rfl, ?_⟩
              refine iteB (fun g2 => ?_) (fun g2 => ?_)
              · have ev : (0 + n + j) % 2 = 0 := by
                  have g2 : V.int (Builtin.bitAnd ((ps[j] : Nat) : Int) 1) = V.int 0 := of_decide_eq_true g2
                  injection g2 with g2
                  rw [b2] at g2
                  omega
                refine ⟨_, rfl, _, rfl, _, rfl, ?_⟩
                dsimp only [tNoPart]
                refine sl_any (TT := TT) hlt6 (fun q1 G1 y1 g1 => ?_)
                rw [cut_from, ← List.map_drop] at g1
                refine ⟨_, rfl, _, rfl, _, rfl, sl_any (TT := TT) (y1.tup hlt6) (fun q2 G2 y2 g2 => ?_)⟩
                rw [cut_to, ← List.map_take] at g2
                refine cat_tup (TT := TT) (y2.tup g1) g2 (by rw [List.length_map, List.length_map, List.length_drop, List.length_take]; exact Nat.le_of_lt (small1000 (by omega))) (fun q3 G3 y3 g3 => ?_)
                rw [← List.map_append] at g3
                exact app (.inr ev) q3 G3 ((y1.trans y2).trans y3) g3
              · have nev : ¬ (0 + n + j) % 2 = 0 := by
                  have g2 : ¬ V.int (Builtin.bitAnd ((ps[j] : Nat) : Int) 1) = V.int 0 := of_decide_eq_false g2
                  intro z
                  refine g2 ?_
                  rw [b2]
                  exact congrArg V.int (by omega)
                exact noapp (by rw [nod]; rintro (z | z); cases z; exact nev z)
          · obtain ⟨x5, vs, L, hD5, hvs, lv, mem⟩ := e
            rw [List.length_map] at mem
            refine ⟨_, rfl, Nat.zero_le _, fun p0 np0 => ?_⟩
            have hD6 : upd H5 p0 (.tup []) D2 = some (.lst vs) := (upd_ne (ne_of_none hD5 np0)).trans hD5
            have x6 := x5.trans (Ext.new (T := TT) (so := none) (o := .tup []) np0)
            have mem2 : ∀ x, x ∈ L ↔ RdW (oddB ws.length) 0 ws x := fun x => by
              rw [mem x, RdW.of tr, ← lc]
              exact Iff.rfl
            have xa := ((x2.trans x4).trans x6)
            refine ⟨D2, vs, L, .ref p0, rfl, rfl, SqL.of hD6, hvs.mono (TK.new np0), fun e => ?_, fun x m _ hx hm => ?_⟩
            · refine k _ _ [] (x1.trans xa) (.tup upd_same .nil) (.inl ⟨fun x z => ?_, rfl⟩)
              have := (mem2 x).mpr z
              rw [e] at this
              cases this
            · exact k _ _ m (x1.trans xa) hx (.inr ⟨L, mem2, hm⟩)
end
end R
end

-- CoreP
section
set_option Elab.async false
set_option linter.all false
set_option maxRecDepth 100000
set_option maxHeartbeats 4000000
/-! CoreP: what the law asks of cores. -/
namespace CoreX
open MinX
theorem rot_len (c : List Int) (j : Nat) : (rot c j).length = c.length := by
  unfold rot
  rw [List.length_append, List.length_drop, List.length_take]
  omega
theorem rot_split (A B : List Int) : rot (A ++ B) A.length = B ++ A := by
  unfold rot
  rw [List.drop_left, List.take_left]
theorem rot_rot {c : List Int} {j b : Nat} (hj : j ≤ c.length) (hb : b ≤ c.length) : rot (rot c j) b = if j + b ≤ c.length then rot c (j + b) else rot c (j + b - c.length) := by
  obtain ⟨A, B, rfl, rfl⟩ : ∃ A B, c = A ++ B ∧ j = A.length := ⟨c.take j, c.drop j, (List.take_append_drop j c).symm, by rw [List.length_take]; omega⟩
  rw [rot_split]
  rw [List.length_append] at hb ⊢
  by_cases h : A.length + b ≤ A.length + B.length
  · rw [if_pos h]
    have d1 : (B ++ A).drop b = B.drop b ++ A := List.drop_append_of_le_length (by omega)
    have t1 : (B ++ A).take b = B.take b := List.take_append_of_le_length (by omega)
    have d2 : (A ++ B).drop (A.length + b) = B.drop b := by rw [List.drop_append, List.drop_of_length_le (by omega), List.nil_append, show A.length + b - A.length = b by omega]
    have t2 : (A ++ B).take (A.length + b) = A ++ B.take b := by rw [List.take_append, List.take_of_length_le (by omega), show A.length + b - A.length = b by omega]
    unfold rot
    rw [d1, t1, d2, t2, List.append_assoc]
  · rw [if_neg h]
    obtain ⟨k, hk⟩ : ∃ k, b = B.length + k := ⟨b - B.length, by omega⟩
    subst hk
    have d1 : (B ++ A).drop (B.length + k) = A.drop k := by rw [List.drop_append, List.drop_of_length_le (by omega), List.nil_append, show B.length + k - B.length = k by omega]
    have t1 : (B ++ A).take (B.length + k) = B ++ A.take k := by rw [List.take_append, List.take_of_length_le (by omega), show B.length + k - B.length = k by omega]
    have d2 : (A ++ B).drop k = A.drop k ++ B := List.drop_append_of_le_length (by omega)
    have t2 : (A ++ B).take k = A.take k := List.take_append_of_le_length (by omega)
    rw [show A.length + (B.length + k) - (A.length + B.length) = k by omega]
    unfold rot
    rw [d1, t1, d2, t2, List.append_assoc]
theorem trim_len {n : Nat} {st c : List Int} (h : Trim n st c) : c.length % 2 = st.length % 2 := by
  induction h with
  | stop _ => rfl
  | step _ ih => simp only [List.length_cons, List.length_append, List.length_nil]; omega
/-- a row of readings that are read on by odd steps -/
theorem odd_reads {w m x : List Int} (ev : w.length % 2 = 0) (hm : RdW false 0 w m) : (∃ b, b < m.length ∧ b % 2 = 1 ∧ x = rot m b) ↔ RdW false 1 w x := by
  obtain ⟨t, c, tr, j, hj, hp, rfl⟩ := hm
  have hp : (0 + t + j) % 2 = 0 := by
    rcases hp with z | z
    · cases z
    · exact z
  have lc : c.length % 2 = 0 := by rw [trim_len tr, nf_len]; exact ev
  rw [RdW.of tr, rot_len]
  constructor
  · rintro ⟨b, hb, ob, rfl⟩
    rw [rot_rot (by omega) (by omega)]
    by_cases z : j + b < c.length
    · rw [if_pos (by omega)]
      exact ⟨j + b, z, .inr (by omega), rfl⟩
    · by_cases z2 : j + b = c.length
      · rw [if_pos (by omega), z2, rot_all]
        exact ⟨0, by omega, .inr (by omega), (rot_zero c).symm⟩
      · rw [if_neg (by omega)]
        exact ⟨j + b - c.length, by omega, .inr (by omega), rfl⟩
  · rintro ⟨i, hi, hq, rfl⟩
    have hq : (1 + t + i) % 2 = 0 := by
      rcases hq with z | z
      · cases z
      · exact z
    by_cases z : j < i
    · refine ⟨i - j, by omega, by omega, ?_⟩
      rw [rot_rot (by omega) (by omega), if_pos (by omega), show j + (i - j) = i by omega]
    · refine ⟨i + c.length - j, by omega, by omega, ?_⟩
      rw [rot_rot (by omega) (by omega)]
      by_cases z2 : i = 0
      · subst z2
        rw [if_pos (by omega), show j + (0 + c.length - j) = c.length by omega, rot_all, rot_zero]
      · rw [if_neg (by omega), show j + (i + c.length - j) - c.length = i by omega]
theorem rd_ne {odd : Bool} {s : Nat} {w x : List Int} (h : RdW odd s w x) : x ≠ [] := by
  obtain ⟨t, c, _, j, hj, _, rfl⟩ := h
  intro z
  have := rot_len c j
  rw [z] at this
  simp at this
  omega
theorem core_nil {odd : Bool} {s : Nat} {w : List Int} (h : IsCore odd s w []) : ∀ x, ¬ RdW odd s w x := by
  rcases h with ⟨n, _⟩ | ⟨L, hL, l⟩
  · exact n
  · exact absurd rfl (rd_ne ((hL _).mp l.mem))
theorem core_rd {odd : Bool} {s : Nat} {w m : List Int} (h : IsCore odd s w m) (ne : m ≠ []) : RdW odd s w m := by
  rcases h with ⟨_, e⟩ | ⟨L, hL, l⟩
  · exact absurd e ne
  · exact (hL m).mp l.mem
theorem none_odd {w : List Int} (ev : w.length % 2 = 0) (h : ∀ x, ¬ RdW false 0 w x) : ∀ x, ¬ RdW false 1 w x := by
  intro x hx
  obtain ⟨t, c, tr, j, hj, _⟩ := hx
  have lc : c.length % 2 = 0 := by rw [trim_len tr, nf_len]; exact ev
  by_cases z : t % 2 = 0
  · exact h (rot c 0) ⟨t, c, tr, 0, by omega, .inr (by omega), rfl⟩
  · exact h (rot c 1) ⟨t, c, tr, 1, by omega, .inr (by omega), rfl⟩
/-- the row turned, and its core due -/
theorem turned_core {odd : Bool} {w m m' : List Int} {j : Nat} (hj : j ≤ w.length) (ev : odd = true ∨ w.length % 2 = 0) (h : IsCore odd 0 w m) (h' : IsCore odd 0 (rot w j) m') (c : odd = true ∨ j % 2 = 0 ∨ m = []) : m' = m := by
  have r := fun x => RdW.rot (odd := odd) (x := x) j 0 w hj ev
  rcases c with c | c | c
  · subst c
    exact h'.same h fun x => RdW.odd.trans (r x).symm
  · exact h'.same h fun x => (RdW.par (by omega)).trans (r x).symm
  · subst c
    have n := core_nil h
    cases odd with
    | true => exact h'.same h fun x => RdW.odd.trans (r x).symm
    | false =>
      have ev : w.length % 2 = 0 := by
        rcases ev with z | z
        · cases z
        · exact z
      have n1 := none_odd ev n
      have n' : ∀ x, ¬ RdW false 0 (rot w j) x := fun x hx => by
        by_cases z : j % 2 = 0
        · exact n x ((r x).mpr ((RdW.par (by omega)).mp hx))
        · have q := (RdW.rot (odd := false) (x := x) j 1 w hj (.inr ev)).mpr ((RdW.par (by omega)).mp hx)
          exact n1 x q
      rcases h' with ⟨_, e⟩ | ⟨L, hL, l⟩
      · exact e
      · exact absurd ((hL _).mp l.mem) (n' _)
theorem turned_odd {w m m' d : List Int} {L : List (List Int)} {j : Nat} (hj : j ≤ w.length) (ev : w.length % 2 = 0) (oj : j % 2 = 1) (h : IsCore false 0 w m) (ne : m ≠ []) (h' : IsCore false 0 (rot w j) m') (hL : ∀ x, x ∈ L ↔ ∃ b, b < m.length ∧ b % 2 = 1 ∧ x = rot m b) (hd : Least d L) : m' = d := by
  have r := fun x => RdW.rot (odd := false) (x := x) j 1 w hj (.inr ev)
  have hm := core_rd h ne
  have hd' : IsCore false 1 w d := .inr ⟨L, fun x => (hL x).trans (odd_reads ev hm), hd⟩
  exact h'.same hd' fun x => (RdW.par (by omega)).trans (r x).symm
/-- another like pair in a like pair's place -/
theorem other_core {odd : Bool} {w m m' : List Int} {k : Nat} {l : Int} (hk : k + 1 < w.length) (e : w[k + 1] = w[k]) (h : IsCore odd 0 w m) (h' : IsCore odd 0 ((w.set (k + 1) l).set k l) m') : m' = m := by
  have e1 : w = w.take k ++ w[k] :: w[k] :: w.drop (k + 2) := by
    conv => lhs; rw [← List.take_append_drop k w, List.drop_eq_getElem_cons (by omega : k < w.length), List.drop_eq_getElem_cons (by omega : k + 1 < w.length), e]
  have lt : (w.take k).length = k := by rw [List.length_take]; omega
  have e2 : (w.set (k + 1) l).set k l = w.take k ++ l :: l :: w.drop (k + 2) := by
    conv => lhs; rw [e1]
    rw [List.set_append_right _ _ (by omega), List.set_append_right _ _ (by omega), lt, show k + 1 - k = 1 by omega, Nat.sub_self] <;> rfl
  rw [e2] at h'
  refine h'.same h fun x => (RdW.strike _ _ _).trans ?_
  have := RdW.strike (odd := odd) (s := 0) (x := x) (w.take k) (w.drop (k + 2)) w[k]
  rw [← e1] at this
  exact this.symm
theorem other_ends {odd : Bool} {w m m' : List Int} {n : Nat} {l : Int} (hn : w.length = n + 2) (e : w[0] = w[n + 1]) (ev : odd = true ∨ n % 2 = 0) (h : IsCore odd 0 w m) (h' : IsCore odd 0 ((w.set 0 l).set (n + 1) l) m') : m' = m := by
  obtain ⟨a, u, b, rfl⟩ : ∃ a u b, w = a :: (u ++ [b]) := by
    cases w with
    | nil => simp at hn
    | cons a r =>
      rcases List.eq_nil_or_concat r with z | ⟨u, b, z⟩
      · subst z; simp at hn
      · exact ⟨a, u, b, by rw [z, List.concat_eq_append]⟩
  have lu : u.length = n := by simp at hn; omega
  have eb : a = b := by
    simp only [List.getElem_cons_zero, List.getElem_cons_succ] at e
    rw [List.getElem_append_right (by omega)] at e
    simpa using e
  subst eb
  have e2 : ((a :: (u ++ [a])).set 0 l).set (n + 1) l = l :: (u ++ [l]) := by
    rw [List.set_cons_zero, List.set_cons_succ, List.set_append_right _ _ (by omega), lu, Nat.sub_self] <;> rfl
  rw [e2] at h'
  have ev' : odd = true ∨ u.length % 2 = 0 := by
    rcases ev with z | z
    · exact .inl z
    · exact .inr (by omega)
  exact h'.same h fun x => (RdW.ends u l ev').trans (RdW.ends u a ev').symm
end CoreX
end

-- Small
section
set_option Elab.async false
set_option linter.all false
set_option maxRecDepth 100000
set_option maxHeartbeats 4000000
namespace R
open PySem PySem.Spec PyProof.Rows L2 LamX NdefX LamP CoreX TupX MinX BlkX
open GridX (nV)
theorem set_cut {w : List Int} {k : Nat} (m : Int) (h : k < w.length) : w.take k ++ [m] ++ w.drop (k + 1) = w.set k m := by
  rw [List.set_eq_take_append_cons_drop, if_pos h, List.append_assoc] <;> rfl
section
variable {P : Program} {w : World} {K : PySem.W.Frag} {mg : Str → Option Value} {base : Heap}
def spPut (TT : List NTab) : Sp := fun vs H Q _ => ∃ (t : Addr) (ws : List Int) (k : Nat) (m : Int), vs = [.ref t, nV k, .int m] ∧ H t = some (.tup (ws.map V.int)) ∧ k < ws.length ∧ ws.length ≤ 100 ∧ ∀ q H', Ext TT none H H' → H' q = some (.tup ((ws.set k m).map V.int)) → Q (.ref q) H'
theorem ok_put (T : Txt K mg) (TT : List NTab) : FnOk P w K mg base CX0 1 T.a_Lput T.d_Lput ["_law_row", "_law_at", "_law_thing"] (spPut TT) := by
  refine T.F_Lput.ok sc_Lput (fun vs H Q E h => ?_) (fun cdv A outer s H vs Q E hr h => ?_)
  · obtain ⟨t, ws, k, m, rfl, _⟩ := h
    rfl
  · obtain ⟨t, ws, j, m, rfl, ht, hj, hl, k⟩ := h
    refine ⟨_, (pss_one (ps_ret (pe_op (TupX.catAK K) (pe_op (TupX.catAK K) (pe_slice sl_tupA (pv 0) po_none (po_some (pv 1))) (pe_tup (pa_cons (pv 2) pa_nil))) (pe_slice sl_tupA (pv 0) (po_some (pe_op op_add (pv 1) pe_int)) po_none)))), ?_⟩
    refine ⟨_, rfl, ?_⟩
    dsimp only [tNoPart]
    refine ⟨_, rfl, _, rfl, sl_any (TT := TT) ht (fun q1 G1 y1 g1 => ?_)⟩
    rw [cut_to, ← List.map_take] at g1
    refine ⟨_, rfl, (by show 1 ≤ sizeLine; decide), fun p np => ?_⟩
    have g1' : upd G1 p (.tup [.int m]) q1 = some (.tup ((ws.take j).map V.int)) := (upd_ne (ne_of_none g1 np)).trans g1
    refine cat_tup (TT := TT) g1' upd_same (by rw [List.length_map, List.length_take]; exact Nat.le_of_lt (small1000 (by simp only [List.length_cons, List.length_nil]; omega))) (fun q2 G2 y2 g2 => ?_)
    have z2 := (y1.trans (Ext.new (T := TT) (so := none) (o := .tup [.int m]) np)).trans y2
    have ej : (j : Int) + 1 = ((j + 1 : Nat) : Int) := by omega
    refine ⟨_, rfl, _, rfl, _, _, rfl, rfl, _, rfl, ?_⟩
    dsimp only [tNoPart]
    refine sl_any (TT := TT) (z2.tup ht) (fun q3 G3 y3 g3 => ?_)
    rw [ej, cut_from, ← List.map_drop] at g3
    refine cat_tup (TT := TT) (y3.tup g2) g3 (by rw [List.length_append, List.length_map, List.length_take, List.length_map, List.length_drop]; exact Nat.le_of_lt (small1000 (by simp only [List.length_cons, List.length_nil]; omega))) (fun q4 G4 y4 g4 => ?_)
    refine k q4 _ ((z2.trans y3).trans y4) ?_
    rw [g4, ← set_cut m hj, List.map_append, List.map_append] <;> rfl
end
end R
end

-- Letters
section
set_option Elab.async false
set_option linter.all false
set_option maxRecDepth 100000
set_option maxHeartbeats 4000000
namespace R
open PySem PySem.Spec PyProof.Rows L2 LamX NdefX LamP CoreX TupX MinX BlkX
open GridX (nV)
def Below (c : Nat) (s : List Int) : Prop := ∀ m ∈ s, 0 ≤ m ∧ m < (c : Int)
section
variable {P : Program} {w : World} {K : PySem.W.Frag} {mg : Str → Option Value} {base : Heap}
def spLetters (TT : List NTab) : Sp := fun vs H Q _ => ∃ (so : Addr) (n c : Nat), vs = [.ref so, nV n, nV c] ∧ Src H so ∧ n ≤ 40 ∧ 1 ≤ c ∧ c ≤ 6 ∧ RetS TT so H Q fun v H' => ∃ (l : Addr) (s : List Int), v = .ref l ∧ H' l = some (.lst (s.map V.int)) ∧ l ≠ so ∧ s.length = n ∧ Below c s
theorem ok_letters (T : Txt K mg) (TT : List NTab) : FnOk P w K mg base CX0 2 T.a_Lletters T.d_Lletters ["_law_source", "_law_n", "_law_coats"] (spLetters TT) := by
  refine T.F_Lletters.ok sc_Lletters (fun vs H Q E h => ?_) (fun cdv A outer s H vs Q E hr h => ?_)
  · obtain ⟨so, n, c, rfl, _⟩ := h
    rfl
  · obtain ⟨so, n, c, rfl, hs, hn, hc1, hc2, k⟩ := h
    have nd := sc_Lletters.nd
    refine ⟨_, (pss_cons (ps_setLc (i := 3) (own := [("_law_x", 7)]) (g := gName 7) (tt := tYes) rfl nd rfl rfl (sw_true rfl rfl rfl (by decide +kernel)) (pi_range1 (by rfl) T.n_range (pa_cons (pe_call (ok_take T TT) (hr.mono (by decide)) rfl T.g_Ltake T.F_Ltake.kp T.b_Ltake .nil pass0 (pa_cons (pv 0) (pa_cons (pe_op op_add (pv 1) pe_int) pa_nil))) pa_nil)) (blkOk_by (own := [("_law_x", 7)]) (N := N_Lletters) (sc := defScope s_Lletters) (by decide +kernel)) (fun _ _ _ _ _ => (pg_name (i := 7) nd rfl (Or.inl rfl))) (fun _ _ _ _ _ => pts_nil) (fun _ _ _ _ _ => (pe_call (ok_take T TT) (hr.mono (by decide)) rfl T.g_Ltake T.F_Ltake.kp T.b_Ltake .nil pass0 (pa_cons (pv 0) (pa_cons (pv 2) pa_nil)))))
        (pss_cons (ps_if (pt_cmpR op_eq (pe_op op_mod (pe_callTy call_int1 (by rfl) T.n_int (by decide +kernel) (pa_cons (pe_op op_sub (pv 1) (pe_callB call_len_seq (by rfl) T.n_len PySem.boot_len (pa_cons (pv 3) pa_nil))) pa_nil)) pe_int) pe_int (nomark _)) (pss_one (ps_expr (pe_bm PySem.F.plainAttrs_list PySem.F.slot_list_append PySem.F.type_list_append mt_append (pv 3) (pa_cons (pe_call (ok_take T TT) (hr.mono (by decide)) rfl T.g_Ltake T.F_Ltake.kp T.b_Ltake .nil pass0 (pa_cons (pv 0) (pa_cons (pv 2) pa_nil))) pa_nil)))) pss_nil)
        (pss_cons (ps_for PassesOwn.never rfl (pi_range1 (by rfl) T.n_range (pa_cons (pe_op op_fdiv (pe_op op_sub (pv 1) (pe_callB call_len_seq (by rfl) T.n_len PySem.boot_len (pa_cons (pv 3) pa_nil))) pe_int) pa_nil)) (pg_name (i := 4) nd rfl (Or.inl rfl))
          (pss_cons (ps_par (i := 5) (j := 6) (by rfl) nd rfl rfl (by decide) rfl rfl (pa_cons (pe_call (ok_take T TT) (hr.mono (by decide)) rfl T.g_Ltake T.F_Ltake.kp T.b_Ltake .nil pass0 (pa_cons (pv 0) (pa_cons (pe_op op_add (pe_callB call_len_seq (by rfl) T.n_len PySem.boot_len (pa_cons (pv 3) pa_nil)) pe_int) pa_nil))) (pa_cons (pe_call (ok_take T TT) (hr.mono (by decide)) rfl T.g_Ltake T.F_Ltake.kp T.b_Ltake .nil pass0 (pa_cons (pv 0) (pa_cons (pv 2) pa_nil))) pa_nil)) (by rfl))
        (pss_one (ps_set (i := 3) nd rfl (Or.inl rfl) (pe_op op_cat (pe_op op_cat (pe_slice sl_list (pv 3) po_none (po_some (pv 5))) (pe_lst (pa_cons (pv 6) (pa_cons (pv 6) pa_nil)))) (pe_slice sl_list (pv 3) (po_some (pv 5)) po_none))))))
        (pss_one (ps_ret (pv 3)))))), ?_⟩
    refine ⟨_, rfl, _, rfl, _, _, rfl, rfl, so, (n : Int) + 1, rfl, hs, by omega, by omega, fun v H1 x1 s1 hv => ?_⟩
    obtain ⟨a0, rfl, a1, a2⟩ := hv
    obtain ⟨a, rfl⟩ : ∃ a : Nat, a0 = (a : Int) := ⟨a0.toNat, by omega⟩
    refine ⟨(a : Int), rfl, by omega, by omega, fun D hD => ?_⟩
    have nD : D ≠ so := src_ne s1 hD
    have ns : (some so : Option Addr) ≠ some D := fun z => nD (Option.some.inj z).symm
    have nDH : H D = none := x1.fr D hD
    rw [Int.toNat_natCast]
    refine lc_it walk_range (fun j H' => Ext TT (some so) H H' ∧ Src H' so ∧ ∃ s : List Int, H' D = some (.lst (s.map V.int)) ∧ s.length = j ∧ Below c s) ⟨x1.trans (Ext.new hD), (Ext.new (T := TT) (so := some so) hD).src s1, [], upd_same, rfl, (fun _ z => nomatch z)⟩ (fun _ _ _ _ => trivial) (fun j x H3 H2 hj e y => ?_) (fun H2 e => ?_)
    · obtain ⟨rfl, rfl⟩ := y
      obtain ⟨x2, s2, ss, h2, ls, bs⟩ := e
      refine ⟨rfl, ?_⟩
      dsimp only [tYes]
      refine iteT ?_
      refine ⟨_, rfl, _, rfl, so, (c : Int), rfl, s2, by omega, by omega, fun v H3 x3 s3 hv => ?_⟩
      obtain ⟨m, rfl, m0, m1⟩ := hv
      have h3 := x3.lstS nD h2
      refine ⟨_, h3, by rw [List.length_map]; exact small1000 (by omega), (x2.trans x3).mutL nDH h3 ns, ?_, ss ++ [m], by rw [upd_same, List.map_append] <;> rfl, by rw [List.length_append, ls] <;> rfl, fun q hq => ?_⟩
      · obtain ⟨p, q, e1, e2⟩ := s3
        exact ⟨p, q, (upd_ne (Ne.symm nD)).trans e1, e2⟩
      · rcases List.mem_append.mp hq with z | z
        · exact bs q z
        · rw [List.mem_singleton.mp z]; exact ⟨m0, m1⟩
    · obtain ⟨x2, s2, ss, h2, ls, bs⟩ := e
      dsimp only
      refine seq_cut (fun σ H' => ∃ s : List Int, σ = [some (.ref so), some (nV n), some (nV c), some (.ref D), none, none, none, none] ∧ Ext TT (some so) H H' ∧ Src H' so ∧ H' D = some (.lst (s.map V.int)) ∧ s.length ≤ n ∧ (n - s.length) % 2 = 0 ∧ Below c s) (fun R join => ?_) ?_
      · refine ⟨_, rfl, _, rfl, D, _, rfl, .inl (SqL.of h2), _, _, rfl, rfl, .inl ⟨_, rfl, _, _, rfl, rfl, (by show (0 : Int) < 2; decide), rfl, _, rfl, ?_⟩⟩
        rw [List.length_map]
        refine iteB (fun g => ?_) (fun g => ?_)
        · have g : V.int (((n : Int) - ((ss.length : Nat) : Int)) % 2) = V.int 1 := of_decide_eq_true g
          injection g with g
          refine ⟨_, rfl, Or.inl ⟨rfl, _, SqL.of h2⟩, _, rfl, _, rfl, so, (c : Int), rfl, s2, by omega, by omega, fun v H3 x3 s3 hv => ?_⟩
          obtain ⟨m, rfl, m0, m1⟩ := hv
          have h3 := x3.lstS nD h2
          refine ⟨D, _, _, rfl, rfl, h3, by rw [List.length_map]; exact small1000 (by omega), ?_⟩
          refine join _ _ ⟨ss ++ [m], rfl, (x2.trans x3).mutL nDH h3 ns, ?_, by rw [upd_same, List.map_append] <;> rfl, by rw [List.length_append]; simp only [List.length_cons, List.length_nil]; omega, by rw [List.length_append]; simp only [List.length_cons, List.length_nil]; omega, fun q hq => ?_⟩
          · obtain ⟨p, q, e1, e2⟩ := s3
            exact ⟨p, q, (upd_ne (Ne.symm nD)).trans e1, e2⟩
          · rcases List.mem_append.mp hq with z | z
            · exact bs q z
            · rw [List.mem_singleton.mp z]; exact ⟨m0, m1⟩
        · have g : ¬ V.int (((n : Int) - ((ss.length : Nat) : Int)) % 2) = V.int 1 := of_decide_eq_false g
          refine join _ _ ⟨ss, rfl, x2, s2, h2, by omega, ?_, bs⟩
          by_cases z : (n - ss.length) % 2 = 0
          · exact z
          · exact absurd (congrArg V.int (by omega)) g
      · rintro σ H3 ⟨ss, rfl, x3, s3, h3, ls, ps, bs⟩
        obtain ⟨r, er⟩ : ∃ r, n - ss.length = 2 * r := ⟨(n - ss.length) / 2, by omega⟩
        refine ⟨_, rfl, _, rfl, D, _, rfl, .inl (SqL.of h3), _, _, rfl, rfl, _, _, rfl, rfl, ⟨by decide, by decide⟩, (r : Int), ?_, by omega, by omega, for_range (lo := 0) (n := (r : Int).toNat) (fun i σ H' => ∃ (l : Addr) (s : List Int) (u4 u5 u6 : Option V), σ = [some (.ref so), some (nV n), some (nV c), some (.ref l), u4, u5, u6, none] ∧ Ext TT (some so) H H' ∧ Src H' so ∧ H' l = some (.lst (s.map V.int)) ∧ l ≠ so ∧ s.length = ss.length + 2 * i ∧ Below c s) ⟨D, ss, none, none, none, rfl, x3, s3, h3, nD, rfl, bs⟩ ?_ ?_⟩
        · rw [List.length_map]
          exact congrArg (fun z => [V.int z]) (by omega)
        · rintro i σ H4 hi ⟨l, s4, u4, u5, u6, rfl, x4, q4, h4, nl4, ls4, bs4⟩
          refine ⟨_, rfl, _, rfl, l, _, rfl, .inl (SqL.of h4), _, _, rfl, rfl, so, (s4.length : Int) + 1, by rw [List.length_map] <;> rfl, q4, by omega, by omega, fun v H5 x5 q5 hv => ?_⟩
          obtain ⟨at0, rfl, at1, at2⟩ := hv
          obtain ⟨p, rfl⟩ : ∃ p : Nat, at0 = (p : Int) := ⟨at0.toNat, by omega⟩
          refine ⟨_, rfl, _, rfl, so, (c : Int), rfl, q5, by omega, by omega, fun v H6 x6 q6 hv => ?_⟩
          obtain ⟨m, rfl, m0, m1⟩ := hv
          have h6 := x6.lstS nl4 (x5.lstS nl4 h4)
          have lV : (s4.map V.int).length ≤ 100 := by rw [List.length_map]; omega
          refine ⟨_, _, rfl, ?_⟩
          refine ⟨_, rfl, ?_⟩
          dsimp only [tNoPart]
          refine ⟨_, rfl, _, rfl, l, _, rfl, SqL.of h6, fun a na => ?_⟩
          rw [cut_to, ← List.map_take]
          obtain ⟨x7, h7⟩ := newX (TT := TT) (so := none) (o := .lst ((s4.take p).map V.int)) (Ext.refl _ _ H6) na
          have h67 := x7.lst h6
          generalize upd H6 a (.lst ((s4.take p).map V.int)) = H7 at x7 h7 h67 ⊢
          refine ⟨_, rfl, _, rfl, (by show 2 ≤ sizeLine; decide), fun b nb => ?_⟩
          obtain ⟨x8, h8⟩ := newX (TT := TT) (so := none) (o := .lst [.int m, .int m]) x7 nb
          have h78 : upd H7 b (.lst [.int m, .int m]) a = some (.lst ((s4.take p).map V.int)) := (upd_ne (ne_of_none h7 nb)).trans h7
          generalize upd H7 b (.lst [.int m, .int m]) = H8 at x8 h8 h78 ⊢
          refine ⟨a, b, _, _, rfl, rfl, h78, h8, by rw [List.length_map, List.length_take]; exact Nat.le_of_lt (small1000 (by simp only [List.length_cons, List.length_nil]; omega)), fun d nd2 => ?_⟩
          obtain ⟨x9, h9⟩ := newX (TT := TT) (so := none) (o := .lst ((s4.take p).map V.int ++ [.int m, .int m])) x8 nd2
          generalize upd H8 d (.lst ((s4.take p).map V.int ++ [.int m, .int m])) = H9 at x9 h9 ⊢
          have h69 := x9.lst h6
          refine ⟨_, rfl, _, rfl, _, rfl, ?_⟩
          dsimp only [tNoPart]
          refine ⟨l, _, rfl, SqL.of h69, fun e ne => ?_⟩
          rw [cut_from, ← List.map_drop]
          obtain ⟨x10, h10⟩ := newX (TT := TT) (so := none) (o := .lst ((s4.drop p).map V.int)) x9 ne
          have h9e : upd H9 e (.lst ((s4.drop p).map V.int)) d = some (.lst ((s4.take p).map V.int ++ [.int m, .int m])) := (upd_ne (ne_of_none h9 ne)).trans h9
          generalize upd H9 e (.lst ((s4.drop p).map V.int)) = H10 at x10 h10 h9e ⊢
          refine ⟨d, e, _, _, rfl, rfl, h9e, h10, by rw [List.length_append, List.length_map, List.length_take, List.length_map, List.length_drop]; exact Nat.le_of_lt (small1000 (by simp only [List.length_cons, List.length_nil]; omega)), fun g ng => ?_⟩
          obtain ⟨x11, h11⟩ := newX (TT := TT) (so := none) (o := .lst ((s4.take p).map V.int ++ [.int m, .int m] ++ (s4.drop p).map V.int)) x10 ng
          have q10 : Src H10 so := Ext.src (T := TT) x10.toS q6
          have ng6 : g ≠ so := src_ne q10 ng
          generalize upd H10 g (.lst ((s4.take p).map V.int ++ [.int m, .int m] ++ (s4.drop p).map V.int)) = H11 at x11 h11 ⊢
          refine ⟨g, s4.take p ++ [m, m] ++ s4.drop p, _, _, _, rfl, ((x4.trans x5).trans x6).trans x11.toS, x11.toS.src q6, ?_, ng6, ?_, fun q hq => ?_⟩
          · rw [h11, List.map_append, List.map_append] <;> rfl
          · rw [List.length_append, List.length_append, List.length_take, List.length_drop]
            simp only [List.length_cons, List.length_nil]
            omega
          · rcases List.mem_append.mp hq with z | z
            · rcases List.mem_append.mp z with z | z
              · exact bs4 q (List.mem_of_mem_take z)
              · have : q = m := by simpa using z
                rw [this]; exact ⟨m0, m1⟩
            · exact bs4 q (List.mem_of_mem_drop z)
        · rintro σ H4 ⟨l, s4, u4, u5, u6, rfl, x4, q4, h4, nl4, ls4, bs4⟩
          rw [Int.toNat_natCast] at ls4
          exact ⟨_, rfl, k _ _ x4 q4 ⟨l, s4, rfl, h4, nl4, by omega, bs4⟩⟩
end
end R
end

-- CoreQ
section
set_option Elab.async false
set_option linter.all false
set_option maxRecDepth 100000
set_option maxHeartbeats 4000000
/-! CoreQ: like neighbours struck in any order. -/
namespace CoreX
open MinX
abbrev Pc := List (Int × Nat)
def ltr (ps : Pc) : List Int := ps.map (·.1)
/-- what is left of the row ws -/
structure Strk (odd : Bool) (ws : List Int) (s : Nat) (ps : Pc) : Prop where
  par : odd = true ∨ ((∀ j p, ps[j]? = some p → p.2 % 2 = (s + j) % 2) ∧ ps.length % 2 = 0)
  rd : ∀ x, RdW odd s (ltr ps) x ↔ RdW odd 0 ws x
/-- without the places lo and hi -/
def remTo (ps : Pc) (lo hi j : Nat) : Pc := ps.take (min j lo) ++ (ps.take (min j hi)).drop (lo + 1) ++ (ps.take j).drop (hi + 1)
theorem take_next {α : Type} {ps : List α} {j : Nat} (h : j < ps.length) : ps.take (j + 1) = ps.take j ++ [ps[j]] := by rw [List.take_succ, List.getElem?_eq_getElem h] <;> rfl
theorem drop_next {α : Type} {ps : List α} {j d : Nat} (h : j < ps.length) (hd : d ≤ j) : (ps.take (j + 1)).drop d = (ps.take j).drop d ++ [ps[j]] := by
  rw [take_next h, List.drop_append_of_le_length (by rw [List.length_take]; omega)]
theorem drop_none {α : Type} {ps : List α} {j d : Nat} (hd : j ≤ d) : (ps.take j).drop d = [] := List.drop_of_length_le (by rw [List.length_take]; omega)
theorem rem_keep {ps : Pc} {lo hi j : Nat} (hl : lo < hi) (hj : j < ps.length) (h1 : j ≠ lo) (h2 : j ≠ hi) : remTo ps lo hi (j + 1) = remTo ps lo hi j ++ [ps[j]] := by
  unfold remTo
  by_cases a : j < lo
  · rw [show min (j + 1) lo = j + 1 by omega, show min j lo = j by omega, take_next hj, drop_none (show min (j + 1) hi ≤ lo + 1 by omega), drop_none (show min j hi ≤ lo + 1 by omega), drop_none (show j ≤ hi + 1 by omega)]
    rw [← take_next hj, drop_none (show j + 1 ≤ hi + 1 by omega), take_next hj]
    simp
  · by_cases b : j < hi
    · rw [show min (j + 1) lo = min j lo by omega, show min (j + 1) hi = j + 1 by omega, show min j hi = j by omega, drop_next hj (show lo + 1 ≤ j by omega), drop_none (show j + 1 ≤ hi + 1 by omega), drop_none (show j ≤ hi + 1 by omega)]
      simp
    · rw [show min (j + 1) lo = min j lo by omega, show min (j + 1) hi = min j hi by omega, drop_next hj (show hi + 1 ≤ j by omega)]
      simp
theorem rem_skip {ps : Pc} {lo hi j : Nat} (hl : lo < hi) (hj : j < ps.length) (h : j = lo ∨ j = hi) : remTo ps lo hi (j + 1) = remTo ps lo hi j := by
  unfold remTo
  rcases h with h | h
  · subst h
    rw [show min (j + 1) j = j by omega, show min j j = j by omega, drop_none (show min (j + 1) hi ≤ j + 1 by omega), drop_none (show min j hi ≤ j + 1 by omega), drop_none (show j + 1 ≤ hi + 1 by omega), drop_none (show j ≤ hi + 1 by omega)]
  · subst h
    rw [show min (j + 1) lo = min j lo by omega, show min (j + 1) j = j by omega, show min j j = j by omega, drop_none (show j + 1 ≤ j + 1 by omega), drop_none (show j ≤ j + 1 by omega)]
theorem rem_zero (ps : Pc) (lo hi : Nat) : remTo ps lo hi 0 = [] := by simp [remTo]
theorem ltr_append (a b : Pc) : ltr (a ++ b) = ltr a ++ ltr b := List.map_append
/-- neighbours struck -/
theorem strk_mid {odd : Bool} {ws : List Int} {s : Nat} {ps : Pc} (h : Strk odd ws s ps) {k : Nat} (hk : k + 1 < ps.length) (e : ps[k].1 = ps[k + 1].1) : Strk odd ws s (remTo ps k (k + 1) ps.length) ∧ (remTo ps k (k + 1) ps.length).length + 2 = ps.length := by
  obtain ⟨U, x, y, V, rfl, rfl⟩ : ∃ U x y V, ps = U ++ x :: y :: V ∧ k = U.length := by
    refine ⟨ps.take k, ps[k], ps[k + 1], ps.drop (k + 2), ?_, by rw [List.length_take]; omega⟩
    conv => lhs; rw [← List.take_append_drop k ps, List.drop_eq_getElem_cons (by omega : k < ps.length), List.drop_eq_getElem_cons hk]
  have ex : x.1 = y.1 := by
    have e1 : (U ++ x :: y :: V)[U.length] = x := by rw [List.getElem_append_right (Nat.le_refl _)]; simp
    have e2 : (U ++ x :: y :: V)[U.length + 1] = y := by rw [List.getElem_append_right (by omega)]; simp
    rw [e1, e2] at e
    exact e
  have er : remTo (U ++ x :: y :: V) U.length (U.length + 1) (U ++ x :: y :: V).length = U ++ V := by
    unfold remTo
    have L : (U ++ x :: y :: V).length = U.length + (V.length + 2) := by simp
    rw [L, show min (U.length + (V.length + 2)) U.length = U.length by omega, show min (U.length + (V.length + 2)) (U.length + 1) = U.length + 1 by omega, drop_none (Nat.le_refl _), List.take_left, List.append_nil, ← L, List.take_length]
    have : (U ++ x :: y :: V).drop (U.length + 1 + 1) = V := by
      rw [List.drop_append, List.drop_of_length_le (by omega), List.nil_append, show U.length + 1 + 1 - U.length = 2 by omega] <;> rfl
    rw [this]
  rw [er]
  refine ⟨⟨?_, fun z => ?_⟩, by simp only [List.length_append, List.length_cons]; omega⟩
  · rcases h.par with o | ⟨p, l⟩
    · exact .inl o
    · refine .inr ⟨fun j q hj => ?_, by simp at l ⊢; omega⟩
      by_cases z : j < U.length
      · rw [List.getElem?_append_left z] at hj
        exact p j q (by rw [List.getElem?_append_left z]; exact hj)
      · rw [List.getElem?_append_right (by omega)] at hj
        have := p (j + 2) q (by rw [List.getElem?_append_right (by omega), show j + 2 - U.length = (j - U.length) + 2 by omega]; exact hj)
        omega
  · refine Iff.trans ?_ (h.rd z)
    have := RdW.strike (odd := odd) (s := s) (x := z) (ltr U) (ltr V) x.1
    rw [ltr_append]
    refine this.symm.trans ?_
    rw [ltr_append]
    show RdW odd s (ltr U ++ x.1 :: x.1 :: ltr V) z ↔ RdW odd s (ltr U ++ x.1 :: y.1 :: ltr V) z
    rw [ex]
/-- both ends struck -/
theorem strk_ends {odd : Bool} {ws : List Int} {s n : Nat} {ps : Pc} (h : Strk odd ws s ps) (hn : ps.length = n + 2) (e : ps[0].1 = ps[n + 1].1) : Strk odd ws (s + 1) (remTo ps 0 (n + 1) ps.length) ∧ (remTo ps 0 (n + 1) ps.length).length + 2 = ps.length := by
  obtain ⟨x, M, y, rfl⟩ : ∃ x M y, ps = x :: (M ++ [y]) := by
    cases ps with
    | nil => simp at hn
    | cons x r =>
      rcases List.eq_nil_or_concat r with z | ⟨M, y, z⟩
      · subst z; simp at hn
      · exact ⟨x, M, y, by rw [z, List.concat_eq_append]⟩
  have lM : M.length = n := by simp at hn; omega
  subst lM
  have ex : x.1 = y.1 := by
    simp only [List.getElem_cons_zero, List.getElem_cons_succ] at e
    rw [List.getElem_append_right (Nat.le_refl _)] at e
    simpa using e
  have er : remTo (x :: (M ++ [y])) 0 (M.length + 1) (x :: (M ++ [y])).length = M := by
    unfold remTo
    rw [hn, show min (M.length + 2) 0 = 0 by omega, show min (M.length + 2) (M.length + 1) = M.length + 1 by omega, List.take_zero, List.nil_append, drop_none (show M.length + 2 ≤ M.length + 1 + 1 by omega), List.append_nil]
    show (M ++ [y]).take M.length = M
    exact List.take_left
  rw [er]
  have pl : odd = true ∨ (ltr M).length % 2 = 0 := by
    rcases h.par with o | ⟨_, l⟩
    · exact .inl o
    · exact .inr (by unfold ltr; rw [List.length_map]; simp at l; omega)
  refine ⟨⟨?_, fun z => ?_⟩, by simp⟩
  · rcases h.par with o | ⟨p, l⟩
    · exact .inl o
    · refine .inr ⟨fun j q hj => ?_, by simp at l; omega⟩
      have jl := (List.getElem?_eq_some_iff.mp hj).1
      have := p (j + 1) q (by rw [List.getElem?_cons_succ, List.getElem?_append_left jl]; exact hj)
      omega
  · refine Iff.trans ?_ (h.rd z)
    have := RdW.ends (odd := odd) (s := s) (x := z) (ltr M) x.1 pl
    refine this.symm.trans ?_
    show _ ↔ RdW odd s (x.1 :: ltr (M ++ [y])) z
    rw [ltr_append]
    show _ ↔ RdW odd s (x.1 :: (ltr M ++ [y.1])) z
    rw [ex]
/-- like neighbours, round the ring, at the place k -/
def LikeAt (ps : Pc) (k : Nat) : Prop := ∃ h : k < ps.length, ∃ g : (if k = 0 then ps.length - 1 else k - 1) < ps.length, 1 < ps.length ∧ ps[k].1 = (ps[if k = 0 then ps.length - 1 else k - 1]).1
theorem strk_step {odd : Bool} {ws : List Int} {s : Nat} {ps : Pc} (h : Strk odd ws s ps) {k : Nat} (lk : LikeAt ps k) :
    ∃ lo hi s', lo < hi ∧ hi < ps.length ∧ ((k = hi ∧ k ≠ 0 ∧ lo = k - 1) ∨ (k = lo ∧ k = 0 ∧ hi = ps.length - 1)) ∧ Strk odd ws s' (remTo ps lo hi ps.length) ∧ (remTo ps lo hi ps.length).length + 2 = ps.length := by
  obtain ⟨h1, h2, h3, h4⟩ := lk
  by_cases z : k = 0
  · subst z
    obtain ⟨n, hn⟩ : ∃ n, ps.length = n + 2 := ⟨ps.length - 2, by omega⟩
    have e : ps[0].1 = (ps[n + 1]'(by omega)).1 := by
      rw [h4]
      congr 2
      rw [if_pos rfl]
      omega
    obtain ⟨a, b⟩ := strk_ends h hn e
    exact ⟨0, n + 1, s + 1, by omega, by omega, .inr ⟨rfl, rfl, by omega⟩, a, b⟩
  · obtain ⟨m, rfl⟩ : ∃ m, k = m + 1 := ⟨k - 1, by omega⟩
    have e : (ps[m]'(by omega)).1 = ps[m + 1].1 := by
      rw [h4]
      congr 2
    obtain ⟨a, b⟩ := strk_mid h (k := m) h1 e
    exact ⟨m, m + 1, s, by omega, h1, .inl ⟨rfl, by omega, by omega⟩, a, b⟩
theorem red_of : ∀ c : List Int, (∀ k, (h : k + 1 < c.length) → c[k + 1] ≠ c[k]) → Red c
  | [], _ => trivial
  | [_], _ => trivial
  | a :: b :: r, h => ⟨fun z => h 0 (by simp) z.symm, red_of (b :: r) fun k hk => h (k + 1) (by simp only [List.length_cons] at hk ⊢; omega)⟩
theorem nf_of : ∀ c : List Int, Red c → nf c = c
  | [], _ => rfl
  | a :: c, h => by
    show lm a (nf c) = a :: c
    rw [nf_of c h.tail]
    cases c with
    | nil => rfl
    | cons b r => exact if_neg h.1
/-- none like left: the readings -/
theorem strk_done {odd : Bool} {ws : List Int} {s : Nat} {ps : Pc} (h : Strk odd ws s ps) (none : ∀ k, ¬ LikeAt ps k) (x : List Int) : (∃ k, ∃ hk : k < ps.length, (odd = true ∨ ps[k].2 % 2 = 0) ∧ x = rot (ltr ps) k) ↔ RdW odd 0 ws x := by
  have lc : (ltr ps).length = ps.length := List.length_map _
  have at_ : ∀ k, (hk : k < ps.length) → (ltr ps)[k]'(by rw [lc]; exact hk) = ps[k].1 := fun k hk => by unfold ltr; rw [List.getElem_map]
  have red : Red (ltr ps) := red_of _ fun k hk z => by
    have hk' : k + 1 < ps.length := by rw [lc] at hk; exact hk
    rw [at_ (k + 1) hk', at_ k (by omega)] at z
    refine none (k + 1) ⟨hk', by rw [if_neg (by omega)]; omega, by omega, ?_⟩
    rw [z]
    congr 2
  have ne : ¬ Ends (ltr ps) := by
    intro z
    obtain ⟨a, m, e⟩ := ends_split z
    have l : ps.length = m.length + 2 := by rw [← lc, e]; simp
    refine none 0 ⟨by omega, by rw [if_pos rfl]; omega, by omega, ?_⟩
    have e1 : ps[0].1 = a := by
      rw [← at_ 0 (by omega)]
      simp only [e]
      rfl
    have e2 : (ps[m.length + 1]'(by omega)).1 = a := by
      rw [← at_ (m.length + 1) (by omega)]
      simp only [e, List.getElem_cons_succ]
      rw [List.getElem_append_right (Nat.le_refl _)]
      simp
    rw [e1, ← e2]
    congr 2
    rw [if_pos rfl]
    omega
  have tr : Trim 0 (nf (ltr ps)) (ltr ps) := by rw [nf_of _ red]; exact .stop ne
  rw [← h.rd x, RdW.of tr]
  constructor
  · rintro ⟨k, hk, h1, h2⟩
    refine ⟨k, by rw [lc]; exact hk, ?_, h2⟩
    rcases h.par with o | ⟨p, _⟩
    · exact .inl o
    · rcases h1 with o | h1
      · exact .inl o
      · have := p k _ (List.getElem?_eq_getElem hk)
        exact .inr (by omega)
  · rintro ⟨k, hk, h1, h2⟩
    rw [lc] at hk
    refine ⟨k, hk, ?_, h2⟩
    rcases h.par with o | ⟨p, _⟩
    · exact .inl o
    · rcases h1 with o | h1
      · exact .inl o
      · have := p k _ (List.getElem?_eq_getElem hk)
        exact .inr (by omega)
/-- a reading, letter by letter -/
theorem rot_at {c : List Int} {k i : Nat} (hk : k ≤ c.length) (hi : i < c.length) : (rot c k)[i]? = c[(k + i) % c.length]? := by
  unfold rot
  by_cases z : k + i < c.length
  · rw [List.getElem?_append_left (by rw [List.length_drop]; omega), List.getElem?_drop, Nat.mod_eq_of_lt z]
  · rw [List.getElem?_append_right (by rw [List.length_drop]; omega), List.length_drop, List.getElem?_take_of_lt (by omega), Nat.mod_eq_sub_mod (by omega), Nat.mod_eq_of_lt (by omega)]
    congr 1
    omega
end CoreX
end

-- Readings
section
set_option Elab.async false
set_option linter.all false
set_option maxRecDepth 100000
set_option maxHeartbeats 4000000
namespace R
open PySem PySem.Spec PyProof.Rows L2 LamX NdefX LamP CoreX TupX MinX BlkX
open GridX (nV)
def pcD (ps : Pc) : List PyData := ps.map fun p => PyData.tuple [.int p.1, .int ((p.2 : Nat) : Int)]
theorem pc_len {H : Hp} {vs : List V} {ps : Pc} (h : Tps H vs (pcD ps)) : vs.length = ps.length := by
  rw [h.length]
  unfold pcD
  rw [List.length_map]
theorem pc_get {H : Hp} {vs : List V} {ps : Pc} {k : Nat} (h : Tps H vs (pcD ps)) (hk : k < ps.length) : ∃ q, vs[k]? = some (.ref q) ∧ H q = some (.tup [.int ps[k].1, nV ps[k].2]) := by
  have hv : k < vs.length := by rw [pc_len h]; exact hk
  obtain ⟨d, hd, ht⟩ := h.get (List.getElem?_eq_getElem hv)
  unfold pcD at hd
  rw [List.getElem?_map, List.getElem?_eq_getElem hk] at hd
  cases hd
  generalize ev : vs[k] = v at ht
  cases ht with
  | tup hq t =>
    cases t with
    | cons t1 t2 =>
      cases t2 with
      | cons t2 t3 =>
        cases t3
        cases t1
        cases t2
        exact ⟨_, by rw [List.getElem?_eq_getElem hv, ev], hq⟩
section
variable {P : Program} {w : World} {K : PySem.W.Frag} {mg : Str → Option Value} {base : Heap}
def spReadings (TT : List NTab) : Sp := fun vs H Q _ => ∃ (l : Addr) (odd : Bool) (zs : List V) (ps : Pc), vs = [.ref l, .bl odd] ∧ H l = some (.lst zs) ∧ Tps H zs (pcD ps) ∧ ps.length ≤ 100 ∧
  ∀ D H' xs L, Ext TT none H H' → H' D = some (.lst xs) → Tps H' xs (rowsI' L) → (∀ x, x ∈ L ↔ ∃ k, ∃ hk : k < ps.length, (odd = true ∨ ps[k].2 % 2 = 0) ∧ x = rot (ltr ps) k) → Q (.ref D) H'
theorem ok_readings (T : Txt K mg) (TT : List NTab) : FnOk P w K mg base CX0 1 T.a_Lreadings T.d_Lreadings ["_law_left", "_law_odd"] (spReadings TT) := by
  refine T.F_Lreadings.ok sc_Lreadings (fun vs H Q E h => ?_) (fun cdv A outer s H vs Q E hr h => ?_)
  · obtain ⟨l, odd, zs, ps, rfl, _⟩ := h
    rfl
  · obtain ⟨l, odd, zs, ps, rfl, hl, hz, hlen, k⟩ := h
    have nd := sc_Lreadings.nd
    refine ⟨_, (pss_cons (ps_set (i := 2) nd rfl (Or.inl rfl) (pe_lst pa_nil))
        (pss_cons (ps_for PassesOwn.never rfl (pi_range1 (by rfl) T.n_range (pa_cons (pe_callB call_len_seq (by rfl) T.n_len PySem.boot_len (pa_cons (pv 0) pa_nil)) pa_nil)) (pg_name (i := 3) nd rfl (Or.inr rfl))
          (pss_one (ps_if (PW.pt (pw_or (pt_val (pv 1)) (pw_or1 (pt_cmpR op_eq (pe_op op_mod (pe_callTy call_int1 (by rfl) T.n_int (by decide +kernel) (pa_cons (pe_ix ix_tup (pe_ix ix_list (pv 0) (pv 3) (fun _ _ => rfl)) pe_int (fun _ _ => rfl)) pa_nil)) pe_int) pe_int (nomark _))))) (pss_one (ps_expr (pe_bm PySem.F.plainAttrs_list PySem.F.slot_list_append PySem.F.type_list_append mt_append (pv 2) (pa_cons (pe_callTy call_tuple_of (by rfl) T.n_tuple (by decide +kernel) (pa_cons (pe_lc (own := [("_law_i", 4)]) (g := gName 4) (tt := tYes) rfl nd (pi_range1 (by rfl) T.n_range (pa_cons (pe_callB call_len_seq (by rfl) T.n_len PySem.boot_len (pa_cons (pv 0) pa_nil)) pa_nil)) (blkOk_by (own := [("_law_i", 4)]) (N := N_Lreadings) (sc := defScope s_Lreadings) (by decide +kernel)) (fun _ _ _ _ _ => (pg_name (i := 4) nd rfl (Or.inl rfl))) (fun _ _ _ _ _ => pts_nil) (fun _ _ _ _ _ => (pe_ix (ixt K) (pe_ix (ixl K) (pv 0) (pe_op op_mod (pe_callTy call_int1 (by rfl) T.n_int (by decide +kernel) (pa_cons (pe_op op_add (pv 3) (pv 4)) pa_nil)) (pe_callB (clen K) (by rfl) T.n_len PySem.boot_len (pa_cons (pv 0) pa_nil))) (fun _ _ => rfl)) pe_int (fun _ _ => rfl)))) pa_nil)) pa_nil)))) pss_nil)))
        (pss_one (ps_ret (pv 2))))), ?_⟩
    have lz := pc_len hz
    have lc : (ltr ps).length = ps.length := List.length_map _
    refine ⟨Nat.zero_le _, fun D hD => ?_⟩
    obtain ⟨x0, h0⟩ := newX (TT := TT) (so := none) (o := .lst []) (Ext.refl _ _ H) hD
    generalize upd H D (.lst []) = H0 at x0 h0 ⊢
    refine ⟨_, rfl, l, _, rfl, .inl (SqL.of (x0.lst hl)), (ps.length : Int), by rw [lz], by omega, by omega, for_range (lo := 0) (n := (ps.length : Int).toNat) (fun j σ H' => ∃ (u3 : Option V) (vs : List V) (L : List (List Int)), σ = [some (.ref l), some (.bl odd), some (.ref D), u3, none] ∧ Ext TT none H H' ∧ H' D = some (.lst vs) ∧ Tps H' vs (rowsI' L) ∧ vs.length ≤ j ∧ ∀ x, x ∈ L ↔ ∃ k, ∃ hk : k < ps.length, k < j ∧ (odd = true ∨ ps[k].2 % 2 = 0) ∧ x = rot (ltr ps) k)
      ⟨none, [], [], rfl, x0, h0, .nil, Nat.le_refl _, fun x => ⟨(fun z => nomatch z), fun ⟨_, _, z, _⟩ => absurd z (Nat.not_lt_zero _)⟩⟩ ?_ ?_⟩
    · rintro j σ H1 hj ⟨u3, vs, L, rfl, x1, h1, hvs, lv, mem⟩
      have hj' : j < ps.length := by omega
      rw [Int.zero_add]
      have hl1 := x1.lst hl
      have hz1 := hz.mono x1.tk
      obtain ⟨q, hq1, hq2⟩ := pc_get hz1 hj'
      have app : (odd = true ∨ ps[j].2 % 2 = 0) → ∀ {t : Addr} {G : Hp}, Ext TT none H1 G → G t = some (.tup ((rot (ltr ps) j).map V.int)) → ∃ (u3 : Option V) (vs' : List V) (L' : List (List Int)), [some (V.ref l), some (.bl odd), some (.ref D), some (nV j), none] = [some (V.ref l), some (.bl odd), some (.ref D), u3, none] ∧ Ext TT none H (upd G D (.lst (vs ++ [V.ref t]))) ∧ upd G D (.lst (vs ++ [V.ref t])) D = some (.lst vs') ∧ Tps (upd G D (.lst (vs ++ [V.ref t]))) vs' (rowsI' L') ∧ vs'.length ≤ j + 1 ∧ ∀ x, x ∈ L' ↔ ∃ k, ∃ hk : k < ps.length, k < j + 1 ∧ (odd = true ∨ ps[k].2 % 2 = 0) ∧ x = rot (ltr ps) k := by
        intro g t G xG hG
        have hDG := xG.lst h1
        refine ⟨_, vs ++ [V.ref t], L ++ [rot (ltr ps) j], rfl, (x1.trans xG).mutL hD hDG (fun z => nomatch z), upd_same, ?_, by rw [List.length_append]; simp only [List.length_cons, List.length_nil]; omega, fun x => ?_⟩
        · rw [rowsI_append]
          refine ((hvs.mono xG.tk).mono (TK.lst hDG)).append (.cons ?_ .nil)
          exact (rowI_tp hG).mono (TK.lst hDG)
        · rw [List.mem_append, mem x, List.mem_singleton]
          constructor
          · rintro (⟨q, hq, q1, q2, q3⟩ | z)
            · exact ⟨q, hq, by omega, q2, q3⟩
            · exact ⟨j, hj', by omega, g, z⟩
          · rintro ⟨q, hq, q1, q2, q3⟩
            by_cases z : q = j
            · subst z; exact .inr q3
            · exact .inl ⟨q, hq, by omega, q2, q3⟩
      refine ⟨_, rfl, _, rfl, ?_⟩
      cases odd with
      | true =>
        refine iteT ?_
        refine ⟨_, rfl, Or.inl ⟨rfl, _, SqL.of h1⟩, ?_⟩
        refine ⟨_, rfl, l, _, rfl, .inl (SqL.of hl1), (ps.length : Int), by rw [lz], by omega, by omega, fun E hE => ?_⟩
        rw [Int.toNat_natCast]
        refine lc_it walk_range (fun i H' => Ext TT none H1 H' ∧ H' E = some (.lst (((rot (ltr ps) j).take i).map V.int))) ⟨Ext.new hE, upd_same⟩ (fun _ _ _ _ => trivial) (fun i x H3 H2 hi e y => ?_) (fun H2 e => ?_)
        · obtain ⟨rfl, rfl⟩ := y
          obtain ⟨x2, h2⟩ := e
          refine ⟨rfl, ?_⟩
          dsimp only [tYes]
          refine iteT ?_
          have hl2 := x2.lst hl1
          have hz2 := hz1.mono x2.tk
          have pl : 0 < ps.length := by omega
          obtain ⟨o, eo⟩ : ∃ o, o = (j + i) % ps.length := ⟨_, rfl⟩
          have ho : o < ps.length := by rw [eo]; exact Nat.mod_lt _ pl
          obtain ⟨q2, hq3, hq4⟩ := pc_get hz2 ho
          have ei : ((j : Int) + (0 + (i : Int))) % ((zs.length : Nat) : Int) = (o : Int) := by
            rw [lz, eo, Int.zero_add, ← Int.natCast_add, Int.natCast_emod]
          refine ⟨_, rfl, _, rfl, _, rfl, _, _, rfl, rfl, .inl ⟨_, rfl, _, rfl, l, _, rfl, .inl (SqL.of hl2), _, _, rfl, rfl, by show (0 : Int) < ((zs.length : Nat) : Int); omega, ?_⟩⟩
          refine ⟨l, _, _, .ref q2, rfl, rfl, SqL.of hl2, by rw [ei]; exact atI_nat hq3, ?_⟩
          refine ⟨q2, _, _, .int ps[o].1, rfl, rfl, SqT.of hq4, atI_nat (j := 0) rfl, ?_⟩
          have er : (rot (ltr ps) j)[i]? = some ps[o].1 := by
            rw [rot_at (by omega) (by omega), lc, ← eo]
            unfold ltr
            rw [List.getElem?_map, List.getElem?_eq_getElem ho] <;> rfl
          refine ⟨_, h2, by rw [List.length_map, List.length_take]; exact small1000 (by omega), x2.mutL hE h2 (fun z => nomatch z), ?_⟩
          rw [upd_same, List.take_succ, er, List.map_append] <;> rfl
        · obtain ⟨x2, h2⟩ := e
          rw [List.take_of_length_le (by rw [rot_len, lc]; exact Nat.le_refl _)] at h2
          refine ⟨E, _, rfl, .inl ⟨SqL.of h2, fun t nt => ?_⟩⟩
          have xG := x2.trans (Ext.new (T := TT) (so := none) (o := .tup ((rot (ltr ps) j).map V.int)) nt)
          have hD2 := xG.lst h1
          refine ⟨D, vs, _, rfl, rfl, hD2, small1000 (by omega), ?_⟩
          exact app (.inl rfl) xG upd_same
      | false =>
        refine iteF ?_
        refine ⟨_, rfl, _, rfl, l, _, _, _, rfl, rfl, SqL.of hl1, atI_nat hq1, q, _, _, nV ps[j].2, rfl, rfl, SqT.of hq2, atI_nat (j := 1) rfl, .inl ⟨_, rfl, _, _, rfl, rfl, (by show (0 : Int) < 2; decide), rfl, _, rfl, ?_⟩⟩
        refine iteB (fun g => ?_) (fun g => ?_)
        · have ev : ps[j].2 % 2 = 0 := by
            have g : V.int (((ps[j].2 : Nat) : Int) % 2) = V.int 0 := of_decide_eq_true g
            injection g with g
            omega
          refine ⟨_, rfl, Or.inl ⟨rfl, _, SqL.of h1⟩, ?_⟩
          refine ⟨_, rfl, l, _, rfl, .inl (SqL.of hl1), (ps.length : Int), by rw [lz], by omega, by omega, fun E hE => ?_⟩
          rw [Int.toNat_natCast]
          refine lc_it walk_range (fun i H' => Ext TT none H1 H' ∧ H' E = some (.lst (((rot (ltr ps) j).take i).map V.int))) ⟨Ext.new hE, upd_same⟩ (fun _ _ _ _ => trivial) (fun i x H3 H2 hi e y => ?_) (fun H2 e => ?_)
          · obtain ⟨rfl, rfl⟩ := y
            obtain ⟨x2, h2⟩ := e
            refine ⟨rfl, ?_⟩
            dsimp only [tYes]
            refine iteT ?_
            have hl2 := x2.lst hl1
            have hz2 := hz1.mono x2.tk
            have pl : 0 < ps.length := by omega
            obtain ⟨o, eo⟩ : ∃ o, o = (j + i) % ps.length := ⟨_, rfl⟩
            have ho : o < ps.length := by rw [eo]; exact Nat.mod_lt _ pl
            obtain ⟨q2, hq3, hq4⟩ := pc_get hz2 ho
            have ei : ((j : Int) + (0 + (i : Int))) % ((zs.length : Nat) : Int) = (o : Int) := by
              rw [lz, eo, Int.zero_add, ← Int.natCast_add, Int.natCast_emod]
            refine ⟨_, rfl, _, rfl, _, rfl, _, _, rfl, rfl, .inl ⟨_, rfl, _, rfl, l, _, rfl, .inl (SqL.of hl2), _, _, rfl, rfl, by show (0 : Int) < ((zs.length : Nat) : Int); omega, ?_⟩⟩
            refine ⟨l, _, _, .ref q2, rfl, rfl, SqL.of hl2, by rw [ei]; exact atI_nat hq3, ?_⟩
            refine ⟨q2, _, _, .int ps[o].1, rfl, rfl, SqT.of hq4, atI_nat (j := 0) rfl, ?_⟩
            have er : (rot (ltr ps) j)[i]? = some ps[o].1 := by
              rw [rot_at (by omega) (by omega), lc, ← eo]
              unfold ltr
              rw [List.getElem?_map, List.getElem?_eq_getElem ho] <;> rfl
            refine ⟨_, h2, by rw [List.length_map, List.length_take]; exact small1000 (by omega), x2.mutL hE h2 (fun z => nomatch z), ?_⟩
            rw [upd_same, List.take_succ, er, List.map_append] <;> rfl
          · obtain ⟨x2, h2⟩ := e
            rw [List.take_of_length_le (by rw [rot_len, lc]; exact Nat.le_refl _)] at h2
            refine ⟨E, _, rfl, .inl ⟨SqL.of h2, fun t nt => ?_⟩⟩
            have xG := x2.trans (Ext.new (T := TT) (so := none) (o := .tup ((rot (ltr ps) j).map V.int)) nt)
            have hD2 := xG.lst h1
            refine ⟨D, vs, _, rfl, rfl, hD2, small1000 (by omega), ?_⟩
            exact app (.inr ev) xG upd_same
        · have nev : ¬ ps[j].2 % 2 = 0 := by
            have g : ¬ V.int (((ps[j].2 : Nat) : Int) % 2) = V.int 0 := of_decide_eq_false g
            intro z
            exact g (congrArg V.int (by omega))
          refine ⟨_, vs, L, rfl, x1, h1, hvs, by omega, fun x => ?_⟩
          rw [mem x]
          constructor
          · rintro ⟨q, hq, q1, q2, q3⟩
            exact ⟨q, hq, by omega, q2, q3⟩
          · rintro ⟨q, hq, q1, q2, q3⟩
            refine ⟨q, hq, ?_, q2, q3⟩
            by_cases z : q = j
            · subst z
              rcases q2 with q2 | q2
              · cases q2
              · exact absurd q2 nev
            · omega
    · rintro σ H1 ⟨u3, vs, L, rfl, x1, h1, hvs, lv, mem⟩
      rw [Int.toNat_natCast] at mem
      refine ⟨_, rfl, k D _ vs L x1 h1 hvs fun x => (mem x).trans ⟨fun ⟨q, hq, _, z⟩ => ⟨q, hq, z⟩, fun ⟨q, hq, z⟩ => ⟨q, hq, hq, z⟩⟩⟩
end
end R
end

-- Struck
section
set_option Elab.async false
set_option linter.all false
set_option maxRecDepth 100000
set_option maxHeartbeats 4000000
namespace R
open PySem PySem.Spec PyProof.Rows L2 LamX NdefX LamP CoreX TupX MinX BlkX
open GridX (nV)
theorem ev_of (n : Nat) : oddB n = true ∨ n % 2 = 0 := by
  unfold oddB
  by_cases h : n % 2 = 0
  · exact .inr h
  · exact .inl (beq_iff_eq.mpr (by omega))
def pc0 (ws : List Int) (n : Nat) : Pc := (List.range n).map fun i => (ws.getD i 0, i)
theorem pc0_len (ws : List Int) (n : Nat) : (pc0 ws n).length = n := by unfold pc0; simp
theorem pc0_ltr (ws : List Int) : ltr (pc0 ws ws.length) = ws := by
  unfold ltr pc0
  rw [List.map_map]
  refine List.ext_getElem (by simp) fun i h1 h2 => ?_
  simp only [List.getElem_map, List.getElem_range]
  exact getD_at h2
theorem strk0 (ws : List Int) : Strk (oddB ws.length) ws 0 (pc0 ws ws.length) := by
  refine ⟨?_, fun x => by rw [pc0_ltr]⟩
  rcases ev_of ws.length with o | e
  · exact .inl o
  · refine .inr ⟨fun j p hj => ?_, by rw [pc0_len]; exact e⟩
    unfold pc0 at hj
    rw [List.getElem?_map] at hj
    cases er : (List.range ws.length)[j]? with
    | none => rw [er] at hj; cases hj
    | some z =>
      rw [er] at hj
      cases hj
      have := List.getElem?_range (List.getElem?_eq_some_iff.mp er).1
      have hz := (List.getElem?_eq_some_iff.mp er).2
      rw [List.getElem_range] at hz
      show z % 2 = (0 + j) % 2
      omega
theorem pcD_append (a b : Pc) : pcD (a ++ b) = pcD a ++ pcD b := by unfold pcD; rw [List.map_append]
theorem pc_last {H : Hp} {vs : List V} {ps : Pc} (h : Tps H vs (pcD ps)) (hk : 0 < ps.length) : ∃ q, atI vs (-1) = some (.ref q) ∧ H q = some (.tup [.int (ps[ps.length - 1]'(by omega)).1, nV (ps[ps.length - 1]'(by omega)).2]) := by
  obtain ⟨q, h1, h2⟩ := pc_get h (show ps.length - 1 < ps.length by omega)
  refine ⟨q, ?_, h2⟩
  have lv := pc_len h
  rcases List.eq_nil_or_concat vs with e | ⟨m, y, e⟩
  · rw [e] at lv; simp at lv; omega
  · rw [List.concat_eq_append] at e
    subst e
    rw [at_last]
    rw [List.length_append] at lv
    simp only [List.length_cons, List.length_nil] at lv
    rw [show ps.length - 1 = m.length by omega, List.getElem?_append_right (Nat.le_refl _), Nat.sub_self] at h1
    exact h1
section
variable {P : Program} {w : World} {K : PySem.W.Frag} {mg : Str → Option Value} {base : Heap}
def spStruck (TT : List NTab) : Sp := fun vs H Q _ => ∃ (so lr : Addr) (ws : List Int), vs = [.ref so, .ref lr] ∧ Src H so ∧ H lr = some (.lst (ws.map V.int)) ∧ lr ≠ so ∧ 1 ≤ ws.length ∧ ws.length ≤ 40 ∧
  RetS TT so H Q fun v H' => ∃ (l : Addr) (zs : List V) (ps : Pc), v = .ref l ∧ H' l = some (.lst zs) ∧ Tps H' zs (pcD ps) ∧ ps.length ≤ 40 ∧ ∀ x, (∃ k, ∃ hk : k < ps.length, (oddB ws.length = true ∨ ps[k].2 % 2 = 0) ∧ x = rot (ltr ps) k) ↔ RdW (oddB ws.length) 0 ws x
theorem ok_struck_so (T : Txt K mg) (TT : List NTab) : FnOk P w K mg base CX0 3 T.a_Lstruck_so T.d_Lstruck_so ["_law_source", "_law_row"] (spStruck TT) := by
  refine T.F_Lstruck_so.ok sc_Lstruck_so (fun vs H Q E h => ?_) (fun cdv A outer s H vs Q E hr h => ?_)
  · obtain ⟨so, lr, ws, rfl, _⟩ := h
    rfl
  · obtain ⟨so, lr, ws, rfl, hs, hlr, nlr, hw1, hw2, k⟩ := h
    have nd := sc_Lstruck_so.nd
    refine ⟨_, (pss_cons (ps_set (i := 2) nd rfl (Or.inr rfl) (pe_lc (own := [("_law_i", 7)]) (g := gName 7) (tt := tYes) rfl nd (pi_range1 (by rfl) T.n_range (pa_cons (pe_callB call_len_seq (by rfl) T.n_len PySem.boot_len (pa_cons (pv 1) pa_nil)) pa_nil)) (blkOk_by (own := [("_law_i", 7)]) (N := N_Lstruck_so) (sc := defScope s_Lstruck_so) (by decide +kernel)) (fun _ _ _ _ _ => (pg_name (i := 7) nd rfl (Or.inl rfl))) (fun _ _ _ _ _ => pts_nil) (fun _ _ _ _ _ => (pe_tup (pa_cons (pe_ix (ixl K) (pv 1) (pv 7) (fun _ _ => rfl)) (pa_cons (pv 7) pa_nil))))))
        (pss_cons (ps_for PassesOwn.never rfl (pi_range1 (by rfl) T.n_range (pa_cons (pe_callB call_len_seq (by rfl) T.n_len PySem.boot_len (pa_cons (pv 1) pa_nil)) pa_nil)) (pg_name (i := 3) nd rfl (Or.inl rfl))
          (pss_cons (ps_setLc (i := 4) (own := [("_law_k", 8)]) (g := gName 8) rfl nd rfl rfl (sw_true rfl rfl rfl (by decide +kernel)) (pi_range1 (by rfl) T.n_range (pa_cons (pe_callB call_len_seq (by rfl) T.n_len PySem.boot_len (pa_cons (pv 2) pa_nil)) pa_nil)) (blkOk_by (own := [("_law_k", 8)]) (N := N_Lstruck_so) (sc := defScope s_Lstruck_so) (by decide +kernel)) (fun _ _ _ _ _ => (pg_name (i := 8) nd rfl (Or.inl rfl))) (fun _ _ _ _ _ => (pts_one (PW.pt (pw_and (pt_cmpR op_gt (pe_callB (clen K) (by rfl) T.n_len PySem.boot_len (pa_cons (pv 2) pa_nil)) pe_int (nomark _)) (pw_and1 (pt_cmpR op_eq (pe_ix (ixt K) (pe_ix (ixl K) (pv 2) (pv 8) (fun _ _ => rfl)) pe_int (fun _ _ => rfl)) (pe_ix (ixt K) (pe_ix (ixl K) (pv 2) (pe_op op_sub (pv 8) pe_int) (fun _ _ => rfl)) pe_int (fun _ _ => rfl)) (nomark _))))))) (fun _ _ _ _ _ => (pv 8)))
        (pss_one (ps_if (pt_truth (pv 4) (by intro _; rfl)) (pss_cons (ps_set (i := 5) nd rfl (Or.inr rfl) (pe_call (ok_one T TT) (hr.mono (by decide)) rfl T.g_Lone T.F_Lone.kp T.b_Lone .nil pass0 (pa_cons (pv 0) (pa_cons (pv 4) pa_nil))))
        (pss_cons (ps_set (i := 6) nd rfl (Or.inr rfl) (pe_op op_mod (pe_callTy call_int1 (by rfl) T.n_int (by decide +kernel) (pa_cons (pe_op op_sub (pv 5) pe_int) pa_nil)) (pe_callB call_len_seq (by rfl) T.n_len PySem.boot_len (pa_cons (pv 2) pa_nil))))
        (pss_one (ps_set (i := 2) nd rfl (Or.inr rfl) (pe_lc (own := [("_law_k", 8)]) (g := gName 8) rfl nd (pi_range1 (by rfl) T.n_range (pa_cons (pe_callB call_len_seq (by rfl) T.n_len PySem.boot_len (pa_cons (pv 2) pa_nil)) pa_nil)) (blkOk_by (own := [("_law_k", 8)]) (N := N_Lstruck_so) (sc := defScope s_Lstruck_so) (by decide +kernel)) (fun _ _ _ _ _ => (pg_name (i := 8) nd rfl (Or.inl rfl))) (fun _ _ _ _ _ => (pts_one (PW.pt (pw_and (pt_cmpR op_ne (pv 8) (pv 5) (nomark _)) (pw_and1 (pt_cmpR op_ne (pv 8) (pv 6) (nomark _))))))) (fun _ _ _ _ _ => (pe_ix (ixl K) (pv 2) (pv 8) (fun _ _ => rfl)))))))) pss_nil))))
        (pss_one (ps_ret (pv 2))))), ?_⟩
    have lV : (ws.map V.int).length = ws.length := List.length_map _
    refine ⟨_, rfl, lr, _, rfl, .inl (SqL.of hlr), (ws.length : Int), by rw [lV], by omega, by omega, fun D hD => ?_⟩
    rw [Int.toNat_natCast]
    have nD : D ≠ so := src_ne hs hD
    refine lc_it walk_range (fun j H' => Ext TT none H H' ∧ ∃ vs, H' D = some (.lst vs) ∧ Tps H' vs (pcD (pc0 ws j))) ⟨Ext.new hD, [], upd_same, .nil⟩ (fun _ _ _ _ => trivial) (fun j x H2 H1 hj e y => ?_) (fun H1 e => ?_)
    · obtain ⟨rfl, rfl⟩ := y
      obtain ⟨x1, vs, h1, hvs⟩ := e
      have lvs := pc_len hvs
      rw [pc0_len] at lvs
      refine ⟨rfl, ?_⟩
      dsimp only [tYes]
      refine iteT ?_
      have a1 : atI (ws.map V.int) (0 + (j : Int)) = some (.int (ws.getD j 0)) := by rw [Int.zero_add]; exact at_row (by omega)
      refine ⟨_, rfl, _, rfl, lr, _, _, _, rfl, rfl, SqL.of (x1.lst hlr), a1, _, rfl, (by show 2 ≤ sizeLine; decide), fun p np => ?_⟩
      have x2 := x1.trans (Ext.new (T := TT) (so := none) (o := .tup [.int (ws.getD j 0), .int (0 + (j : Int))]) np)
      have h2 : upd H1 p (.tup [.int (ws.getD j 0), .int (0 + (j : Int))]) D = some (.lst vs) := (upd_ne (ne_of_none h1 np)).trans h1
      refine ⟨vs, h2, small1000 (by omega), x2.mutL hD h2 (fun z => nomatch z), _, upd_same, ?_⟩
      have e : pc0 ws (j + 1) = pc0 ws j ++ [(ws.getD j 0, j)] := by unfold pc0; rw [List.range_succ, List.map_append] <;> rfl
      rw [e, pcD_append]
      refine ((hvs.mono (TK.new np)).mono (TK.lst h2)).append (.cons ?_ .nil)
      have hp : upd H1 p (.tup [.int (ws.getD j 0), .int (0 + (j : Int))]) p = some (.tup [.int (ws.getD j 0), nV j]) := by rw [upd_same, Int.zero_add] <;> rfl
      exact (Tp.tup hp (.cons (.int _) (.cons (.int _) .nil))).mono (TK.lst h2)
    · obtain ⟨x1, vs, h1, hvs⟩ := e
      refine ⟨_, rfl, lr, _, rfl, .inl (SqL.of (x1.lst hlr)), (ws.length : Int), by rw [lV], by omega, by omega, for_range (lo := 0) (n := (ws.length : Int).toNat) (fun i σ H' => ∃ (l : Addr) (zs : List V) (ps : Pc) (s : Nat) (u3 u4 u5 u6 : Option V), σ = [some (.ref so), some (.ref lr), some (.ref l), u3, u4, u5, u6, none, none] ∧ Ext TT (some so) H H' ∧ Src H' so ∧ H' l = some (.lst zs) ∧ l ≠ so ∧ Tps H' zs (pcD ps) ∧ Strk (oddB ws.length) ws s ps ∧ ps.length ≤ 40 ∧ ((∀ k, ¬ LikeAt ps k) ∨ ps.length + 2 * i ≤ ws.length))
        ⟨D, vs, _, 0, none, none, none, none, rfl, x1.toS, x1.toS.src hs, h1, nD, hvs, strk0 ws, by rw [pc0_len]; omega, .inr (by rw [pc0_len]; omega)⟩ ?_ ?_⟩
      · rintro i σ H2 hi ⟨l, zs, ps, s, u3, u4, u5, u6, rfl, x2, s2, hl, nl, hz, st, lps, pr⟩
        have lz := pc_len hz
        refine seq_cut (fun σ H' => ∃ (lk : Addr) (ks : List Nat), σ = [some (.ref so), some (.ref lr), some (.ref l), some (.int (0 + (i : Int))), some (.ref lk), u5, u6, none, none] ∧ Ext TT none H2 H' ∧ H2 lk = none ∧ H' lk = some (.lst (ks.map nV)) ∧ ks.length ≤ 40 ∧ ∀ q, q ∈ ks ↔ LikeAt ps q) (fun R join => ?_) ?_
        · refine ⟨_, rfl, l, _, rfl, .inl (SqL.of hl), (ps.length : Int), by rw [lz], by omega, by omega, fun D hD => ?_⟩
          rw [Int.toNat_natCast]
          refine lc_it walk_range (fun j H' => Ext TT none H2 H' ∧ ∃ ks : List Nat, H' D = some (.lst (ks.map nV)) ∧ ks.length ≤ j ∧ ∀ q, q ∈ ks ↔ q < j ∧ LikeAt ps q) ⟨Ext.new hD, [], upd_same, Nat.le_refl _, fun q => ⟨(fun z => nomatch z), fun z => absurd z.1 (Nat.not_lt_zero _)⟩⟩ (fun _ _ _ _ => trivial) (fun j x H4 H3 hj e y => ?_) (fun H3 e => ?_)
          · obtain ⟨rfl, rfl⟩ := y
            obtain ⟨x3, ks, hk, lks, mem⟩ := e
            have hl3 := x3.lst hl
            have hz3 := hz.mono x3.tk
            have skip : ¬ LikeAt ps j → (Ext TT none H2 H3 ∧ ∃ ks : List Nat, H3 D = some (.lst (ks.map nV)) ∧ ks.length ≤ j + 1 ∧ ∀ q, q ∈ ks ↔ q < j + 1 ∧ LikeAt ps q) := fun n => by
              refine ⟨x3, ks, hk, by omega, fun q => (mem q).trans ⟨fun z => ⟨by omega, z.2⟩, fun z => ⟨?_, z.2⟩⟩⟩
              by_cases y : q = j
              · subst y; exact absurd z.2 n
              · omega
            refine ⟨rfl, ?_⟩
            refine ⟨_, rfl, l, _, rfl, .inl (SqL.of hl3), _, _, rfl, rfl, _, rfl, ?_⟩
            rw [lz]
            refine iteB (fun g => ?_) (fun g => ?_)
            · have g1 : 1 < ps.length := by
                have := of_decide_eq_true g
                omega
              obtain ⟨q1, hq1, hq2⟩ := pc_get hz3 hj
              have gp : (if j = 0 then ps.length - 1 else j - 1) < ps.length := by split <;> omega
              obtain ⟨q2, hq3, hq4⟩ : ∃ q2, atI zs (0 + (j : Int) - 1) = some (.ref q2) ∧ H3 q2 = some (.tup [.int (ps[if j = 0 then ps.length - 1 else j - 1]).1, nV (ps[if j = 0 then ps.length - 1 else j - 1]).2]) := by
                by_cases z : j = 0
                · subst z
                  obtain ⟨q2, a, b⟩ := pc_last hz3 (show 0 < ps.length by omega)
                  exact ⟨q2, a, b⟩
                · obtain ⟨q2, a, b⟩ := pc_get hz3 (show j - 1 < ps.length by omega)
                  refine ⟨q2, ?_, ?_⟩
                  · rw [show 0 + (j : Int) - 1 = ((j - 1 : Nat) : Int) by omega]
                    exact atI_nat a
                  · simp only [if_neg z]
                    exact b
              refine ⟨_, rfl, _, rfl, l, _, _, .ref q1, rfl, rfl, SqL.of hl3, by rw [Int.zero_add]; exact atI_nat hq1, q1, _, _, .int ps[j].1, rfl, rfl, SqT.of hq2, atI_nat (j := 0) rfl, ?_⟩
              refine ⟨_, rfl, _, rfl, _, _, rfl, rfl, l, _, _, .ref q2, rfl, rfl, SqL.of hl3, hq3, q2, _, _, .int (ps[if j = 0 then ps.length - 1 else j - 1]).1, rfl, rfl, SqT.of hq4, atI_nat (j := 0) rfl, rfl, _, rfl, ?_⟩
              refine iteB (fun g2 => ?_) (fun g2 => ?_)
              · have lk : LikeAt ps j := ⟨hj, gp, g1, by
                  have g2 : V.int ps[j].1 = V.int (ps[if j = 0 then ps.length - 1 else j - 1]).1 := of_decide_eq_true g2
                  injection g2⟩
                refine ⟨_, rfl, _, hk, by rw [List.length_map]; exact small1000 (by omega), x3.mutL hD hk (fun z => nomatch z), ks ++ [j], ?_, by rw [List.length_append]; simp only [List.length_cons, List.length_nil]; omega, fun q => ?_⟩
                · rw [upd_same, List.map_append]
                  show some (HO.lst (ks.map nV ++ [V.int (0 + (j : Int))])) = _
                  rw [Int.zero_add] <;> rfl
                · rw [List.mem_append, mem q, List.mem_singleton]
                  constructor
                  · rintro (z | z)
                    · exact ⟨by omega, z.2⟩
                    · subst z; exact ⟨by omega, lk⟩
                  · rintro ⟨z1, z2⟩
                    by_cases y : q = j
                    · exact .inr y
                    · exact .inl ⟨by omega, z2⟩
              · refine skip fun lk => ?_
                obtain ⟨_, _, _, z⟩ := lk
                have g2 : ¬ V.int ps[j].1 = V.int (ps[if j = 0 then ps.length - 1 else j - 1]).1 := of_decide_eq_false g2
                exact g2 (congrArg V.int z)
            · have g1 : ¬ 1 < ps.length := by
                have := of_decide_eq_false g
                omega
              exact skip fun ⟨_, _, z, _⟩ => g1 z
          · obtain ⟨x3, ks, hk, lks, mem⟩ := e
            exact join _ _ ⟨D, ks, rfl, x3, hD, hk, by omega, fun q => (mem q).trans ⟨fun z => z.2, fun z => ⟨z.1, z⟩⟩⟩
        · rintro σ H3 ⟨lk, ks, rfl, x3, nlk, hk, lks, mem⟩
          have hl3 := x3.lst hl
          have hz3 := hz.mono x3.tk
          have s3 := x3.toS.src s2
          have x23 := x2.trans x3.toS
          have nlkso : lk ≠ so := src_ne s2 nlk
          refine ⟨_, rfl, _, .inl ⟨_, SqL.of hk, rfl⟩, ?_⟩
          cases ks with
          | nil =>
            refine iteF' rfl ?_
            exact ⟨l, zs, ps, s, _, _, _, _, rfl, x23, s3, hl3, nl, hz3, st, lps, .inl fun q z => nomatch (mem q).mpr z⟩
          | cons k1 kr =>
            refine iteT' rfl ?_
            refine ⟨_, rfl, _, rfl, so, lk, _, rfl, s3, hk, nlkso, by rw [List.length_map, List.length_cons]; omega, by rw [List.length_map]; omega, fun v H4 x4 s4 hv => ?_⟩
            obtain ⟨q, hq, rfl⟩ := List.mem_map.mp hv
            have lq := (mem q).mp hq
            have hq0 := lq
            obtain ⟨qn, _, q1, _⟩ := hq0
            obtain ⟨lo, hi, s', lh, hn, hc, st', ln⟩ := strk_step st lq
            have hl4 := x4.lstS nl hl3
            have hz4 := hz3.mono (x4.tkS s3)
            have eo : ((q : Int) - 1) % (ps.length : Int) = (((if q = hi then lo else hi) : Nat) : Int) := by
              rcases hc with ⟨c1, c2, c3⟩ | ⟨c1, c2, c3⟩
              · rw [if_pos c1, Int.emod_eq_of_lt (by omega) (by omega)]
                omega
              · rw [if_neg (by omega)]
                have h : ((q : Int) - 1 + (ps.length : Int)) % (ps.length : Int) = ((q : Int) - 1) % (ps.length : Int) := by simp
                rw [← h, Int.emod_eq_of_lt (by omega) (by omega)]
                omega
            obtain ⟨o, ho⟩ : ∃ o : Nat, o = (if q = hi then lo else hi) := ⟨_, rfl⟩
            rw [← ho] at eo
            have two : ∀ j : Nat, (j ≠ q ∧ j ≠ o) ↔ (j ≠ lo ∧ j ≠ hi) := fun j => by
              rcases hc with ⟨c1, c2, c3⟩ | ⟨c1, c2, c3⟩
              · rw [if_pos c1] at ho; omega
              · rw [if_neg (by omega)] at ho; omega
            refine ⟨_, rfl, _, _, rfl, rfl, .inl ⟨_, rfl, _, rfl, l, _, rfl, .inl (SqL.of hl4), _, _, rfl, rfl, by show (0 : Int) < ((zs.length : Nat) : Int); omega, ?_⟩⟩
            rw [lz]
            show gName 6 (V.int (((q : Int) - 1) % (ps.length : Int))) _ _ _
            rw [eo]
            refine ⟨_, rfl, l, _, rfl, .inl (SqL.of hl4), (ps.length : Int), by rw [lz], by omega, by omega, fun D hD => ?_⟩
            have nDso : D ≠ so := src_ne s4 hD
            rw [Int.toNat_natCast]
            refine lc_it walk_range (fun j H' => Ext TT none H4 H' ∧ ∃ vs, H' D = some (.lst vs) ∧ vs.length ≤ j ∧ Tps H' vs (pcD (remTo ps lo hi j))) ⟨Ext.new hD, [], upd_same, Nat.le_refl _, by rw [rem_zero]; exact .nil⟩ (fun _ _ _ _ => trivial) (fun j x H6 H5 hj e y => ?_) (fun H5 e => ?_)
            · obtain ⟨rfl, rfl⟩ := y
              obtain ⟨x5, vs, h5, lvs, hvs⟩ := e
              have skip : (j = lo ∨ j = hi) → (Ext TT none H4 H5 ∧ ∃ vs, H5 D = some (.lst vs) ∧ vs.length ≤ j + 1 ∧ Tps H5 vs (pcD (remTo ps lo hi (j + 1)))) := fun z => ⟨x5, vs, h5, by omega, by rw [rem_skip lh hj z]; exact hvs⟩
              refine ⟨rfl, ?_⟩
              refine ⟨_, rfl, _, rfl, rfl, _, rfl, ?_⟩
              refine iteB (fun g => ?_) (fun g => ?_)
              · have g1 : j ≠ q := by
                  rintro rfl
                  have g : (!decide (V.int (0 + (j : Int)) = nV j)) = true := g
                  rw [Int.zero_add] at g
                  simp [nV] at g
                refine ⟨_, rfl, _, rfl, rfl, _, rfl, ?_⟩
                refine iteB (fun g2 => ?_) (fun g2 => ?_)
                · have g3 : j ≠ o := by
                    rintro rfl
                    have g2 : (!decide (V.int (0 + (j : Int)) = nV j)) = true := g2
                    rw [Int.zero_add] at g2
                    simp [nV] at g2
                  obtain ⟨n1, n2⟩ := (two j).mp ⟨g1, g3⟩
                  obtain ⟨r, hr1, hr2⟩ := pc_get (hz4.mono x5.tk) hj
                  refine ⟨_, rfl, _, rfl, l, _, _, .ref r, rfl, rfl, SqL.of (x5.lst hl4), by rw [Int.zero_add]; exact atI_nat hr1, ?_⟩
                  refine ⟨vs, h5, small1000 (by omega), x5.mutL hD h5 (fun z => nomatch z), _, upd_same, by rw [List.length_append]; simp only [List.length_cons, List.length_nil]; omega, ?_⟩
                  rw [rem_keep lh hj n1 n2, pcD_append]
                  refine (hvs.mono (TK.lst h5)).append (.cons ?_ .nil)
                  exact (Tp.tup hr2 (.cons (.int _) (.cons (.int _) .nil))).mono (TK.lst h5)
                · have g3 : j = o := by
                    by_cases z : j = o
                    · exact z
                    · exfalso
                      simp [nV] at g2
                      omega
                  refine skip ?_
                  by_cases z : j = lo
                  · exact .inl z
                  · by_cases z2 : j = hi
                    · exact .inr z2
                    · exact absurd g3 ((two j).mpr ⟨z, z2⟩).2
              · have g1 : j = q := by
                  by_cases z : j = q
                  · exact z
                  · exfalso
                    simp [nV] at g
                    omega
                refine skip ?_
                by_cases z : j = lo
                · exact .inl z
                · by_cases z2 : j = hi
                  · exact .inr z2
                  · exact absurd g1 ((two j).mpr ⟨z, z2⟩).1
            · obtain ⟨x5, vs, h5, lvs, hvs⟩ := e
              refine ⟨D, vs, _, s', _, _, _, _, rfl, (x23.trans x4).trans x5.toS, x5.toS.src s4, h5, nDso, hvs, st', by omega, ?_⟩
              rcases pr with z | z
              · exact absurd lq (z q)
              · exact .inr (by omega)
      · rintro σ H2 ⟨l, zs, ps, s, u3, u4, u5, u6, rfl, x2, s2, hl, nl, hz, st, lps, pr⟩
        rw [Int.toNat_natCast] at pr
        have none : ∀ k, ¬ LikeAt ps k := by
          rcases pr with z | z
          · exact z
          · rintro k ⟨h1, _, h3, _⟩
            omega
        exact ⟨_, rfl, k _ _ x2 s2 ⟨l, zs, ps, rfl, hl, hz, lps, strk_done st none⟩⟩
end
end R
end

-- TryB
section
set_option Elab.async false
set_option linter.all false
set_option maxRecDepth 100000
set_option maxHeartbeats 4000000
/-! TryB: try with several clauses, `except C as n` (one name n for all of them, place i) or `except C`. -/
namespace TryB
open PySem PySem.Spec PyProof.Rows L2
abbrev Suite := Addr → Value → Option Addr → TS
theorem iteT_of {A B : Prop} (h : if (true = true) then A else B) : A := by simpa using h
theorem iteF_of {A B : Prop} (h : if (false = true) then A else B) : B := by simpa using h
/-- behind a clause the name is gone -/
def gone (i : Nat) (D : Ends) : Ends := ⟨fun σ H => D.nx (σ.set i none) H, D.rt, fun σ H => D.bk (σ.set i none) H, fun σ H => D.ct (σ.set i none) H⟩
def wClauses (K : PySem.W.Frag) (i : Nat) (Wout : WX) (D : Ends) : List (Value × Bool × Suite) → WX
  | [] => Wout
  | k :: r => fun cls d σ H => ∃ b, PySem.W.exmOne K cls k.1 = some b ∧ (b = true → ∀ a, H a = none → if k.2.1 = true then k.2.2 a cls d (gone i D) (σ.set i (some (.ref a))) H else k.2.2 a cls d D σ H) ∧ (b = false → wClauses K i Wout D r cls d σ H)
inductive Clauses (X : Cx) (n : Str) : List ExceptHandler → List (Value × Bool × Suite) → Prop
  | none : Clauses X n [] []
  | one {x : Str} {c : Value} {ts : Suite} {b₀ : Stmt} {suite : List Stmt} {np hp : Pos} {hds : List ExceptHandler} {l : List (Value × Bool × Suite)} (names : Names X x c)
      (reads : ∀ a oe cls d pn, Zc cls d oe → (∃ vs, oe.data = .fields vs) → PSs (X.suite a ((a, oe) :: pn)) (b₀ :: suite) (ts a cls d)) (rest : Clauses X n hds l) : Clauses X n (.ExceptHandler (some (.Name x np)) (some n) (b₀ :: suite) hp :: hds) ((c, true, ts) :: l)
  | bare {x : Str} {c : Value} {ts : Suite} {b₀ : Stmt} {suite : List Stmt} {np hp : Pos} {hds : List ExceptHandler} {l : List (Value × Bool × Suite)} (names : Names X x c)
      (reads : ∀ a oe cls d pn, Zc cls d oe → (∃ vs, oe.data = .fields vs) → PSs (X.suite a ((a, oe) :: pn)) (b₀ :: suite) (ts a cls d)) (rest : Clauses X n hds l) : Clauses X n (.ExceptHandler (some (.Name x np)) none (b₀ :: suite) hp :: hds) ((c, false, ts) :: l)
section
variable {X : Cx} {i : Nat} {n : Str} {Wout : WX} {pins : List (Addr × Obj)} {σ : L2.St} {H : Hp} {S : Shared} {D : Ends} {a : Addr} {cls : Value} {d : Option Addr}
/-- the clauses, one after the other, in the state S in which the exception at a is caught -/
theorem clauses_run (ok : X.Ok) (hN : X.N.Nodup) (hi : X.N[i]? = some n) (hln : X.env.kindOf n = some .local) (isNew : H a = none)
    (look : ∀ {c b}, PySem.W.exmOne X.K cls c = some b → PySem.W.Looks (model X.prog X.w) S.heap (excMatches (.ref a) c) b)
    (name : ∀ {x c np}, Names X x c → ∀ {Q : Value → Shared → Prop} {E : Value → Shared → Prop}, Q c S → wpAny (model X.prog X.w) (X.A.mark (some (.ref a))) (eval (.Name x np) X.env) Q E S)
    (enter : ∀ {A : Around} {E : Value → Shared → Prop} {Q : Unit → Shared → Prop}, (∀ oe s4, Zc cls d oe → (∃ vs, oe.data = .fields vs) → Inv (X.suite a ((a, oe) :: (X.pn ++ pins))) [] σ H s4 → Q () s4) → wpAny (model X.prog X.w) A (setFlight (.ref a) none) Q E S)
    (out : Wout cls d σ H → wpAny (model X.prog X.w) X.A (handleBy (.ref a) X.env []) (SP X pins D) X.xe S) :
    ∀ {hds l}, Clauses X n hds l → wClauses X.K i Wout D l cls d σ H → wpAny (model X.prog X.w) X.A (handleBy (.ref a) X.env hds) (SP X pins D) X.xe S := by
  intro hds l cs
  induction cs with
  | none => exact out
  | one names reads _ next =>
    rintro ⟨b, is, yes, no⟩
    refine wpAny_handleBy_cons (codeAny_handlers_test (name names ((look is).here ?_))) (fun z => nomatch z)
    cases b
    · exact next (no rfl)
    · refine codeAny_handlers_suite_as (enter fun oe s4 hz hf I4 => ?_)
      refine store_ok (X := X.suite a ((a, oe) :: (X.pn ++ pins))) (v := .ref a) I4 hN hi (.inl hln) rfl (fun s5 I5 => ?_) (.inr hln)
      refine wpAny_mono ((reads a oe cls d (X.pn ++ pins) hz hf).run [] s5 _ H _ I5 (iteT_of (yes rfl a isNew))) (fun f s6 left => ?_) fun _ _ z => z.elim
      cases f
      case ret =>
        obtain ⟨v, σ6, H6, I6, r, q⟩ := left
        exact gone_ok (I6.unsuite ok) hN hi hln fun s7 I7 => ⟨v, _, H6, I7, r, q⟩
      all_goals
        obtain ⟨σ6, H6, I6, q⟩ := left
        exact gone_ok (I6.unsuite ok) hN hi hln fun s7 I7 => ⟨_, H6, I7, q⟩
  | bare names reads _ next =>
    rintro ⟨b, is, yes, no⟩
    refine wpAny_handleBy_cons (codeAny_handlers_test (name names ((look is).here ?_))) (fun z => nomatch z)
    cases b
    · exact next (no rfl)
    · refine codeAny_handlers_suite (enter fun oe s4 hz hf I4 => ?_)
      refine wpAny_mono ((reads a oe cls d (X.pn ++ pins) hz hf).run [] s4 _ H _ I4 (iteF_of (yes rfl a isNew))) (fun f s6 left => ?_) fun _ _ z => z.elim
      cases f
      case ret =>
        obtain ⟨v, σ6, H6, I6, r, q⟩ := left
        exact ⟨v, _, _, I6.unsuite ok, r, q⟩
      all_goals
        obtain ⟨σ6, H6, I6, q⟩ := left
        exact ⟨_, _, I6.unsuite ok, q⟩
theorem ps_try_clauses {body : List Stmt} {h₀ : ExceptHandler} {hds : List ExceptHandler} {l : List (Value × Bool × Suite)} {pos : Pos} {tb : WX → TS} (hs : X.stack = X.env :: X.outer) (hf : X.env.frame = some X.env.locals) (hN : X.N.Nodup) (hi : X.N[i]? = some n) (hln : X.env.kindOf n = some .local)
    (tk : Takes X Wout) (hb : ∀ (W : WX) (pn : List (Addr × Obj)) (xe : Value → Shared → Prop), Takes (X.tr pn xe) W → PassesOwn (model X.prog X.w) X.A X.env xe → PSs (X.tr pn xe) body (tb W)) (cs : Clauses X n (h₀ :: hds) l) :
    PS X (.Try body (h₀ :: hds) [] [] pos) (fun D σ H => tb (wClauses X.K i Wout D l) D σ H) := by
  constructor
  intro pins s σ H D I h
  have ok := I.ok
  have frames : X.A.frames = some (X.env :: X.outer) := ok.frames.trans (congrArg some hs)
  let caught : Value → Shared → Prop := fun e s₁ => wpAny (model X.prog X.w) X.A (noteFrame e X.env) (fun _ s₂ => wpAny (model X.prog X.w) X.A (setFlight e none) (fun _ s₃ => wpAny (model X.prog X.w) X.A (handleBy e X.env (h₀ :: hds)) (SP X pins D) X.xe s₃) X.xe s₂) X.xe s₁
  have run := (hb (wClauses X.K i Wout D l) (X.pn ++ pins) caught ?taken PassesOwn.looking).run [] s σ H D (I.toTry _) h
  · refine wpAny_Try_except (wpAny_mono run (fun f s1 left => ?_) fun _ _ z => z)
    cases f
    case ret =>
      obtain ⟨v, σ1, H1, I1, r, q⟩ := left
      exact ⟨v, σ1, H1, I1.ofTry ok, r, q⟩
    case next =>
      obtain ⟨σ1, H1, I1, q⟩ := left
      exact wpAny_execs_nil ⟨σ1, H1, I1.ofTry ok, q⟩
    all_goals
      obtain ⟨σ1, H1, I1, q⟩ := left
      exact ⟨σ1, H1, I1.ofTry ok, q⟩
  case taken =>
    rintro e s' ⟨a, B, sI, pins', σ', H', cls, d, rfl, J', nb, up, sky, isNew, os, bare, wish⟩
    have J : Inv X pins σ' H' sI := J'.ofTry ok
    rw [show (X.tr (X.pn ++ pins) caught).stack = X.env :: X.outer from hs] at sky
    refine Sky.land Zc.steady frames hf sky fun h3 fly up3 => ?_
    have J3 := J.landed (s' := { s' with heap := h3 }) nb fly.1 (up.trans up3) os bare
    obtain ⟨oe, vs, at_, hz, hd⟩ := fly.there
    have apart : a ∉ frs (X.env :: X.outer) := fun m => by
      obtain ⟨_, o, e1, hno⟩ := fly.2.2.1.mem m
      cases at_.symm.trans e1
      exact hno _ hd
    have notL : a ≠ X.env.locals := fun z => apart (List.mem_filterMap.mpr ⟨X.env, List.mem_cons_self, z ▸ hf⟩)
    have notF : a ∉ X.fs := fun m => by
      obtain ⟨e, he, q⟩ := List.mem_filterMap.mp m
      exact apart (List.mem_filterMap.mpr ⟨e, List.mem_cons_of_mem _ he, q⟩)
    have S3 := J3.suite at_ hd isNew notL notF
    refine clauses_run ok hN hi hln isNew (fun is => ?_) (fun names Q E q => ?_) (fun k => ?_) (fun q => ?_) cs wish
    · exact PySem.W.exm_one J3.kIn (fun _ _ _ _ k q => wpAny_typeOf_ref (k _ _ at_) (by rw [hz.1]; exact q)) is
    · rcases names with ⟨g, dbg, m | ⟨m, v, nn⟩⟩
      · exact ld_glob (X := X.suite a ((a, oe) :: (X.pn ++ pins))) S3 g m q dbg
      · exact ld_blt (X := X.suite a ((a, oe) :: (X.pn ++ pins))) S3 g m v q nn dbg
    · refine HandSPX.lands_againZ fly fun h4 fly4 up4 => ?_
      obtain ⟨oe4, vs4, at4, hz4, hd4⟩ := fly4.there
      have J4 : Inv X pins σ' H' { s' with heap := h4 } := J.landed nb fly4.1 ((up.trans up3).trans up4) os bare
      exact k oe4 _ hz4 ⟨_, hd4⟩ (J4.suite at4 hd4 isNew notL notF)
    · obtain ⟨_, _, _, o, fs, T, _, _, at2, _, hd2, first, _⟩ := id fly
      refine wpAny_handleBy_nil ?_
      unfold PySem.passOn
      refine wpAny_bind (wpAny_field at2 hd2 first ?_)
      rw [if_neg (show ¬ ((Value.ref T == Value.none) = true) from by simp)]
      have last : wpAny (model X.prog X.w) X.A (setFlight (.ref a) X.env.frame) (fun _ s4 => wpAny (model X.prog X.w) X.A (throw (.ref a) : Sem Flow) (SP X pins D) X.xe s4) X.xe { s' with heap := h3 } := by
        rw [hf]
        refine HandSPX.setFlight_upZ fly fun h4 h4sky up4 => wpAny_throw (tk _ _ ?_)
        exact ⟨a, B, sI, pins, σ', H', cls, d, rfl, J, nb, (up.trans up3).trans up4, .inr (.inr (hs.symm ▸ h4sky)), isNew, os, bare, q⟩
      first
        | exact wpAny_bind (wpAny_pure (wpAny_bind last))
        | exact wpAny_bind last
end
end TryB
end

-- Told
section
set_option Elab.async false
set_option linter.all false
set_option maxRecDepth 100000
set_option maxHeartbeats 4000000
namespace R
open PySem PySem.Spec PyProof.Rows L2 LamX NdefX LamP CoreX TupX MinX BlkX TryB
open GridX (nV)
section
variable {P : Program} {w : World} {K : PySem.W.Frag} {mg : Str → Option Value} {base : Heap}
def spTold (TT : List NTab) : Sp := fun vs H Q _ => ∃ (t : Addr) (ws : List Int), vs = [.ref t] ∧ H t = some (.tup (ws.map V.int)) ∧ ws.length ≤ 100 ∧
  (¬ (3 ≤ ws.length ∧ ws.length ≤ 40) → Ret TT H Q fun v H' => Tp H' v (.tuple [.str "size", .int (ws.length : Int)])) ∧
  (3 ≤ ws.length → ws.length ≤ 40 → ∀ i, (∀ j, j < i → Let6 (ws.getD j 0)) → i < ws.length → ¬ Let6 (ws.getD i 0) → Ret TT H Q fun v H' => Tp H' v (.tuple [.str "coat", .int (i : Int)])) ∧
  (3 ≤ ws.length → ws.length ≤ 40 → (∀ j, j < ws.length → Let6 (ws.getD j 0)) → Ret TT H Q fun v H' => ∃ m, IsCore (oddB ws.length) 0 ws m ∧ Tp H' v (.tuple [.str "good", rowI m]))
def tWord (q : Str) (C : Addr) (i : Nat) : Suite := fun a cls d => tAsg (tTup (tCons (tC (.str q)) (tCons (tXf a cls d C "what" (tVar i)) tNil))) (gName 1)
def clsTold (T : Txt K mg) : List (Value × Bool × Suite) :=
  [(.ref T.C_BadSize, true, tWord "size" T.C_BadSize 2), (.ref T.C_BadCoat, true, tWord "coat" T.C_BadCoat 2),
   (.ref T.C_Refused, false, fun a cls d => tAsg (tTup (tCons (tC (.str "other")) tNil)) (gName 1))]
theorem ok_told (T : Txt K mg) (TT : List NTab) : FnOk P w K mg base CX0 4 T.a_Ltold T.d_Ltold ["_law_row"] (spTold TT) := by
  refine T.F_Ltold.ok sc_Ltold (fun vs H Q E h => ?_) (fun cdv A outer s H vs Q E hr h => ?_)
  · obtain ⟨t, s, rfl, _⟩ := h
    rfl
  · obtain ⟨t, ws, rfl, ht, hl, k1, k2, k3⟩ := h
    have nd := sc_Ltold.nd
    have GC : FnOk P w K mg base (L2.CX P w) 3 T.a_core_of T.d_core_of ["row"] (spCore T TT) := ok_core_of T TT
    have hr1 : Room 3 _ := hr
    refine ⟨_, pss_cons (ps_set (i := 1) nd rfl (Or.inl rfl) (pe_tup (pa_cons pe_str pa_nil))) (pss_cons (ps_try_clauses (i := 2) (n := "e") (l := clsTold T) (tb := fun W => tAsg (tTup (tCons (tC (.str "good")) (tCons (tCallS (spCore T TT) (WE W) (tCons (tVar 0) tNil)) tNil))) (gName 1)) (Wout := fun _ _ _ _ => False) rfl rfl nd rfl rfl takes_none5
          (fun W pn xe tk _ => pss_one (ps_set (i := 1) nd rfl (Or.inl rfl) (pe_tup (pa_cons pe_str (pa_cons (by exact (pe_callS GC hr1 rfl T.g_core_of T.F_core_of.kp T.b_core_of (fun σ => passAt tk σ) (by exact (pa_cons (pv 0) pa_nil)))) pa_nil)))))
          (.one ⟨rfl, by decide, Or.inl T.e_BadSize.gC⟩ (fun a oe cls d pn hz hf => pss_one (ps_set (i := 1) nd rfl (Or.inl rfl) (pe_tup (pa_cons pe_str (pa_cons (pe_xf T.e_BadSize.xf T.e_BadSize.nw hz hf (pv 2)) pa_nil)))))
          (.one ⟨rfl, by decide, Or.inl T.e_BadCoat.gC⟩ (fun a oe cls d pn hz hf => pss_one (ps_set (i := 1) nd rfl (Or.inl rfl) (pe_tup (pa_cons pe_str (pa_cons (pe_xf T.e_BadCoat.xf T.e_BadCoat.nw hz hf (pv 2)) pa_nil)))))
          (.bare ⟨rfl, by decide, Or.inl T.e_Refused.gC⟩ (fun a oe cls d pn hz hf => pss_one (ps_set (i := 1) nd rfl (Or.inl rfl) (pe_tup (pa_cons pe_str pa_nil)))) .none)))) (pss_one (ps_ret (pv 1)))), ?_⟩
    have s2 : 2 ≤ sizeLine := by decide
    refine ⟨(by show 1 ≤ sizeLine; decide), fun p0 np0 => ?_⟩
    have x0 : Ext TT none H (upd H p0 (.tup [.str "other"])) := Ext.new np0
    have ht0 := x0.tup ht
    generalize upd H p0 (.tup [.str "other"]) = H0 at x0 ht0 ⊢
    refine ⟨_, rfl, t, ws, rfl, ht0, hl, fun h1 => ?_, fun h1 h2 i hok hi hbad => ?_, fun h1 h2 hok v H1 m x1 hv hm => ?_⟩
    · rintro v d H1 x1 hd rfl
      refine ⟨true, T.x_BadSize_BadSize, fun _ a0 na => iteT ?_, (fun z => nomatch z)⟩
      refine ⟨_, rfl, rfl, rfl, d, _, _, rfl, hd, rfl, s2, fun p1 np => ?_⟩
      refine ⟨_, rfl, k1 h1 _ _ ((x0.trans x1).trans (Ext.new np)) (.tup upd_same (.cons (.str _) (.cons (.int _) .nil)))⟩
    · rintro v d H1 x1 hd rfl
      refine ⟨false, T.x_BadCoat_BadSize, (fun z => nomatch z), fun _ => ?_⟩
      refine ⟨true, T.x_BadCoat_BadCoat, fun _ a0 na => iteT ?_, (fun z => nomatch z)⟩
      refine ⟨_, rfl, rfl, rfl, d, _, _, rfl, hd, rfl, s2, fun p1 np => ?_⟩
      refine ⟨_, rfl, k2 h1 h2 i hok hi hbad _ _ ((x0.trans x1).trans (Ext.new np)) (.tup upd_same (.cons (.str _) (.cons (.int _) .nil)))⟩
    · refine ⟨s2, fun p1 np => ?_⟩
      refine ⟨_, rfl, k3 h1 h2 hok _ _ ((x0.trans x1).trans (Ext.new np)) ⟨m, hm, .tup upd_same (.cons (.str _) (.cons (hv.mono (TK.new np)) .nil))⟩⟩
end
end R
end

-- LawL
section
set_option Elab.async false
set_option linter.all false
set_option maxRecDepth 100000
set_option maxHeartbeats 4000000
namespace R
open PySem PySem.Spec PyProof.Rows L2 LamX NdefX LamP CoreX TupX MinX BlkX
open GridX (nV)
theorem shaped_of {d : PyData} (h1 : d.canLay0 = true) (h2 : d.depth ≤ 64) : SeqAt.shaped d = true := by
  show (d.canLay0 && decide (d.depth ≤ 64)) = true
  rw [Bool.and_eq_true]
  exact ⟨h1, decide_eq_true h2⟩
theorem depAll : ∀ s : List Int, PyData.depthAll (s.map PyData.int) ≤ 1
  | [] => by simp [PyData.depthAll]
  | m :: s => by
    have := depAll s
    simp [PyData.depthAll, PyData.depth]
    omega
theorem lay2 (q : Str) (i : Int) (hq : PyData.strOk q = true) : (PyData.tuple [.str q, .int i]).canLay0 = true := by simp [PyData.canLay0, PyData.canLayAll0, hq]
theorem shaped2 (q : Str) (i : Int) (hq : PyData.strOk q = true := by decide +kernel) : SeqAt.shaped (.tuple [.str q, .int i]) = true := shaped_of (lay2 q i hq) (by simp [PyData.depth, PyData.depthAll])
theorem eqv2 (q : Str) (i : Int) (hq : PyData.strOk q = true) : PyData.eqv (.tuple [.str q, .int i]) (.tuple [.str q, .int i]) = true := SeqAt.eqv_refl _ (lay2 q i hq)
theorem layR (q : Str) (s : List Int) (hq : PyData.strOk q = true) : (PyData.tuple [.str q, rowI s]).canLay0 = true := by simp [rowI, PyData.canLay0, PyData.canLayAll0, hq, lay_row]
theorem shapedR (q : Str) (s : List Int) (hq : PyData.strOk q = true := by decide +kernel) : SeqAt.shaped (.tuple [.str q, rowI s]) = true := shaped_of (layR q s hq) (by
  have := depAll s
  simp [rowI, PyData.depth, PyData.depthAll]
  omega)
theorem eqvR (q : Str) (s : List Int) (hq : PyData.strOk q = true) : PyData.eqv (.tuple [.str q, rowI s]) (.tuple [.str q, rowI s]) = true := SeqAt.eqv_refl _ (layR q s hq)
theorem let_all {ws : List Int} {c : Nat} (h : Below c ws) (hc : c ≤ 6) : ∀ j, j < ws.length → Let6 (ws.getD j 0) := fun j hj => by
  rw [getD_at hj]
  have := h _ (List.getElem_mem hj)
  exact ⟨this.1, by omega⟩
theorem odd_dec (n : Nat) : decide (V.int ((n : Int) % 2) = V.int 1) = oddB n := by
  unfold oddB
  by_cases h : n % 2 = 1
  · rw [beq_iff_eq.mpr h]
    exact decide_eq_true (congrArg V.int (by omega))
  · rw [beq_eq_false_iff_ne.mpr h]
    refine decide_eq_false fun z => ?_
    injection z with z
    omega
theorem set_at {ws : List Int} {x j : Nat} {b : Int} (hj : j < ws.length) : (ws.set x b).getD j 0 = if x = j then b else ws.getD j 0 := by
  rw [getD_at (by rw [List.length_set]; exact hj), List.getElem_set, getD_at hj]
section
variable {P : Program} {w : World} {K : PySem.W.Frag} {mg : Str → Option Value} {base : Heap}
def spLaw (K : PySem.W.Frag) (TT : List NTab) : Sp := fun vs H Q _ => ∃ (l : Addr) (ns : List Int), vs = [.ref l] ∧ SqL K H l (ns.map V.int) ∧ (∀ z ∈ ns, Builtin.Int.intBits z ≤ 1048576) ∧ TabsN TT H ∧ ∀ H', Q (.bl true) H'
theorem ok_law (T : Txt K mg) (TT : List NTab) : FnOk P w K mg base CX0 5 T.a_law T.d_law ["_law_script"] (spLaw K TT) := by
  refine T.F_law.ok sc_law (fun vs H Q E h => ?_) (fun cdv A outer s H vs Q E hr h => ?_)
  · obtain ⟨l, ns, rfl, _⟩ := h
    rfl
  · obtain ⟨l0, ns, rfl, hl0, hb, hT, k⟩ := h
    have nd := sc_law.nd
    refine ⟨_, (pss_cons (ps_for PassesOwn.never rfl (pi_range1 (by rfl) T.n_range (pa_cons pe_int pa_nil)) (pg_name (i := 1) nd rfl (Or.inl rfl))
          (pss_cons (ps_set (i := 2) nd rfl (Or.inr rfl) (pe_call (ok_pool T TT) (hr.mono (by decide)) rfl T.g_Lpool T.F_Lpool.kp T.b_Lpool .nil pass0 (pa_cons (pv 0) (pa_cons (pv 1) pa_nil))))
        (pss_cons (ps_asg (pe_tup (pa_cons (pe_call (ok_one T TT) (hr.mono (by decide)) rfl T.g_Lone T.F_Lone.kp T.b_Lone .nil pass0 (pa_cons (pv 2) (pa_cons (pe_lst (pa_cons pe_int (pa_cons pe_int (pa_cons pe_int (pa_cons pe_int (pa_cons pe_int (pa_cons pe_int (pa_cons pe_int (pa_cons pe_int (pa_cons pe_int (pa_cons pe_int (pa_cons pe_int pa_nil)))))))))))) pa_nil))) (pa_cons (pe_op op_add pe_int (pe_call (ok_take T TT) (hr.mono (by decide)) rfl T.g_Ltake T.F_Ltake.kp T.b_Ltake .nil pass0 (pa_cons (pv 2) (pa_cons pe_int pa_nil)))) pa_nil))) (pg_tup rfl (pgs_cons (pg_name (i := 3) nd rfl (Or.inl rfl)) (pgs_cons (pg_name (i := 4) nd rfl (Or.inr rfl)) pgs_nil))))
        (pss_cons (ps_set (i := 5) nd rfl (Or.inl rfl) (pe_call (ok_letters T TT) (hr.mono (by decide)) rfl T.g_Lletters T.F_Lletters.kp T.b_Lletters .nil pass0 (pa_cons (pv 2) (pa_cons (pv 3) (pa_cons (pv 4) pa_nil)))))
        (pss_cons (ps_if (pt_cmpR op_eq (pe_call (ok_take T TT) (hr.mono (by decide)) rfl T.g_Ltake T.F_Ltake.kp T.b_Ltake .nil pass0 (pa_cons (pv 2) (pa_cons pe_int pa_nil))) pe_int (nomark _)) (pss_one (ps_setLc (i := 5) (own := [("_law_x", 6)]) (g := gName 6) (tt := tYes) rfl nd rfl rfl (sw_true rfl rfl rfl (by decide +kernel)) (pi_range1 (by rfl) T.n_range (pa_cons (pv 3) pa_nil)) (blkOk_by (own := [("_law_x", 6)]) (N := N_law) (sc := defScope s_law) (by decide +kernel)) (fun _ _ _ _ _ => (pg_name (i := 6) nd rfl (Or.inl rfl))) (fun _ _ _ _ _ => pts_nil) (fun _ _ _ _ _ => (pe_call (ok_take T TT) (hr.mono (by decide)) rfl T.g_Ltake T.F_Ltake.kp T.b_Ltake .nil pass0 (pa_cons (pv 2) (pa_cons (pv 4) pa_nil)))))) pss_nil)
        (pss_cons (ps_par (i := 7) (j := 8) (by rfl) nd rfl rfl (by decide) rfl rfl (pa_cons (pe_call (ok_readings T TT) (hr.mono (by decide)) rfl T.g_Lreadings T.F_Lreadings.kp T.b_Lreadings .nil pass0 (pa_cons (pe_call (ok_struck_so T TT) (hr.mono (by decide)) rfl T.g_Lstruck_so T.F_Lstruck_so.kp T.b_Lstruck_so .nil pass0 (pa_cons (pv 2) (pa_cons (pv 5) pa_nil))) (pa_cons (pe_cmpR op_eq (pe_op op_mod (pe_callTy call_int1 (by rfl) T.n_int (by decide +kernel) (pa_cons (pv 3) pa_nil)) pe_int) pe_int (nomark _)) pa_nil))) (pa_cons (pe_tup pa_nil) pa_nil)) (by rfl))
        (pss_cons (ps_if (pt_truth (pv 7) (by intro _; rfl)) (pss_one (ps_set (i := 8) nd rfl (Or.inl rfl) (pe_callB (MinX.cr_minT rfl (room65 hr)) (by rfl) T.n_min (by decide +kernel) (pa_cons (pv 7) pa_nil)))) pss_nil)
        (pss_cons (ps_if (pt_cmpR (op_neD hr.units) (pe_call (ok_told T TT) (hr.mono (by decide)) rfl T.g_Ltold T.F_Ltold.kp T.b_Ltold .nil pass0 (pa_cons (pe_callTy call_tuple_of (by rfl) T.n_tuple (by decide +kernel) (pa_cons (pv 5) pa_nil)) pa_nil)) (pe_tup (pa_cons pe_str (pa_cons (pv 8) pa_nil))) (nomark _)) (pss_one (ps_ret pe_bl)) pss_nil)
        (pss_cons (ps_par (i := 6) (j := 9) (by rfl) nd rfl rfl (by decide) rfl rfl (pa_cons (pe_call (ok_take T TT) (hr.mono (by decide)) rfl T.g_Ltake T.F_Ltake.kp T.b_Ltake .nil pass0 (pa_cons (pv 2) (pa_cons (pv 3) pa_nil))) (pa_cons (pe_call (ok_take T TT) (hr.mono (by decide)) rfl T.g_Ltake T.F_Ltake.kp T.b_Ltake .nil pass0 (pa_cons (pv 2) (pa_cons (pv 3) pa_nil))) pa_nil)) (by rfl))
        (pss_cons (ps_set (i := 10) nd rfl (Or.inl rfl) (pe_call (ok_put T TT) (hr.mono (by decide)) rfl T.g_Lput T.F_Lput.kp T.b_Lput .nil pass0 (pa_cons (pe_callTy call_tuple_of (by rfl) T.n_tuple (by decide +kernel) (pa_cons (pv 5) pa_nil)) (pa_cons (pv 6) (pa_cons (pe_call (ok_one T TT) (hr.mono (by decide)) rfl T.g_Lone T.F_Lone.kp T.b_Lone .nil pass0 (pa_cons (pv 2) (pa_cons (pe_lst (pa_cons (pe_un un_neg pe_int) (pa_cons pe_int (pa_cons (pe_op op_add pe_int (pe_op op_pow pe_int pe_int)) pa_nil)))) pa_nil))) pa_nil)))))
        (pss_cons (ps_if (PW.pt (pw_or (pt_cmpR (op_neD hr.units) (pe_call (ok_told T TT) (hr.mono (by decide)) rfl T.g_Ltold T.F_Ltold.kp T.b_Ltold .nil pass0 (pa_cons (pv 10) pa_nil)) (pe_tup (pa_cons pe_str (pa_cons (pv 6) pa_nil))) (nomark _)) (pw_or1 (pt_cmpR (op_neD hr.units) (pe_call (ok_told T TT) (hr.mono (by decide)) rfl T.g_Ltold T.F_Ltold.kp T.b_Ltold .nil pass0 (pa_cons (pe_call (ok_put T TT) (hr.mono (by decide)) rfl T.g_Lput T.F_Lput.kp T.b_Lput .nil pass0 (pa_cons (pv 10) (pa_cons (pv 9) (pa_cons (pe_un un_neg pe_int) pa_nil)))) pa_nil)) (pe_tup (pa_cons pe_str (pa_cons (pe_callB (call_min2 rfl) (by rfl) T.n_min (by decide +kernel) (pa_cons (pv 6) (pa_cons (pv 9) pa_nil))) pa_nil))) (nomark _))))) (pss_one (ps_ret pe_bl)) pss_nil)
        (pss_cons (ps_set (i := 11) nd rfl (Or.inl rfl) (pe_call (ok_one T TT) (hr.mono (by decide)) rfl T.g_Lone T.F_Lone.kp T.b_Lone .nil pass0 (pa_cons (pv 2) (pa_cons (pe_lst (pa_cons (pe_tup pa_nil) (pa_cons (pe_tup (pa_cons pe_int pa_nil)) (pa_cons (pe_tup (pa_cons pe_int (pa_cons pe_int pa_nil))) (pa_cons (pe_tup (pa_cons pe_int (pa_cons (pe_un un_neg pe_int) pa_nil))) (pa_cons (pe_callTy call_tuple_of (by rfl) T.n_tuple (by decide +kernel) (pa_cons (pe_lc (own := [("_law_x", 6)]) (g := gName 6) (tt := tYes) rfl nd (pi_range1 (by rfl) T.n_range (pa_cons pe_int pa_nil)) (blkOk_by (own := [("_law_x", 6)]) (N := N_law) (sc := defScope s_law) (by decide +kernel)) (fun _ _ _ _ _ => (pg_name (i := 6) nd rfl (Or.inl rfl))) (fun _ _ _ _ _ => pts_nil) (fun _ _ _ _ _ => (pe_call (ok_take T TT) (hr.mono (by decide)) rfl T.g_Ltake T.F_Ltake.kp T.b_Ltake .nil pass0 (pa_cons (pv 2) (pa_cons pe_int pa_nil))))) pa_nil)) pa_nil)))))) pa_nil))))
        (pss_one (ps_if (pt_cmpR (op_neD hr.units) (pe_call (ok_told T TT) (hr.mono (by decide)) rfl T.g_Ltold T.F_Ltold.kp T.b_Ltold .nil pass0 (pa_cons (pv 11) pa_nil)) (pe_tup (pa_cons pe_str (pa_cons (pe_callB call_len_seq (by rfl) T.n_len PySem.boot_len (pa_cons (pv 11) pa_nil)) pa_nil))) (nomark _)) (pss_one (ps_ret pe_bl)) pss_nil))))))))))))))
        (pss_one (ps_ret pe_bl))), ?_⟩
    refine ⟨4, rfl, by omega, by omega, for_range (lo := 0) (n := (4 : Int).toNat) (fun i σ H' => ∃ u1 u2 u3 u4 u5 u6 u7 u8 u9 u10 u11 : Option V, σ = [some (.ref l0), u1, u2, u3, u4, u5, u6, u7, u8, u9, u10, u11] ∧ Ext TT none H H') ⟨none, none, none, none, none, none, none, none, none, none, none, rfl, Ext.refl ..⟩ ?_ ?_⟩
    · rintro i σ H1 hi ⟨u1, u2, u3, u4, u5, u6, u7, u8, u9, u10, u11, rfl, x1⟩
      have hi4 : i < 4 := hi
      refine ⟨_, rfl, _, rfl, l0, ns, 0 + (i : Int), rfl, by omega, by omega, SqL.ext hl0 x1, hb, fun v H2 x2 hv => ?_⟩
      obtain ⟨so, rfl, q2, nso⟩ := hv
      have nsoH : H so = none := x1.fr so nso
      have x12 := x1.trans x2
      refine ⟨_, rfl, (by show 11 ≤ sizeLine; decide), fun l nl => ?_⟩
      obtain ⟨x3, h3⟩ := newX (TT := TT) (so := some so) (o := .lst [.int 3, .int 4, .int 5, .int 6, .int 7, .int 8, .int 9, .int 10, .int 12, .int 39, .int 40]) (Ext.refl _ _ H2) nl
      refine ⟨so, l, _, rfl, x3.src q2, h3, src_ne q2 nl, by show 0 < 11; decide, by show 11 < 1000; decide, fun v H4 x4 q4 hv => ?_⟩
      have hn : ∃ n : Nat, v = nV n ∧ 3 ≤ n ∧ n ≤ 40 := by
        simp only [List.mem_cons, List.not_mem_nil, or_false] at hv
        rcases hv with z | z | z | z | z | z | z | z | z | z | z
        · exact ⟨3, z, by omega, by omega⟩
        · exact ⟨4, z, by omega, by omega⟩
        · exact ⟨5, z, by omega, by omega⟩
        · exact ⟨6, z, by omega, by omega⟩
        · exact ⟨7, z, by omega, by omega⟩
        · exact ⟨8, z, by omega, by omega⟩
        · exact ⟨9, z, by omega, by omega⟩
        · exact ⟨10, z, by omega, by omega⟩
        · exact ⟨12, z, by omega, by omega⟩
        · exact ⟨39, z, by omega, by omega⟩
        · exact ⟨40, z, by omega, by omega⟩
      obtain ⟨n, rfl, n3, n40⟩ := hn
      clear hv
      refine ⟨_, rfl, so, 6, rfl, q4, by decide, by decide, fun v H5 x5 q5 hv => ?_⟩
      obtain ⟨c0, rfl, c1, c2⟩ := hv
      obtain ⟨C, hC⟩ : ∃ C : Nat, 1 + c0 = (C : Int) := ⟨(1 + c0).toNat, by omega⟩
      refine ⟨_, _, rfl, rfl, (by show 2 ≤ sizeLine; decide), fun pt0 npt0 => ?_⟩
      have x5b : Ext TT (some so) H4 (upd H5 pt0 (.tup [nV n, .int (1 + c0)])) := x5.trans (Ext.new npt0)
      have q5b : Src (upd H5 pt0 (.tup [nV n, .int (1 + c0)])) so := (Ext.new (T := TT) (so := some so) npt0).src q5
      refine ⟨pt0, _, rfl, SqT.of upd_same, rfl, _, _, rfl, _, _, rfl, rfl, ?_⟩
      generalize upd H5 pt0 (.tup [nV n, .int (1 + c0)]) = H5b at x5b q5b ⊢
      have x25 := (x3.trans x4).trans x5b
      refine ⟨_, rfl, _, rfl, _, rfl, so, n, C, ?_, q5b, by omega, by omega, by omega, fun v H6 x6 q6 hv => ?_⟩
      · show [V.ref so, nV n, V.int (1 + c0)] = _
        rw [hC] <;> rfl
      obtain ⟨lw, ws0, rfl, hlw, nlw, lws0, bws0⟩ := hv
      have x26 := x25.trans x6
      clear x6 x25 x5b x5 x4 x3 q4 q5 q5b
      have hC1 : 1 ≤ C ∧ C ≤ 6 := by omega
      dsimp only
      refine seq_cut (fun σ H' => ∃ (lw : Addr) (ws : List Int), σ = [some (.ref l0), some (.int (0 + (i : Int))), some (.ref so), some (nV n), some (.int (1 + c0)), some (.ref lw), u6, u7, u8, u9, u10, u11] ∧ Ext TT (some so) H2 H' ∧ Src H' so ∧ H' lw = some (.lst (ws.map V.int)) ∧ lw ≠ so ∧ ws.length = n ∧ Below C ws) (fun R join => ?_) ?_
      · refine ⟨_, rfl, so, 4, rfl, q6, by decide, by decide, fun v H7 x7 q7 hv => ?_⟩
        obtain ⟨e0, rfl, e1, e2⟩ := hv
        refine ⟨rfl, _, rfl, ?_⟩
        refine iteB (fun g => ?_) (fun g => ?_)
        · refine ⟨_, rfl, (n : Int), rfl, by omega, by omega, fun D hD => ?_⟩
          have nD : D ≠ so := src_ne q7 hD
          have ns' : (some so : Option Addr) ≠ some D := fun z => nD (Option.some.inj z).symm
          rw [Int.toNat_natCast]
          refine lc_it walk_range (fun j H' => Ext TT (some so) H7 H' ∧ Src H' so ∧ ∃ s : List Int, H' D = some (.lst (s.map V.int)) ∧ s.length = j ∧ Below C s) ⟨Ext.new hD, (Ext.new (T := TT) (so := some so) hD).src q7, [], upd_same, rfl, (fun _ z => nomatch z)⟩ (fun _ _ _ _ => trivial) (fun j x H9 H8 hj e y => ?_) (fun H8 e => ?_)
          · obtain ⟨rfl, rfl⟩ := y
            obtain ⟨x8, q8, ss, h8, ls, bs⟩ := e
            refine ⟨rfl, ?_⟩
            dsimp only [tYes]
            refine iteT ?_
            refine ⟨_, rfl, _, rfl, so, 1 + c0, rfl, q8, by omega, by omega, fun v H9 x9 q9 hv => ?_⟩
            obtain ⟨m, rfl, m0, m1⟩ := hv
            have h9 := x9.lstS nD h8
            refine ⟨_, h9, by rw [List.length_map]; exact small1000 (by omega), (x8.trans x9).mutL hD h9 ns', ?_, ss ++ [m], by rw [upd_same, List.map_append] <;> rfl, by rw [List.length_append, ls] <;> rfl, fun q hq => ?_⟩
            · obtain ⟨p, q, e1, e2⟩ := q9
              exact ⟨p, q, (upd_ne (Ne.symm nD)).trans e1, e2⟩
            · rcases List.mem_append.mp hq with z | z
              · exact bs q z
              · rw [List.mem_singleton.mp z]; exact ⟨m0, by omega⟩
          · obtain ⟨x8, q8, ss, h8, ls, bs⟩ := e
            exact join _ _ ⟨D, ss, rfl, (x26.trans x7).trans x8, q8, h8, nD, ls, bs⟩
        · exact join _ _ ⟨lw, ws0, rfl, x26.trans x7, q7, x7.lstS nlw hlw, nlw, lws0, bws0⟩
      · rintro σ H7 ⟨lw, ws, rfl, x27, q7, hw7, nlw, lws, bws⟩
        clear bws0 lws0 hlw x26 q6
        have lnil : (0 : Nat) ≤ sizeLine := Nat.zero_le _
        refine seq_cut (fun σ H' => ∃ (D p : Addr) (xs : List V) (L : List (List Int)), σ = [some (.ref l0), some (.int (0 + (i : Int))), some (.ref so), some (nV n), some (.int (1 + c0)), some (.ref lw), u6, some (.ref D), some (.ref p), u9, u10, u11] ∧ Ext TT (some so) H7 H' ∧ Src H' so ∧ H' D = some (.lst xs) ∧ Tps H' xs (rowsI' L) ∧ H' p = some (.tup []) ∧ ∀ x, x ∈ L ↔ RdW (oddB n) 0 ws x) (fun R2 join2 => ?_) ?_
        · refine ⟨_, rfl, _, rfl, so, lw, ws, rfl, q7, hw7, nlw, by omega, by omega, fun v H8 x8 q8 hv => ?_⟩
          obtain ⟨l, zs, ps, rfl, hl, hz, lps, rd⟩ := hv
          refine ⟨_, rfl, .inl ⟨_, rfl, _, _, rfl, rfl, (by show (0 : Int) < 2; decide), rfl, ?_⟩⟩
          refine ⟨l, oddB n, zs, ps, ?_, hl, hz, by omega, fun D H9 xs L x9 h9 hxs mem => ?_⟩
          · show [V.ref l, V.bl (decide (V.int ((n : Int) % 2) = V.int 1))] = _
            rw [odd_dec]
          refine ⟨Nat.zero_le _, fun p np => ?_⟩
          have hD : upd H9 p (.tup []) D = some (.lst xs) := (upd_ne (ne_of_none h9 np)).trans h9
          refine ⟨_, _, rfl, ?_⟩
          rw [lws] at rd
          exact join2 _ _ ⟨D, p, xs, L, rfl, (x8.trans x9.toS).trans (Ext.new np), (Ext.new (T := TT) (so := some so) np).src (x9.toS.src q8), hD, hxs.mono (TK.new np), upd_same, fun x => (mem x).trans (rd x)⟩
        rintro σ H8a ⟨D, p, xs, L, rfl, x8a, q8a, hD, hxs, hp, mem⟩
        have lx := TupX.rowsI_len hxs
        refine seq_cut (fun σ H' => ∃ (u7 : Option V) (dv : V) (dm : List Int), σ = [some (.ref l0), some (.int (0 + (i : Int))), some (.ref so), some (nV n), some (.int (1 + c0)), some (.ref lw), u6, u7, some dv, u9, u10, u11] ∧ Ext TT (some so) H7 H' ∧ Src H' so ∧ Tp H' dv (rowI dm) ∧ IsCore (oddB n) 0 ws dm) (fun R join => ?_) ?_
        · refine ⟨_, rfl, _, .inl ⟨_, SqL.of hD, rfl⟩, ?_⟩
          cases L with
          | nil =>
            have : xs = [] := List.length_eq_zero_iff.mp lx
            subst this
            refine iteF' rfl ?_
            exact join _ _ ⟨_, _, [], rfl, x8a, q8a, .tup hp .nil, .inl ⟨(fun x z => nomatch (mem x).mpr z), rfl⟩⟩
          | cons y L =>
            have ne : xs.isEmpty = false := by
              cases xs with
              | nil => simp at lx
              | cons _ _ => rfl
            rw [ne]
            refine iteT' rfl ?_
            refine ⟨_, rfl, D, xs, y :: L, rfl, SqL.of hD, hxs, (fun z => nomatch z), fun x m _ hx hm => ?_⟩
            exact join _ _ ⟨_, x, m, rfl, x8a, q8a, hx, .inr ⟨_, mem, hm⟩⟩
        · rintro σ H8 ⟨u7, dv, dm, rfl, x8, q8, hdv, hcore⟩
          have hw8 := x8.lstS nlw hw7
          have l6 := let_all bws (by omega)
          refine ⟨_, rfl, lw, _, rfl, .inl ⟨SqL.of hw8, fun t nt => ?_⟩⟩
          have x9 := Ext.new (T := TT) (so := none) (o := .tup (ws.map V.int)) nt
          have ht9 : upd H8 t (.tup (ws.map V.int)) t = some (.tup (ws.map V.int)) := upd_same
          generalize upd H8 t (.tup (ws.map V.int)) = H9 at x9 ht9 ⊢
          refine ⟨t, ws, rfl, ht9, by omega, fun z => absurd ⟨by omega, by omega⟩ z, fun _ _ j _ hj z => absurd (l6 j hj) z, fun _ _ _ v H10 x10 hv => ?_⟩
          obtain ⟨m, hm, hv⟩ := hv
          rw [lws] at hm
          have em := hm.same hcore fun _ => Iff.rfl
          subst em
          have x8a := x9.trans x10
          have hdv10 := hdv.mono x8a.tk
          have s2 : 2 ≤ sizeLine := by decide
          refine ⟨_, rfl, s2, fun p1 np1 => ?_⟩
          refine ⟨_, _, (hv.mono (TK.new np1)).dp, (Tp.tup upd_same (.cons (.str _) (.cons (hdv10.mono (TK.new np1)) .nil))).dp, shapedR _ _, shapedR _ _, _, rfl, ?_⟩
          rw [eqvR _ _ (by decide +kernel)]
          refine iteF ?_
          have x8b := x8a.trans (Ext.new (T := TT) (so := none) (o := .tup [.str "good", dv]) np1)
          have hw11 := x8b.lst hw8
          have q11 := x8b.toS.src q8
          have x2z : Ext TT (some so) H2 (upd H10 p1 (.tup [.str "good", dv])) := (x27.trans x8).trans x8b.toS
          clear hv hdv10 x8b x8a x10 x9 ht9 hw8 q8 x8 hw7 q7 x27 hdv
          generalize upd H10 p1 (.tup [.str "good", dv]) = H11 at hw11 q11 x2z ⊢
          refine ⟨_, rfl, _, rfl, so, (n : Int), rfl, q11, by omega, by omega, fun v H12 x12' q12 hv => ?_⟩
          obtain ⟨x0, rfl, xa, xb⟩ := hv
          obtain ⟨X, rfl⟩ : ∃ X : Nat, x0 = (X : Int) := ⟨x0.toNat, by omega⟩
          refine ⟨_, rfl, _, rfl, so, (n : Int), rfl, q12, by omega, by omega, fun v H13 x13 q13 hv => ?_⟩
          obtain ⟨y0, rfl, ya, yb⟩ := hv
          obtain ⟨Y, rfl⟩ : ∃ Y : Nat, y0 = (Y : Int) := ⟨y0.toNat, by omega⟩
          refine ⟨_, _, rfl, ?_⟩
          have hw13 := x13.lstS nlw (x12'.lstS nlw hw11)
          have x2y := (x2z.trans x12').trans x13
          dsimp only
          clear x12' q12 x13 hw11 q11 x2z hm hcore
          refine seq_cut (fun σ H' => ∃ (rb : Addr) (bv : Int), σ = [some (.ref l0), some (.int (0 + (i : Int))), some (.ref so), some (nV n), some (.int (1 + c0)), some (.ref lw), some (nV X), u7, some dv, some (nV Y), some (.ref rb), u11] ∧ Ext TT (some so) H2 H' ∧ Src H' so ∧ H' rb = some (.tup ((ws.set X bv).map V.int)) ∧ ¬ Let6 bv) (fun R join => ?_) ?_
          · refine ⟨_, rfl, lw, _, rfl, .inl ⟨SqL.of hw13, fun t nt => ?_⟩⟩
            have x14 := Ext.new (T := TT) (so := some so) (o := .tup (ws.map V.int)) nt
            have ht14 : upd H13 t (.tup (ws.map V.int)) t = some (.tup (ws.map V.int)) := upd_same
            have q14 := x14.src q13
            generalize upd H13 t (.tup (ws.map V.int)) = H14 at x14 ht14 q14 ⊢
            refine ⟨_, rfl, _, rfl, _, rfl, _, _, rfl, rfl, ⟨by decide, by decide, by decide⟩, _, _, rfl, rfl, (by show 3 ≤ sizeLine; decide), fun l nl => ?_⟩
            obtain ⟨x15, h15⟩ := newX (TT := TT) (so := some so) (o := .lst [.int (-1), .int 6, .int (6 + 10 ^ Int.toNat 9)]) (Ext.refl _ _ H14) nl
            refine ⟨so, l, _, rfl, x15.src q14, h15, src_ne q14 nl, by show 0 < 3; decide, by show 3 < 1000; decide, fun v H16 x16 q16 hv => ?_⟩
            have hbv : ∃ bv : Int, v = .int bv ∧ ¬ Let6 bv := by
              have p9 : (10 : Int) ^ Int.toNat 9 = 1000000000 := by decide
              rw [p9] at hv
              simp only [List.mem_cons, List.not_mem_nil, or_false] at hv
              rcases hv with z | z | z <;> exact ⟨_, z, fun y => by unfold Let6 at y; omega⟩
            obtain ⟨bv, rfl, hbv⟩ := hbv
            have ht16 := (x15.trans x16).tkS q14 _ _ ht14
            refine ⟨t, ws, X, bv, rfl, ht16, by omega, by omega, fun rb H17 x17 h17 => ?_⟩
            exact join _ _ ⟨rb, bv, rfl, (((x2y.trans x14).trans x15).trans x16).trans x17.toS, x17.toS.src q16, h17, hbv⟩
          · rintro σ H14 ⟨rb, bv, rfl, x14, q14, hrb, hbv⟩
            have Xn : X < n := by omega
            have Yn : Y < n := by omega
            have lset : (ws.set X bv).length = n := by rw [List.length_set, lws]
            have low : ∀ j, j < n → j ≠ X → Let6 ((ws.set X bv).getD j 0) := fun j hj ne => by
              rw [set_at (by omega), if_neg (fun z => ne z.symm)]
              exact l6 j (by omega)
            have atX : ¬ Let6 ((ws.set X bv).getD X 0) := by rw [set_at (by omega), if_pos rfl]; exact hbv
            refine ⟨_, rfl, rb, _, rfl, hrb, by omega, fun z => absurd ⟨by omega, by omega⟩ z, fun a b j hok hj hbad => ?_, fun _ _ hok => absurd (hok X (by omega)) atX⟩
            have ej : j = X := by
              by_cases z : j = X
              · exact z
              · exact absurd (low j (by omega) z) hbad
            subst ej
            intro v H15 x15 hv
            have s2 : 2 ≤ sizeLine := by decide
            refine ⟨_, rfl, s2, fun p2 np2 => ?_⟩
            refine ⟨_, _, (hv.mono (TK.new np2)).dp, (Tp.tup upd_same (.cons (.str _) (.cons (.int _) .nil))).dp, shaped2 _ _, shaped2 _ _, _, rfl, ?_⟩
            rw [eqv2 _ _ (by decide +kernel)]
            refine iteF ?_
            have x15b := x15.trans (Ext.new (T := TT) (so := none) (o := .tup [.str "coat", nV j]) np2)
            have hrb15 := x15b.tup hrb
            have q15 := x15b.toS.src q14
            have x2q := x14.trans x15b.toS
            clear hv
            generalize upd H15 p2 (.tup [.str "coat", nV j]) = H16 at x15b hrb15 q15 x2q ⊢
            refine ⟨_, rfl, _, rfl, _, rfl, rb, _, Y, -1, rfl, hrb15, by omega, by omega, fun r2 H17 x17 h17 => ?_⟩
            have lset2 : (((ws.set j bv).set Y (-1))).length = n := by rw [List.length_set, lset]
            obtain ⟨M, hM, hM1⟩ : ∃ M : Nat, (M : Int) = (if (Y : Int) < (j : Int) then (Y : Int) else (j : Int)) ∧ (M = Y ∧ Y < j ∨ M = j ∧ j ≤ Y) := by
              by_cases z : Y < j
              · exact ⟨Y, by rw [if_pos (by omega)], .inl ⟨rfl, z⟩⟩
              · exact ⟨j, by rw [if_neg (by omega)], .inr ⟨rfl, by omega⟩⟩
            have atM : ¬ Let6 (((ws.set j bv).set Y (-1)).getD M 0) := by
              rw [set_at (by omega)]
              by_cases z : Y = M
              · rw [if_pos z]; exact fun y => by unfold Let6 at y; omega
              · rw [if_neg z, show M = j by omega]; exact atX
            have low2 : ∀ q, q < M → Let6 (((ws.set j bv).set Y (-1)).getD q 0) := fun q hq => by
              rw [set_at (by omega), if_neg (by omega)]
              exact low q (by omega) (by omega)
            refine ⟨r2, _, rfl, h17, by omega, fun z => absurd ⟨by omega, by omega⟩ z, fun a b q hok hq hbad => ?_, fun _ _ hok => absurd (hok M (by omega)) atM⟩
            have eq : q = M := by
              by_cases z : q < M
              · exact absurd (low2 q z) hbad
              · by_cases z2 : M < q
                · exact absurd (hok M z2) atM
                · omega
            subst eq
            intro v H18 x18 hv
            refine ⟨_, rfl, _, rfl, (j : Int), (Y : Int), rfl, ?_⟩
            rw [← hM]
            refine ⟨s2, fun p3 np3 => ?_⟩
            refine ⟨_, _, (hv.mono (TK.new np3)).dp, (Tp.tup upd_same (.cons (.str _) (.cons (.int _) .nil))).dp, shaped2 _ _, shaped2 _ _, _, rfl, ?_⟩
            rw [eqv2 _ _ (by decide +kernel)]
            refine iteF ?_
            have x18b := (x17.trans x18).trans (Ext.new (T := TT) (so := none) (o := .tup [.str "coat", .int (q : Int)]) np3)
            have q18 := x18b.toS.src q15
            have x2p := x2q.trans x18b.toS
            clear hv x18b x18 x17 h17 low2 atM x2q q15 hrb15 x15b x15 atX low hrb x14 q14 hbad
            generalize upd H18 p3 (.tup [.str "coat", .int (q : Int)]) = H19 at q18 x2p ⊢
            have new0 : ∀ {G : Hp} {p : Addr} {o : HO}, G p = none → Ext TT none G (upd G p o) := fun h => Ext.new h
            refine ⟨_, rfl, Nat.zero_le _, fun b1 nb1 => ?_⟩
            obtain ⟨y1, t1⟩ := newX (TT := TT) (so := none) (o := .tup []) (Ext.refl _ _ H19) nb1
            generalize upd H19 b1 (.tup []) = G1 at y1 t1 ⊢
            refine ⟨(by show 1 ≤ sizeLine; decide), fun b2 nb2 => ?_⟩
            have y2 := new0 (o := .tup [.int 0]) nb2
            have t2 : upd G1 b2 (.tup [.int 0]) b2 = some (.tup [.int 0]) := upd_same
            generalize upd G1 b2 (.tup [.int 0]) = G2 at y2 t2 ⊢
            refine ⟨s2, fun b3 nb3 => ?_⟩
            have y3 := new0 (o := .tup [.int 1, .int 1]) nb3
            have t3 : upd G2 b3 (.tup [.int 1, .int 1]) b3 = some (.tup [.int 1, .int 1]) := upd_same
            generalize upd G2 b3 (.tup [.int 1, .int 1]) = G3 at y3 t3 ⊢
            refine ⟨_, rfl, s2, fun b4 nb4 => ?_⟩
            have y4 := new0 (o := .tup [.int 2, .int (-1)]) nb4
            have t4 : upd G3 b4 (.tup [.int 2, .int (-1)]) b4 = some (.tup [.int 2, .int (-1)]) := upd_same
            generalize upd G3 b4 (.tup [.int 2, .int (-1)]) = G4 at y4 t4 ⊢
            have y34 := y3.trans y4
            have y24 := y2.trans y34
            have q4 := (y1.trans y24).toS.src q18
            have f4 : G4 b1 = some (.tup []) ∧ G4 b2 = some (.tup [.int 0]) ∧ G4 b3 = some (.tup [.int 1, .int 1]) ∧ G4 b4 = some (.tup [.int 2, .int (-1)]) := ⟨y24.tup t1, y34.tup t2, y4.tup t3, t4⟩
            have x2r := x2p.trans (y1.trans y24).toS
            refine ⟨41, rfl, by omega, by omega, fun D hD => ?_⟩
            have nD : D ≠ so := src_ne q4 hD
            have ns' : (some so : Option Addr) ≠ some D := fun z => nD (Option.some.inj z).symm
            refine lc_it walk_range (fun a H' => Ext TT (some so) G4 H' ∧ Src H' so ∧ ∃ s : List Int, H' D = some (.lst (s.map V.int)) ∧ s.length = a) ⟨Ext.new hD, (Ext.new (T := TT) (so := some so) hD).src q4, [], upd_same, rfl⟩ (fun _ _ _ _ => trivial) (fun a x H9 H8 ha e y => ?_) (fun G5 e => ?_)
            · obtain ⟨rfl, rfl⟩ := y
              obtain ⟨x8, q8, ss, h8, ls⟩ := e
              refine ⟨rfl, ?_⟩
              dsimp only [tYes]
              refine iteT ?_
              refine ⟨_, rfl, so, 7, rfl, q8, by decide, by decide, fun v H9 x9 q9 hv => ?_⟩
              obtain ⟨m, rfl, m0, m1⟩ := hv
              have h9 := x9.lstS nD h8
              have ha' : a < 41 := ha
              refine ⟨_, h9, by rw [List.length_map]; exact small1000 (by omega), (x8.trans x9).mutL hD h9 ns', ?_, ss ++ [m], by rw [upd_same, List.map_append] <;> rfl, by rw [List.length_append, ls] <;> rfl⟩
              obtain ⟨p, q, e1, e2⟩ := q9
              exact ⟨p, q, (upd_ne (Ne.symm nD)).trans e1, e2⟩
            · obtain ⟨x5, q5, ss, h5, ls⟩ := e
              have ls : ss.length = 41 := ls
              refine ⟨D, _, rfl, .inl ⟨SqL.of h5, fun b5 nb5 => ?_⟩⟩
              have y5 := new0 (o := .tup (ss.map V.int)) nb5
              have t5 : upd G5 b5 (.tup (ss.map V.int)) b5 = some (.tup (ss.map V.int)) := upd_same
              generalize upd G5 b5 (.tup (ss.map V.int)) = G6 at y5 t5 ⊢
              have x6 := x5.trans y5.toS
              have q6 := y5.toS.src q5
              have tk := x6.tkS q4
              have f6 : G6 b1 = some (.tup []) ∧ G6 b2 = some (.tup [.int 0]) ∧ G6 b3 = some (.tup [.int 1, .int 1]) ∧ G6 b4 = some (.tup [.int 2, .int (-1)]) := ⟨tk _ _ f4.1, tk _ _ f4.2.1, tk _ _ f4.2.2.1, tk _ _ f4.2.2.2⟩
              refine ⟨(by show 5 ≤ sizeLine; decide), fun l nl => ?_⟩
              obtain ⟨x7, h7⟩ := newX (TT := TT) (so := none) (o := .lst [.ref b1, .ref b2, .ref b3, .ref b4, .ref b5]) (Ext.refl _ _ G6) nl
              refine ⟨so, l, _, rfl, x7.toS.src q6, h7, src_ne q6 nl, by show 0 < 5; decide, by show 5 < 1000; decide, fun v G8 x8 q8 hv => ?_⟩
              have tk8 : ∀ {b : Addr} {xs : List V}, G6 b = some (.tup xs) → G8 b = some (.tup xs) := fun h => x8.tkS (x7.toS.src q6) _ _ (x7.tup h)
              have hsh : ∃ (b : Addr) (s : List Int), v = .ref b ∧ G8 b = some (.tup (s.map V.int)) ∧ (s.length < 3 ∨ s.length = 41) := by
                simp only [List.mem_cons, List.not_mem_nil, or_false] at hv
                rcases hv with z | z | z | z | z
                · exact ⟨b1, [], z, tk8 f6.1, .inl (by decide)⟩
                · exact ⟨b2, [0], z, tk8 f6.2.1, .inl (by decide)⟩
                · exact ⟨b3, [1, 1], z, tk8 f6.2.2.1, .inl (by decide)⟩
                · exact ⟨b4, [2, -1], z, tk8 f6.2.2.2, .inl (by decide)⟩
                · exact ⟨b5, ss, z, tk8 t5, .inr ls⟩
              obtain ⟨b, sh, rfl, hb8, lsh⟩ := hsh
              clear hv
              have nosz : ¬ (3 ≤ sh.length ∧ sh.length ≤ 40) := by omega
              refine ⟨_, rfl, b, sh, rfl, hb8, by omega, fun _ => ?_, fun a b => absurd ⟨a, b⟩ nosz, fun a b => absurd ⟨a, b⟩ nosz⟩
              intro v G9 x9 hv
              refine ⟨_, rfl, b, _, rfl, .inr (SqT.of (x9.tup hb8)), s2, fun p9 np9 => ?_⟩
              rw [List.length_map]
              refine ⟨_, _, (hv.mono (TK.new np9)).dp, (Tp.tup upd_same (.cons (.str _) (.cons (.int _) .nil))).dp, shaped2 _ _, shaped2 _ _, _, rfl, ?_⟩
              rw [eqv2 _ _ (by decide +kernel)]
              refine iteF ?_
              exact ⟨_, _, _, _, _, _, _, _, _, _, _, rfl, x12.dropS nsoH (((((x2r.trans x6).trans x7.toS).trans x8).trans x9.toS).trans (Ext.new np9))⟩
    · rintro σ H1 ⟨u1, u2, u3, u4, u5, u6, u7, u8, u9, u10, u11, rfl, x1⟩
      exact k _
end
end R
end

-- EndMk
section
set_option Elab.async false
set_option linter.all false
set_option maxRecDepth 100000
set_option maxHeartbeats 4000000
namespace R
open PySem PySem.Spec PyProof.Rows L2 LamX NdefX LamP
theorem exm_by {K : PySem.W.Frag} {S F : Addr} {b : Bool} (h1 : PySem.W.subIn K (.ref F) (.type "BaseException") = some true) (h2 : PySem.W.isClsIn K F = true) (h3 : PySem.W.typeIn K (.ref F) = some (.type "type")) (h4 : PySem.W.subIn K (.ref S) (.ref F) = some b) : PySem.W.exmOne K (.ref S) (.ref F) = some b := by
  have a1 : (PySem.W.subIn K (.ref F) (.type "BaseException") == some true) = true := by rw [h1] <;> rfl
  have a2 : ((PySem.W.clsIn K F).isSome && PySem.W.typeIn K (.ref F) == some (.type "type")) = true := by
    rw [show (PySem.W.clsIn K F).isSome = true from h2, h3] <;> rfl
  unfold PySem.W.exmOne
  first
    | rw [if_pos a1, if_pos a2, h4]
    | (show (if _ = true then (if _ = true then _ else _) else _) = _; rw [if_pos a1, if_pos a2, h4])
theorem law_at {l : PySem.W.OpenLaw} {w : World} {K : PySem.W.Frag} {h : Heap} {mg : Str → Option Value} {fa : Addr} (X : K.In h) (T : Txt K mg) (hfa : mg "law" = some (.ref fa))
    (hb : ∀ (s : Shared) (u : Value), BindsTo s T.d_law ⟨[u], []⟩ [("_law_script", u)]) : LawAtS l w K CX0 5 63 "_law_script" mg fa h := by
  have e := hfa.symm.trans T.g_law
  cases e
  refine ⟨T.d_law, [], spLaw K [], ?_, ?_, ?_, hb, ?_, ?_⟩
  · intro p hp
    cases hp
  · intro p hp
    cases hp
  · intro p hp
    cases hp
  · intro H a ns _ hbits htab hS
    refine ⟨a, ns, rfl, hS, hbits, ?_, fun _ => rfl⟩
    intro p hp
    cases hp
  · intro base _ _ TB
    exact ok_law T []
theorem all_mk {l : PySem.W.OpenLaw} {w : World} {K : PySem.W.Frag} {h : Heap} {mg : Str → Option Value} {fa : Addr} (X : K.In h) (G : h.Ns mainGlobals mg) (hfa : mg "law" = some (.ref fa))
    {C_Refused N_Refused : Addr} {nm_Refused q_Refused : Str} {bs_Refused bm_Refused sub_Refused : List Value} {sn_Refused : List Str} {ab_Refused : Bool} {col_Refused : Option Bool} {dd_Refused : Option Addr} {m0_Refused m1_Refused m2_Refused m3_Refused m5_Refused : Option Value}
    {C_BadSize N_BadSize : Addr} {nm_BadSize q_BadSize : Str} {bs_BadSize bm_BadSize sub_BadSize : List Value} {sn_BadSize : List Str} {ab_BadSize : Bool} {col_BadSize : Option Bool} {dd_BadSize : Option Addr} {m0_BadSize m1_BadSize m2_BadSize m3_BadSize m5_BadSize : Option Value}
    {C_BadCoat N_BadCoat : Addr} {nm_BadCoat q_BadCoat : Str} {bs_BadCoat bm_BadCoat sub_BadCoat : List Value} {sn_BadCoat : List Str} {ab_BadCoat : Bool} {col_BadCoat : Option Bool} {dd_BadCoat : Option Addr} {m0_BadCoat m1_BadCoat m2_BadCoat m3_BadCoat m5_BadCoat : Option Value}
    {a_Refused_init : Addr} {od_Refused_init an_Refused_init : Option Addr} {sl_Refused_init : Array (Option Value)} {oc_Refused_init kV_Refused_init dc_Refused_init pm_Refused_init ct_Refused_init : Value} {cd_Refused_init : Value}
    {a_is_number : Addr} {od_is_number an_is_number : Option Addr} {sl_is_number : Array (Option Value)} {oc_is_number kV_is_number dc_is_number pm_is_number ct_is_number : Value} {cd_is_number : Value}
    {a_is_below : Addr} {od_is_below an_is_below : Option Addr} {sl_is_below : Array (Option Value)} {oc_is_below kV_is_below dc_is_below pm_is_below ct_is_below : Value} {cd_is_below : Value}
    {a_core_of : Addr} {od_core_of an_core_of : Option Addr} {sl_core_of : Array (Option Value)} {oc_core_of kV_core_of dc_core_of pm_core_of ct_core_of : Value} {cd_core_of : Value}
    {a_places_left : Addr} {od_places_left an_places_left : Option Addr} {sl_places_left : Array (Option Value)} {oc_places_left kV_places_left dc_places_left pm_places_left ct_places_left : Value} {cd_places_left : Value}
    {a_Lpool : Addr} {od_Lpool an_Lpool : Option Addr} {sl_Lpool : Array (Option Value)} {oc_Lpool kV_Lpool dc_Lpool pm_Lpool ct_Lpool : Value} {cd_Lpool : Value}
    {a_Ltake : Addr} {od_Ltake an_Ltake : Option Addr} {sl_Ltake : Array (Option Value)} {oc_Ltake kV_Ltake dc_Ltake pm_Ltake ct_Ltake : Value} {cd_Ltake : Value}
    {a_Lone : Addr} {od_Lone an_Lone : Option Addr} {sl_Lone : Array (Option Value)} {oc_Lone kV_Lone dc_Lone pm_Lone ct_Lone : Value} {cd_Lone : Value}
    {a_Lput : Addr} {od_Lput an_Lput : Option Addr} {sl_Lput : Array (Option Value)} {oc_Lput kV_Lput dc_Lput pm_Lput ct_Lput : Value} {cd_Lput : Value}
    {a_Lreadings : Addr} {od_Lreadings an_Lreadings : Option Addr} {sl_Lreadings : Array (Option Value)} {oc_Lreadings kV_Lreadings dc_Lreadings pm_Lreadings ct_Lreadings : Value} {cd_Lreadings : Value}
    {a_Lletters : Addr} {od_Lletters an_Lletters : Option Addr} {sl_Lletters : Array (Option Value)} {oc_Lletters kV_Lletters dc_Lletters pm_Lletters ct_Lletters : Value} {cd_Lletters : Value}
    {a_Lstruck_so : Addr} {od_Lstruck_so an_Lstruck_so : Option Addr} {sl_Lstruck_so : Array (Option Value)} {oc_Lstruck_so kV_Lstruck_so dc_Lstruck_so pm_Lstruck_so ct_Lstruck_so : Value} {cd_Lstruck_so : Value}
    {a_Ltold : Addr} {od_Ltold an_Ltold : Option Addr} {sl_Ltold : Array (Option Value)} {oc_Ltold kV_Ltold dc_Ltold pm_Ltold ct_Ltold : Value} {cd_Ltold : Value}
    {a_law : Addr} {od_law an_law : Option Addr} {sl_law : Array (Option Value)} {oc_law kV_law dc_law pm_law ct_law : Value} {cd_law : Value}
    {t_MOST_COATS : Tok}
    {t_SHORTEST_ROW : Tok}
    {t_LONGEST_ROW : Tok}
    (aC_Refused : PySem.W.nsIn K mainGlobals "Refused" = some (some (.ref C_Refused)))
    (xL_Refused : K.lookup C_Refused = some (excClassObj nm_Refused q_Refused C_Refused N_Refused bs_Refused bm_Refused true sn_Refused sub_Refused ab_Refused col_Refused dd_Refused m0_Refused m1_Refused m2_Refused m3_Refused m5_Refused "ValueError.__new__"))
    (rV_Refused : PySem.HandSPX.refsVE bm_Refused = true)
    (sa_Refused : PySem.W.findIn K (.ref C_Refused) "__setattr__" = some (some (.builtin "object.__setattr__")))
    (ex_Refused : PySem.W.subIn K (.ref C_Refused) (.type "BaseException") = some true)
    (ty_Refused : PySem.W.typeIn K (.ref C_Refused) = some (.type "type"))
    (kC_Refused : PySem.W.keepIn K (.ref C_Refused) = true)
    (ga_Refused : PySem.W.findIn K (.ref C_Refused) "__getattribute__" = some (some (.builtin "BaseException.__getattribute__")))
    (gg_Refused : PySem.W.findIn K (.ref C_Refused) "__getattr__" = some none)
    (hd_Refused : PySem.W.hasDictIn K C_Refused = true)
    (is_Refused : PySem.W.isClsIn K C_Refused = true)
    (iC_Refused : PySem.W.findIn K (.ref C_Refused) "__init__" = some (some (.ref a_Refused_init)))
    (nw_Refused : PySem.W.findIn K (.ref C_Refused) "what" = some none)
    (aC_BadSize : PySem.W.nsIn K mainGlobals "BadSize" = some (some (.ref C_BadSize)))
    (xL_BadSize : K.lookup C_BadSize = some (excClassObj nm_BadSize q_BadSize C_BadSize N_BadSize bs_BadSize bm_BadSize true sn_BadSize sub_BadSize ab_BadSize col_BadSize dd_BadSize m0_BadSize m1_BadSize m2_BadSize m3_BadSize m5_BadSize "ValueError.__new__"))
    (rV_BadSize : PySem.HandSPX.refsVE bm_BadSize = true)
    (sa_BadSize : PySem.W.findIn K (.ref C_BadSize) "__setattr__" = some (some (.builtin "object.__setattr__")))
    (ex_BadSize : PySem.W.subIn K (.ref C_BadSize) (.type "BaseException") = some true)
    (ty_BadSize : PySem.W.typeIn K (.ref C_BadSize) = some (.type "type"))
    (kC_BadSize : PySem.W.keepIn K (.ref C_BadSize) = true)
    (ga_BadSize : PySem.W.findIn K (.ref C_BadSize) "__getattribute__" = some (some (.builtin "BaseException.__getattribute__")))
    (gg_BadSize : PySem.W.findIn K (.ref C_BadSize) "__getattr__" = some none)
    (hd_BadSize : PySem.W.hasDictIn K C_BadSize = true)
    (is_BadSize : PySem.W.isClsIn K C_BadSize = true)
    (iC_BadSize : PySem.W.findIn K (.ref C_BadSize) "__init__" = some (some (.ref a_Refused_init)))
    (nw_BadSize : PySem.W.findIn K (.ref C_BadSize) "what" = some none)
    (aC_BadCoat : PySem.W.nsIn K mainGlobals "BadCoat" = some (some (.ref C_BadCoat)))
    (xL_BadCoat : K.lookup C_BadCoat = some (excClassObj nm_BadCoat q_BadCoat C_BadCoat N_BadCoat bs_BadCoat bm_BadCoat true sn_BadCoat sub_BadCoat ab_BadCoat col_BadCoat dd_BadCoat m0_BadCoat m1_BadCoat m2_BadCoat m3_BadCoat m5_BadCoat "ValueError.__new__"))
    (rV_BadCoat : PySem.HandSPX.refsVE bm_BadCoat = true)
    (sa_BadCoat : PySem.W.findIn K (.ref C_BadCoat) "__setattr__" = some (some (.builtin "object.__setattr__")))
    (ex_BadCoat : PySem.W.subIn K (.ref C_BadCoat) (.type "BaseException") = some true)
    (ty_BadCoat : PySem.W.typeIn K (.ref C_BadCoat) = some (.type "type"))
    (kC_BadCoat : PySem.W.keepIn K (.ref C_BadCoat) = true)
    (ga_BadCoat : PySem.W.findIn K (.ref C_BadCoat) "__getattribute__" = some (some (.builtin "BaseException.__getattribute__")))
    (gg_BadCoat : PySem.W.findIn K (.ref C_BadCoat) "__getattr__" = some none)
    (hd_BadCoat : PySem.W.hasDictIn K C_BadCoat = true)
    (is_BadCoat : PySem.W.isClsIn K C_BadCoat = true)
    (iC_BadCoat : PySem.W.findIn K (.ref C_BadCoat) "__init__" = some (some (.ref a_Refused_init)))
    (nw_BadCoat : PySem.W.findIn K (.ref C_BadCoat) "what" = some none)
    (s_Refused_Refused : PySem.W.subIn K (.ref C_Refused) (.ref C_Refused) = some true)
    (s_Refused_BadSize : PySem.W.subIn K (.ref C_Refused) (.ref C_BadSize) = some false)
    (s_Refused_BadCoat : PySem.W.subIn K (.ref C_Refused) (.ref C_BadCoat) = some false)
    (s_BadSize_Refused : PySem.W.subIn K (.ref C_BadSize) (.ref C_Refused) = some true)
    (s_BadSize_BadSize : PySem.W.subIn K (.ref C_BadSize) (.ref C_BadSize) = some true)
    (s_BadSize_BadCoat : PySem.W.subIn K (.ref C_BadSize) (.ref C_BadCoat) = some false)
    (s_BadCoat_Refused : PySem.W.subIn K (.ref C_BadCoat) (.ref C_Refused) = some true)
    (s_BadCoat_BadSize : PySem.W.subIn K (.ref C_BadCoat) (.ref C_BadSize) = some false)
    (s_BadCoat_BadCoat : PySem.W.subIn K (.ref C_BadCoat) (.ref C_BadCoat) = some true)
    (l_Refused_init : K.lookup a_Refused_init = some ⟨oc_Refused_init, od_Refused_init, .func (PySem.W.fnOf "__init__" "Refused.__init__" (defArgs s_Refused_init) (defBody s_Refused_init) (defScope s_Refused_init) .none kV_Refused_init dc_Refused_init pm_Refused_init an_Refused_init cd_Refused_init ct_Refused_init), sl_Refused_init⟩)
    (co_Refused_init : PySem.W.codeIn K cd_Refused_init "Refused.__init__" = true)
    (k_Refused_init : PySem.W.keepIn K (.ref a_Refused_init) = true)
    (g_is_number : PySem.W.nsIn K mainGlobals "is_number" = some (some (.ref a_is_number)))
    (l_is_number : K.lookup a_is_number = some ⟨oc_is_number, od_is_number, .func (PySem.W.fnOf "is_number" "is_number" (defArgs s_is_number) (defBody s_is_number) (defScope s_is_number) .none kV_is_number dc_is_number pm_is_number an_is_number cd_is_number ct_is_number), sl_is_number⟩)
    (co_is_number : PySem.W.codeIn K cd_is_number "is_number" = true)
    (k_is_number : PySem.W.keepIn K (.ref a_is_number) = true)
    (g_is_below : PySem.W.nsIn K mainGlobals "is_below" = some (some (.ref a_is_below)))
    (l_is_below : K.lookup a_is_below = some ⟨oc_is_below, od_is_below, .func (PySem.W.fnOf "is_below" "is_below" (defArgs s_is_below) (defBody s_is_below) (defScope s_is_below) .none kV_is_below dc_is_below pm_is_below an_is_below cd_is_below ct_is_below), sl_is_below⟩)
    (co_is_below : PySem.W.codeIn K cd_is_below "is_below" = true)
    (k_is_below : PySem.W.keepIn K (.ref a_is_below) = true)
    (g_core_of : PySem.W.nsIn K mainGlobals "core_of" = some (some (.ref a_core_of)))
    (l_core_of : K.lookup a_core_of = some ⟨oc_core_of, od_core_of, .func (PySem.W.fnOf "core_of" "core_of" (defArgs s_core_of) (defBody s_core_of) (defScope s_core_of) .none kV_core_of dc_core_of pm_core_of an_core_of cd_core_of ct_core_of), sl_core_of⟩)
    (co_core_of : PySem.W.codeIn K cd_core_of "core_of" = true)
    (k_core_of : PySem.W.keepIn K (.ref a_core_of) = true)
    (g_places_left : PySem.W.nsIn K mainGlobals "places_left" = some (some (.ref a_places_left)))
    (l_places_left : K.lookup a_places_left = some ⟨oc_places_left, od_places_left, .func (PySem.W.fnOf "places_left" "places_left" (defArgs s_places_left) (defBody s_places_left) (defScope s_places_left) .none kV_places_left dc_places_left pm_places_left an_places_left cd_places_left ct_places_left), sl_places_left⟩)
    (co_places_left : PySem.W.codeIn K cd_places_left "places_left" = true)
    (k_places_left : PySem.W.keepIn K (.ref a_places_left) = true)
    (g_Lpool : PySem.W.nsIn K mainGlobals "_law_pool" = some (some (.ref a_Lpool)))
    (l_Lpool : K.lookup a_Lpool = some ⟨oc_Lpool, od_Lpool, .func (PySem.W.fnOf "_law_pool" "_law_pool" (defArgs s_Lpool) (defBody s_Lpool) (defScope s_Lpool) .none kV_Lpool dc_Lpool pm_Lpool an_Lpool cd_Lpool ct_Lpool), sl_Lpool⟩)
    (co_Lpool : PySem.W.codeIn K cd_Lpool "_law_pool" = true)
    (k_Lpool : PySem.W.keepIn K (.ref a_Lpool) = true)
    (g_Ltake : PySem.W.nsIn K mainGlobals "_law_take" = some (some (.ref a_Ltake)))
    (l_Ltake : K.lookup a_Ltake = some ⟨oc_Ltake, od_Ltake, .func (PySem.W.fnOf "_law_take" "_law_take" (defArgs s_Ltake) (defBody s_Ltake) (defScope s_Ltake) .none kV_Ltake dc_Ltake pm_Ltake an_Ltake cd_Ltake ct_Ltake), sl_Ltake⟩)
    (co_Ltake : PySem.W.codeIn K cd_Ltake "_law_take" = true)
    (k_Ltake : PySem.W.keepIn K (.ref a_Ltake) = true)
    (g_Lone : PySem.W.nsIn K mainGlobals "_law_one" = some (some (.ref a_Lone)))
    (l_Lone : K.lookup a_Lone = some ⟨oc_Lone, od_Lone, .func (PySem.W.fnOf "_law_one" "_law_one" (defArgs s_Lone) (defBody s_Lone) (defScope s_Lone) .none kV_Lone dc_Lone pm_Lone an_Lone cd_Lone ct_Lone), sl_Lone⟩)
    (co_Lone : PySem.W.codeIn K cd_Lone "_law_one" = true)
    (k_Lone : PySem.W.keepIn K (.ref a_Lone) = true)
    (g_Lput : PySem.W.nsIn K mainGlobals "_law_put" = some (some (.ref a_Lput)))
    (l_Lput : K.lookup a_Lput = some ⟨oc_Lput, od_Lput, .func (PySem.W.fnOf "_law_put" "_law_put" (defArgs s_Lput) (defBody s_Lput) (defScope s_Lput) .none kV_Lput dc_Lput pm_Lput an_Lput cd_Lput ct_Lput), sl_Lput⟩)
    (co_Lput : PySem.W.codeIn K cd_Lput "_law_put" = true)
    (k_Lput : PySem.W.keepIn K (.ref a_Lput) = true)
    (g_Lreadings : PySem.W.nsIn K mainGlobals "_law_readings" = some (some (.ref a_Lreadings)))
    (l_Lreadings : K.lookup a_Lreadings = some ⟨oc_Lreadings, od_Lreadings, .func (PySem.W.fnOf "_law_readings" "_law_readings" (defArgs s_Lreadings) (defBody s_Lreadings) (defScope s_Lreadings) .none kV_Lreadings dc_Lreadings pm_Lreadings an_Lreadings cd_Lreadings ct_Lreadings), sl_Lreadings⟩)
    (co_Lreadings : PySem.W.codeIn K cd_Lreadings "_law_readings" = true)
    (k_Lreadings : PySem.W.keepIn K (.ref a_Lreadings) = true)
    (g_Lletters : PySem.W.nsIn K mainGlobals "_law_letters" = some (some (.ref a_Lletters)))
    (l_Lletters : K.lookup a_Lletters = some ⟨oc_Lletters, od_Lletters, .func (PySem.W.fnOf "_law_letters" "_law_letters" (defArgs s_Lletters) (defBody s_Lletters) (defScope s_Lletters) .none kV_Lletters dc_Lletters pm_Lletters an_Lletters cd_Lletters ct_Lletters), sl_Lletters⟩)
    (co_Lletters : PySem.W.codeIn K cd_Lletters "_law_letters" = true)
    (k_Lletters : PySem.W.keepIn K (.ref a_Lletters) = true)
    (g_Lstruck_so : PySem.W.nsIn K mainGlobals "_law_struck_so" = some (some (.ref a_Lstruck_so)))
    (l_Lstruck_so : K.lookup a_Lstruck_so = some ⟨oc_Lstruck_so, od_Lstruck_so, .func (PySem.W.fnOf "_law_struck_so" "_law_struck_so" (defArgs s_Lstruck_so) (defBody s_Lstruck_so) (defScope s_Lstruck_so) .none kV_Lstruck_so dc_Lstruck_so pm_Lstruck_so an_Lstruck_so cd_Lstruck_so ct_Lstruck_so), sl_Lstruck_so⟩)
    (co_Lstruck_so : PySem.W.codeIn K cd_Lstruck_so "_law_struck_so" = true)
    (k_Lstruck_so : PySem.W.keepIn K (.ref a_Lstruck_so) = true)
    (g_Ltold : PySem.W.nsIn K mainGlobals "_law_told" = some (some (.ref a_Ltold)))
    (l_Ltold : K.lookup a_Ltold = some ⟨oc_Ltold, od_Ltold, .func (PySem.W.fnOf "_law_told" "_law_told" (defArgs s_Ltold) (defBody s_Ltold) (defScope s_Ltold) .none kV_Ltold dc_Ltold pm_Ltold an_Ltold cd_Ltold ct_Ltold), sl_Ltold⟩)
    (co_Ltold : PySem.W.codeIn K cd_Ltold "_law_told" = true)
    (k_Ltold : PySem.W.keepIn K (.ref a_Ltold) = true)
    (g_law : PySem.W.nsIn K mainGlobals "law" = some (some (.ref a_law)))
    (l_law : K.lookup a_law = some ⟨oc_law, od_law, .func (PySem.W.fnOf "law" "law" (defArgs s_law) (defBody s_law) (defScope s_law) .none kV_law dc_law pm_law an_law cd_law ct_law), sl_law⟩)
    (co_law : PySem.W.codeIn K cd_law "law" = true)
    (k_law : PySem.W.keepIn K (.ref a_law) = true)
    (tI : PySem.W.typeIn K (.ref a_Refused_init) = some (.type "function"))
    (c_MOST_COATS : PySem.W.nsIn K mainGlobals "MOST_COATS" = some (some (.int 6 t_MOST_COATS)))
    (c_SHORTEST_ROW : PySem.W.nsIn K mainGlobals "SHORTEST_ROW" = some (some (.int 3 t_SHORTEST_ROW)))
    (c_LONGEST_ROW : PySem.W.nsIn K mainGlobals "LONGEST_ROW" = some (some (.int 40 t_LONGEST_ROW)))
    (n_bool : PySem.W.nsIn K mainGlobals "bool" = some (none))
    (n_enumerate : PySem.W.nsIn K mainGlobals "enumerate" = some (none))
    (n_int : PySem.W.nsIn K mainGlobals "int" = some (none))
    (n_isinstance : PySem.W.nsIn K mainGlobals "isinstance" = some (none))
    (n_len : PySem.W.nsIn K mainGlobals "len" = some (none))
    (n_max : PySem.W.nsIn K mainGlobals "max" = some (none))
    (n_min : PySem.W.nsIn K mainGlobals "min" = some (none))
    (n_range : PySem.W.nsIn K mainGlobals "range" = some (none))
    (n_tuple : PySem.W.nsIn K mainGlobals "tuple" = some (none)) : LawAtS l w K CX0 5 63 "_law_script" mg fa h :=
  law_at X {
    C_Refused := C_Refused,
    e_Refused := ⟨PySem.W.mg_of X G aC_Refused, ⟨⟨_, _, _, _, _, _, _, _, _, _, _, _, _, _, _, xL_Refused, rV_Refused⟩, sa_Refused, ex_Refused, ty_Refused, kC_Refused⟩, ⟨ga_Refused, gg_Refused, ex_Refused, hd_Refused⟩, iC_Refused, nw_Refused⟩,
    C_BadSize := C_BadSize,
    e_BadSize := ⟨PySem.W.mg_of X G aC_BadSize, ⟨⟨_, _, _, _, _, _, _, _, _, _, _, _, _, _, _, xL_BadSize, rV_BadSize⟩, sa_BadSize, ex_BadSize, ty_BadSize, kC_BadSize⟩, ⟨ga_BadSize, gg_BadSize, ex_BadSize, hd_BadSize⟩, iC_BadSize, nw_BadSize⟩,
    C_BadCoat := C_BadCoat,
    e_BadCoat := ⟨PySem.W.mg_of X G aC_BadCoat, ⟨⟨_, _, _, _, _, _, _, _, _, _, _, _, _, _, _, xL_BadCoat, rV_BadCoat⟩, sa_BadCoat, ex_BadCoat, ty_BadCoat, kC_BadCoat⟩, ⟨ga_BadCoat, gg_BadCoat, ex_BadCoat, hd_BadCoat⟩, iC_BadCoat, nw_BadCoat⟩,
    x_Refused_Refused := exm_by ex_Refused is_Refused ty_Refused s_Refused_Refused,
    x_Refused_BadSize := exm_by ex_BadSize is_BadSize ty_BadSize s_Refused_BadSize,
    x_Refused_BadCoat := exm_by ex_BadCoat is_BadCoat ty_BadCoat s_Refused_BadCoat,
    x_BadSize_Refused := exm_by ex_Refused is_Refused ty_Refused s_BadSize_Refused,
    x_BadSize_BadSize := exm_by ex_BadSize is_BadSize ty_BadSize s_BadSize_BadSize,
    x_BadSize_BadCoat := exm_by ex_BadCoat is_BadCoat ty_BadCoat s_BadSize_BadCoat,
    x_BadCoat_Refused := exm_by ex_Refused is_Refused ty_Refused s_BadCoat_Refused,
    x_BadCoat_BadSize := exm_by ex_BadSize is_BadSize ty_BadSize s_BadCoat_BadSize,
    x_BadCoat_BadCoat := exm_by ex_BadCoat is_BadCoat ty_BadCoat s_BadCoat_BadCoat,
    a_Refused_init := a_Refused_init,
    d_Refused_init := (PySem.W.fnOf "__init__" "Refused.__init__" (defArgs s_Refused_init) (defBody s_Refused_init) (defScope s_Refused_init) .none kV_Refused_init dc_Refused_init pm_Refused_init an_Refused_init cd_Refused_init ct_Refused_init),
    F_Refused_init := fun_mk l_Refused_init co_Refused_init k_Refused_init,
    b_Refused_init := (fun_mk (st := s_Refused_init) l_Refused_init co_Refused_init k_Refused_init).binds (ps := ["self", "what"]) (fun _ _ _ _ _ _ us hl => match us, hl with | [_, _], _ => rfl),
    g_is_number := PySem.W.mg_of X G g_is_number,
    a_is_number := a_is_number,
    d_is_number := (PySem.W.fnOf "is_number" "is_number" (defArgs s_is_number) (defBody s_is_number) (defScope s_is_number) .none kV_is_number dc_is_number pm_is_number an_is_number cd_is_number ct_is_number),
    F_is_number := fun_mk l_is_number co_is_number k_is_number,
    b_is_number := (fun_mk (st := s_is_number) l_is_number co_is_number k_is_number).binds (ps := ["value"]) (fun _ _ _ _ _ _ us hl => match us, hl with | [_], _ => rfl),
    g_is_below := PySem.W.mg_of X G g_is_below,
    a_is_below := a_is_below,
    d_is_below := (PySem.W.fnOf "is_below" "is_below" (defArgs s_is_below) (defBody s_is_below) (defScope s_is_below) .none kV_is_below dc_is_below pm_is_below an_is_below cd_is_below ct_is_below),
    F_is_below := fun_mk l_is_below co_is_below k_is_below,
    b_is_below := (fun_mk (st := s_is_below) l_is_below co_is_below k_is_below).binds (ps := ["value", "limit"]) (fun _ _ _ _ _ _ us hl => match us, hl with | [_, _], _ => rfl),
    g_core_of := PySem.W.mg_of X G g_core_of,
    a_core_of := a_core_of,
    d_core_of := (PySem.W.fnOf "core_of" "core_of" (defArgs s_core_of) (defBody s_core_of) (defScope s_core_of) .none kV_core_of dc_core_of pm_core_of an_core_of cd_core_of ct_core_of),
    F_core_of := fun_mk l_core_of co_core_of k_core_of,
    b_core_of := (fun_mk (st := s_core_of) l_core_of co_core_of k_core_of).binds (ps := ["row"]) (fun _ _ _ _ _ _ us hl => match us, hl with | [_], _ => rfl),
    g_places_left := PySem.W.mg_of X G g_places_left,
    a_places_left := a_places_left,
    d_places_left := (PySem.W.fnOf "places_left" "places_left" (defArgs s_places_left) (defBody s_places_left) (defScope s_places_left) .none kV_places_left dc_places_left pm_places_left an_places_left cd_places_left ct_places_left),
    F_places_left := fun_mk l_places_left co_places_left k_places_left,
    b_places_left := (fun_mk (st := s_places_left) l_places_left co_places_left k_places_left).binds (ps := ["row"]) (fun _ _ _ _ _ _ us hl => match us, hl with | [_], _ => rfl),
    g_Lpool := PySem.W.mg_of X G g_Lpool,
    a_Lpool := a_Lpool,
    d_Lpool := (PySem.W.fnOf "_law_pool" "_law_pool" (defArgs s_Lpool) (defBody s_Lpool) (defScope s_Lpool) .none kV_Lpool dc_Lpool pm_Lpool an_Lpool cd_Lpool ct_Lpool),
    F_Lpool := fun_mk l_Lpool co_Lpool k_Lpool,
    b_Lpool := (fun_mk (st := s_Lpool) l_Lpool co_Lpool k_Lpool).binds (ps := ["_law_script", "_law_k"]) (fun _ _ _ _ _ _ us hl => match us, hl with | [_, _], _ => rfl),
    g_Ltake := PySem.W.mg_of X G g_Ltake,
    a_Ltake := a_Ltake,
    d_Ltake := (PySem.W.fnOf "_law_take" "_law_take" (defArgs s_Ltake) (defBody s_Ltake) (defScope s_Ltake) .none kV_Ltake dc_Ltake pm_Ltake an_Ltake cd_Ltake ct_Ltake),
    F_Ltake := fun_mk l_Ltake co_Ltake k_Ltake,
    b_Ltake := (fun_mk (st := s_Ltake) l_Ltake co_Ltake k_Ltake).binds (ps := ["_law_source", "_law_top"]) (fun _ _ _ _ _ _ us hl => match us, hl with | [_, _], _ => rfl),
    g_Lone := PySem.W.mg_of X G g_Lone,
    a_Lone := a_Lone,
    d_Lone := (PySem.W.fnOf "_law_one" "_law_one" (defArgs s_Lone) (defBody s_Lone) (defScope s_Lone) .none kV_Lone dc_Lone pm_Lone an_Lone cd_Lone ct_Lone),
    F_Lone := fun_mk l_Lone co_Lone k_Lone,
    b_Lone := (fun_mk (st := s_Lone) l_Lone co_Lone k_Lone).binds (ps := ["_law_source", "_law_things"]) (fun _ _ _ _ _ _ us hl => match us, hl with | [_, _], _ => rfl),
    g_Lput := PySem.W.mg_of X G g_Lput,
    a_Lput := a_Lput,
    d_Lput := (PySem.W.fnOf "_law_put" "_law_put" (defArgs s_Lput) (defBody s_Lput) (defScope s_Lput) .none kV_Lput dc_Lput pm_Lput an_Lput cd_Lput ct_Lput),
    F_Lput := fun_mk l_Lput co_Lput k_Lput,
    b_Lput := (fun_mk (st := s_Lput) l_Lput co_Lput k_Lput).binds (ps := ["_law_row", "_law_at", "_law_thing"]) (fun _ _ _ _ _ _ us hl => match us, hl with | [_, _, _], _ => rfl),
    g_Lreadings := PySem.W.mg_of X G g_Lreadings,
    a_Lreadings := a_Lreadings,
    d_Lreadings := (PySem.W.fnOf "_law_readings" "_law_readings" (defArgs s_Lreadings) (defBody s_Lreadings) (defScope s_Lreadings) .none kV_Lreadings dc_Lreadings pm_Lreadings an_Lreadings cd_Lreadings ct_Lreadings),
    F_Lreadings := fun_mk l_Lreadings co_Lreadings k_Lreadings,
    b_Lreadings := (fun_mk (st := s_Lreadings) l_Lreadings co_Lreadings k_Lreadings).binds (ps := ["_law_left", "_law_odd"]) (fun _ _ _ _ _ _ us hl => match us, hl with | [_, _], _ => rfl),
    g_Lletters := PySem.W.mg_of X G g_Lletters,
    a_Lletters := a_Lletters,
    d_Lletters := (PySem.W.fnOf "_law_letters" "_law_letters" (defArgs s_Lletters) (defBody s_Lletters) (defScope s_Lletters) .none kV_Lletters dc_Lletters pm_Lletters an_Lletters cd_Lletters ct_Lletters),
    F_Lletters := fun_mk l_Lletters co_Lletters k_Lletters,
    b_Lletters := (fun_mk (st := s_Lletters) l_Lletters co_Lletters k_Lletters).binds (ps := ["_law_source", "_law_n", "_law_coats"]) (fun _ _ _ _ _ _ us hl => match us, hl with | [_, _, _], _ => rfl),
    g_Lstruck_so := PySem.W.mg_of X G g_Lstruck_so,
    a_Lstruck_so := a_Lstruck_so,
    d_Lstruck_so := (PySem.W.fnOf "_law_struck_so" "_law_struck_so" (defArgs s_Lstruck_so) (defBody s_Lstruck_so) (defScope s_Lstruck_so) .none kV_Lstruck_so dc_Lstruck_so pm_Lstruck_so an_Lstruck_so cd_Lstruck_so ct_Lstruck_so),
    F_Lstruck_so := fun_mk l_Lstruck_so co_Lstruck_so k_Lstruck_so,
    b_Lstruck_so := (fun_mk (st := s_Lstruck_so) l_Lstruck_so co_Lstruck_so k_Lstruck_so).binds (ps := ["_law_source", "_law_row"]) (fun _ _ _ _ _ _ us hl => match us, hl with | [_, _], _ => rfl),
    g_Ltold := PySem.W.mg_of X G g_Ltold,
    a_Ltold := a_Ltold,
    d_Ltold := (PySem.W.fnOf "_law_told" "_law_told" (defArgs s_Ltold) (defBody s_Ltold) (defScope s_Ltold) .none kV_Ltold dc_Ltold pm_Ltold an_Ltold cd_Ltold ct_Ltold),
    F_Ltold := fun_mk l_Ltold co_Ltold k_Ltold,
    b_Ltold := (fun_mk (st := s_Ltold) l_Ltold co_Ltold k_Ltold).binds (ps := ["_law_row"]) (fun _ _ _ _ _ _ us hl => match us, hl with | [_], _ => rfl),
    g_law := PySem.W.mg_of X G g_law,
    a_law := a_law,
    d_law := (PySem.W.fnOf "law" "law" (defArgs s_law) (defBody s_law) (defScope s_law) .none kV_law dc_law pm_law an_law cd_law ct_law),
    F_law := fun_mk l_law co_law k_law,
    b_law := (fun_mk (st := s_law) l_law co_law k_law).binds (ps := ["_law_script"]) (fun _ _ _ _ _ _ us hl => match us, hl with | [_], _ => rfl),
    tI := tI,
    t_MOST_COATS := t_MOST_COATS,
    c_MOST_COATS := PySem.W.mg_of X G c_MOST_COATS,
    t_SHORTEST_ROW := t_SHORTEST_ROW,
    c_SHORTEST_ROW := PySem.W.mg_of X G c_SHORTEST_ROW,
    t_LONGEST_ROW := t_LONGEST_ROW,
    c_LONGEST_ROW := PySem.W.mg_of X G c_LONGEST_ROW,
    n_bool := PySem.W.mg_none_of X G n_bool,
    n_enumerate := PySem.W.mg_none_of X G n_enumerate,
    n_int := PySem.W.mg_none_of X G n_int,
    n_isinstance := PySem.W.mg_none_of X G n_isinstance,
    n_len := PySem.W.mg_none_of X G n_len,
    n_max := PySem.W.mg_none_of X G n_max,
    n_min := PySem.W.mg_none_of X G n_min,
    n_range := PySem.W.mg_none_of X G n_range,
    n_tuple := PySem.W.mg_none_of X G n_tuple } hfa fun s u => .of_eq rfl
end R
end

-- Final
section
open PySem PySem.W PyProof.Rows
set_option Elab.async false
set_option maxRecDepth 100000 in
set_option maxHeartbeats 0 in
theorem PySem.Challenge.cw_pairfloors_k31_cores_by_striking_in_any_holds : PySem.Challenge.rw_pairfloors_k31_cores_by_striking_in_any.Holds := by
  w_on; o_law; k_head; (case hw => w_witness2)
  k_fill
  refine LamX.walk_ofTs (l := PySem.Challenge.rw_pairfloors_k31_cores_by_striking_in_any) (n := 63) (k := 5) (CX := fun _ => L2.CX0) (x := "_law_script") rfl (by decide) rfl ⟨rfl, by decide, by decide⟩ (fun w h Y => PySem.W.kIn_of Y) ?F (fun _ _ _ _ _ z => z)
  case F =>
    intro w mg fa h Y KX G hmg
    refine' R.all_mk KX G hmg ?aC_Refused ?xL_Refused ?rV_Refused ?sa_Refused ?ex_Refused ?ty_Refused ?kC_Refused ?ga_Refused ?gg_Refused ?hd_Refused ?is_Refused ?iC_Refused ?nw_Refused ?aC_BadSize ?xL_BadSize ?rV_BadSize ?sa_BadSize ?ex_BadSize ?ty_BadSize ?kC_BadSize ?ga_BadSize ?gg_BadSize ?hd_BadSize ?is_BadSize ?iC_BadSize ?nw_BadSize ?aC_BadCoat ?xL_BadCoat ?rV_BadCoat ?sa_BadCoat ?ex_BadCoat ?ty_BadCoat ?kC_BadCoat ?ga_BadCoat ?gg_BadCoat ?hd_BadCoat ?is_BadCoat ?iC_BadCoat ?nw_BadCoat ?s_Refused_Refused ?s_Refused_BadSize ?s_Refused_BadCoat ?s_BadSize_Refused ?s_BadSize_BadSize ?s_BadSize_BadCoat ?s_BadCoat_Refused ?s_BadCoat_BadSize ?s_BadCoat_BadCoat ?l_Refused_init ?co_Refused_init ?k_Refused_init ?g_is_number ?l_is_number ?co_is_number ?k_is_number ?g_is_below ?l_is_below ?co_is_below ?k_is_below ?g_core_of ?l_core_of ?co_core_of ?k_core_of ?g_places_left ?l_places_left ?co_places_left ?k_places_left ?g_Lpool ?l_Lpool ?co_Lpool ?k_Lpool ?g_Ltake ?l_Ltake ?co_Ltake ?k_Ltake ?g_Lone ?l_Lone ?co_Lone ?k_Lone ?g_Lput ?l_Lput ?co_Lput ?k_Lput ?g_Lreadings ?l_Lreadings ?co_Lreadings ?k_Lreadings ?g_Lletters ?l_Lletters ?co_Lletters ?k_Lletters ?g_Lstruck_so ?l_Lstruck_so ?co_Lstruck_so ?k_Lstruck_so ?g_Ltold ?l_Ltold ?co_Ltold ?k_Ltold ?g_law ?l_law ?co_law ?k_law ?tI ?c_MOST_COATS ?c_SHORTEST_ROW ?c_LONGEST_ROW ?n_bool ?n_enumerate ?n_int ?n_isinstance ?n_len ?n_max ?n_min ?n_range ?n_tuple
    case aC_Refused => k_is
    case xL_Refused => k_is
    case rV_Refused => first | rfl | decide +kernel | k_is
    case sa_Refused => k_is
    case ex_Refused => k_is
    case ty_Refused => k_is
    case kC_Refused => k_is
    case ga_Refused => k_is
    case gg_Refused => k_is
    case hd_Refused => k_is
    case is_Refused => k_is
    case iC_Refused => k_is
    case nw_Refused => k_is
    case aC_BadSize => k_is
    case xL_BadSize => k_is
    case rV_BadSize => first | rfl | decide +kernel | k_is
    case sa_BadSize => k_is
    case ex_BadSize => k_is
    case ty_BadSize => k_is
    case kC_BadSize => k_is
    case ga_BadSize => k_is
    case gg_BadSize => k_is
    case hd_BadSize => k_is
    case is_BadSize => k_is
    case iC_BadSize => k_is
    case nw_BadSize => k_is
    case aC_BadCoat => k_is
    case xL_BadCoat => k_is
    case rV_BadCoat => first | rfl | decide +kernel | k_is
    case sa_BadCoat => k_is
    case ex_BadCoat => k_is
    case ty_BadCoat => k_is
    case kC_BadCoat => k_is
    case ga_BadCoat => k_is
    case gg_BadCoat => k_is
    case hd_BadCoat => k_is
    case is_BadCoat => k_is
    case iC_BadCoat => k_is
    case nw_BadCoat => k_is
    case s_Refused_Refused => first | rfl | k_is | decide +kernel
    case s_Refused_BadSize => first | rfl | k_is | decide +kernel
    case s_Refused_BadCoat => first | rfl | k_is | decide +kernel
    case s_BadSize_Refused => first | rfl | k_is | decide +kernel
    case s_BadSize_BadSize => first | rfl | k_is | decide +kernel
    case s_BadSize_BadCoat => first | rfl | k_is | decide +kernel
    case s_BadCoat_Refused => first | rfl | k_is | decide +kernel
    case s_BadCoat_BadSize => first | rfl | k_is | decide +kernel
    case s_BadCoat_BadCoat => first | rfl | k_is | decide +kernel
    case l_Refused_init => k_is
    case co_Refused_init => k_is
    case k_Refused_init => k_is
    case g_is_number => k_is
    case l_is_number => k_is
    case co_is_number => k_is
    case k_is_number => k_is
    case g_is_below => k_is
    case l_is_below => k_is
    case co_is_below => k_is
    case k_is_below => k_is
    case g_core_of => k_is
    case l_core_of => k_is
    case co_core_of => k_is
    case k_core_of => k_is
    case g_places_left => k_is
    case l_places_left => k_is
    case co_places_left => k_is
    case k_places_left => k_is
    case g_Lpool => k_is
    case l_Lpool => k_is
    case co_Lpool => k_is
    case k_Lpool => k_is
    case g_Ltake => k_is
    case l_Ltake => k_is
    case co_Ltake => k_is
    case k_Ltake => k_is
    case g_Lone => k_is
    case l_Lone => k_is
    case co_Lone => k_is
    case k_Lone => k_is
    case g_Lput => k_is
    case l_Lput => k_is
    case co_Lput => k_is
    case k_Lput => k_is
    case g_Lreadings => k_is
    case l_Lreadings => k_is
    case co_Lreadings => k_is
    case k_Lreadings => k_is
    case g_Lletters => k_is
    case l_Lletters => k_is
    case co_Lletters => k_is
    case k_Lletters => k_is
    case g_Lstruck_so => k_is
    case l_Lstruck_so => k_is
    case co_Lstruck_so => k_is
    case k_Lstruck_so => k_is
    case g_Ltold => k_is
    case l_Ltold => k_is
    case co_Ltold => k_is
    case k_Ltold => k_is
    case g_law => k_is
    case l_law => k_is
    case co_law => k_is
    case k_law => k_is
    case tI => k_is
    case c_MOST_COATS => k_is
    case c_SHORTEST_ROW => k_is
    case c_LONGEST_ROW => k_is
    case n_bool => k_is
    case n_enumerate => k_is
    case n_int => k_is
    case n_isinstance => k_is
    case n_len => k_is
    case n_max => k_is
    case n_min => k_is
    case n_range => k_is
    case n_tuple => k_is
end
