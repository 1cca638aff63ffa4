import PyProof.Rows.All
import Wide.All
import OpenK.AllK
import Wide.FinOn
import HandS.ForMost
import HandS.Exc
import HandS.ExcOwn
import HandS.ExcInit
import HandS.ExcField
import HandS.TryMany
import HandS.WordsExc
import HandS.Nested
import HandS.Walk
import HandS.IsInst
import HandS.TupLe
import HandS.TupAny
import HandS.Wide
import HandS.Deep
import HandS.SortRule
import HandS.DictComp
import HandS.Conv
import HandS.Lambda
import KE.GoesMore
import KE.GoesEnum
import KE.KNestM
import PySem.Challenge.RW_pairfloors_k32_cores_of_turned_rows
import HandS.WideMore
import KE.KTupSum
import HandS.TupLen
import HandS.SortKw
import KE.DatumOrd
import KE.BitLaws
import HandS.Style
import HandS.EndTab
import KE.KLam
-- Lam
section
set_option Elab.async false
set_option linter.all false
set_option maxRecDepth 100000
set_option maxHeartbeats 4000000
/-! Lam: a lambda with parameters is made in a def, handed to a second def and called there. -/
namespace LamP
open PySem PySem.Spec PyProof.Rows L2 LamX NdefX
/-- at f stands what `lambda ..: b` makes -/
def LamIs (h : Heap) (f : Addr) (F : NF) (b : Expr) : Prop :=
  ∃ od sl pm ctv, h.get? f = some { cls := .type "function", dict := od, data := .func (PySem.W.kla_fn "<lambda>" F.qual F.params b F.scope F.cl pm (.ref F.c) ctv), slots := sl }
def LamO (f : Addr) (F : NF) (b : Expr) : HO := .ext fun h => LamIs h f F b
theorem lamO_ne {f : Addr} {F : NF} {b : Expr} (ps : Array Value) : LamO f F b ≠ .tbl ps := by
  unfold LamO
  exact fun z => HO.noConfusion z
theorem lam_is {P : Program} {w : World} {H : Hp} {h : Heap} {f : Addr} {F : NF} {b : Expr} (hok : HOk P w H h) (e : H f = some (LamO f F b)) : LamIs h f F b :=
  (show LamIs h f F b ∧ _ ∧ _ from hok f _ e).1
section
variable {T : List NTab} {H : Hp} {P c' : Addr} {ps : Array Value} {pos : Pos} {q : Str}
/-- the table at P has a new row, for the code object at c' -/
def grow (H : Hp) (P : Addr) (ps : Array Value) (pos : Pos) (c' : Addr) (q : Str) : Hp := upd (upd H P (.tbl (ps ++ #[rawInt pos.line, rawInt pos.col, .ref c']))) c' (CodeO c' q)
theorem grow_other {b : Addr} (h1 : b ≠ P) (h2 : b ≠ c') : grow H P ps pos c' q b = H b := (upd_ne h2).trans (upd_ne h1)
theorem grow_kept (hP : H P = some (.tbl ps)) (nC : H c' = none) : ExtN H (grow H P ps pos c' q) := by
  intro b o e plain
  refine (grow_other (fun z => ?_) (ne_of_none e nC)).trans e
  subst z
  exact plain ps (Option.some.inj (e.symm.trans hP))
theorem grow_none {b : Addr} (e : grow H P ps pos c' q b = none) : H b = none := upd_none (upd_none e)
theorem grow_tabs (hT : TabsN T H) (hP : H P = some (.tbl ps)) (well : TriplesOk ps.toList) (only : ∀ p ∈ T, p.1 = P → p.2 = fun _ _ => q) (nC : H c' = none) : TabsN T (grow H P ps pos c' q) := by
  intro p hp
  obtain ⟨qs, at_, ok, rows⟩ := hT p hp
  have keep := grow_kept (pos := pos) (q := q) hP nC
  by_cases here : p.1 = P
  · have same : qs = ps := by
      rw [here, hP] at at_
      cases at_
      rfl
    subst same
    refine ⟨qs ++ #[rawInt pos.line, rawInt pos.col, .ref c'], ?_, ?_, fun pos2 cv found => ?_⟩
    · rw [here]
      exact (upd_ne (ne_of_none hP nC)).trans upd_same
    · rw [Array.toList_append]
      exact PySem.TriplesOk_snoc _ _ _ _ ok
    · rw [Array.toList_append] at found
      rcases among_app2 _ ok found with old | ⟨new, _⟩
      · obtain ⟨c0, e1, e2⟩ := rows pos2 cv old
        exact ⟨c0, e1, keep _ _ e2 codeO_ne⟩
      · exact ⟨c', new, by rw [only p hp here]; exact upd_same⟩
  · refine ⟨qs, ?_, ok, fun pos2 cv found => ?_⟩
    · exact (grow_other here (ne_of_none at_ nC)).trans at_
    · exact (rows pos2 cv found).imp fun _ z => ⟨z.1, keep _ _ z.2 codeO_ne⟩
end
/-- a lambda made: F its data but for the code object's place -/
structure Made (T : List NTab) (F : Addr → NF) (b : Expr) (H H1 : Hp) (f c' : Addr) : Prop where
  kept : ExtN H H1
  back : ∀ a, H1 a = none → H a = none
  tabs : TabsN T H1
  new : H f = none
  lam : H1 f = some (LamO f (F c') b)
  code : H1 c' = some (CodeO c' (F c').qual)
theorem made_of {T : List NTab} {F : Addr → NF} {b : Expr} {H H1 : Hp} {f c' : Addr} (kept : ExtN H H1) (back : ∀ a, H1 a = none → H a = none) (tabs : TabsN T H1) (n1 : H1 f = none) (code : H1 c' = some (CodeO c' (F c').qual)) : Made T F b H (upd H1 f (LamO f (F c') b)) f c' :=
  have step : ∀ a o, H1 a = some o → upd H1 f (LamO f (F c') b) a = some o := fun a o e => (upd_ne (ne_of_none e n1)).trans e
  ⟨fun a o e p => step a o (kept a o e p), fun a e => back a (upd_none e), tabs.ext step, back f n1, upd_same, step c' _ code⟩
section
variable {X : Cx} {pins : List (Addr × Obj)} {σ : L2.St} {H : Hp} {s : Shared}
/-- its function object laid on top of the heap -/
theorem inv_lam {F : NF} {b : Expr} {tk : Nat} {pm ctv : Value} (I : Inv X pins σ H s) :
    Inv X pins σ (upd H s.heap.objs.size (LamO s.heap.objs.size F b)) { s with heap := s.heap.push (PySem.W.kla_obj "<lambda>" F.qual F.params b F.scope F.cl pm F.c ctv), toks := tk } := by
  have top := Heap.get?_push_size s.heap (o := PySem.W.kla_obj "<lambda>" F.qual F.params b F.scope F.cl pm F.c ctv) rfl
  refine I.laid (fun _ _ e => Heap.get?_push_of_some _ e) (Nat.le_refl _) ⟨⟨_, _, _, _, top⟩, ⟨_, top⟩, fun _ _ is st => ?_⟩
  exact is.imp fun _ y => y.imp fun _ y => y.imp fun _ y => y.imp fun _ e => st _ e
def mkLam (X : Cx) (params : Arguments) (scope : Scope) (c' : Addr) : NF := ⟨"<lambda>", X.env.qual ++ "<lambda>", params, [], scope, cloFrom X.env.cells scope.names [], c'⟩
/-- the reading of a lambda: a new function object -/
def tLamE (T : List NTab) (mk : Addr → NF) (b : Expr) : TE := fun σ H Q => TabsN T H ∧ ∀ (f c' : Addr) (H1 : Hp), Made T mk b H H1 f c' → Q (.ref f) H1
theorem pe_lam {T : List NTab} {c P : Addr} {params : Arguments} {body : Expr} {scope : Scope} {pos : Pos} (TB : TabB X.base X.mg c P) (hcode : X.env.code = .ref c) (mem : (P, fun _ _ => X.env.qual ++ "<lambda>") ∈ T)
    (only : ∀ p ∈ T, p.1 = P → p.2 = fun _ _ => X.env.qual ++ "<lambda>") (hdef : defaultsOf params X.env = ([], []))
    (hfree : ∀ y ∈ scope.names, y.2 = .free → X.env.scope.names.lookup y.1 = some .cell ∨ X.env.scope.names.lookup y.1 = some .free) : PE X (.Lambda params body scope pos) (tLamE T (mkLam X params scope) body) := by
  constructor
  rintro pins s σ H Q I ⟨hT, h⟩
  have clo := closure_ok (scope := scope) (env := X.env) fun y hy e => I.ok.has _ (hfree y hy e)
  obtain ⟨ps, hP, well, rows⟩ := (hT _ mem : TabN H P fun _ _ => X.env.qual ++ "<lambda>")
  have inP : s.heap.get? P = some (PySem.W.tabObj ps) := I.hok P _ hP
  have ends : ∀ {g : Heap} {tk : Nat} {H1 : Hp} {c1 : Addr} (ctv : Value), Inv X pins σ H1 { s with heap := g, toks := tk } → ExtN H H1 → (∀ a, H1 a = none → H a = none) → TabsN T H1 → H1 c1 = some (CodeO c1 (X.env.qual ++ "<lambda>")) →
      EP X pins σ Q (.ref g.objs.size) { s with heap := g.push (PySem.W.kla_obj "<lambda>" (X.env.qual ++ "<lambda>") params body scope (cloFrom X.env.cells scope.names []) ((X.mg "__name__").getD .none) c1 ctv), toks := tk } := fun ctv J kept back tabs code =>
    ⟨.ref _, _, inv_lam (F := mkLam X params scope _) J, rfl, h _ _ _ (made_of kept back tabs (J.hok.fresh (Nat.le_refl _)) code)⟩
  refine PySem.W.kla_eval hdef ?_
  rcases known : codeAmong pos ps.toList with _ | cv
  · refine PySem.W.kla_makeFunction clo I.ok.glob (I.mod.glob.keeps I.bk) hcode (TB.code.keeps I.bk) inP well known TB.gP (TB.bm.keeps I.bk) fun c1 ctv g tk but new _ rec row => ?_
    obtain ⟨_, oc, vs, t, same, hoc, hd, hv⟩ := rec
    cases same
    have nC := I.hok.fresh new
    have J : Inv X pins σ (grow H P ps pos c1 (X.env.qual ++ "<lambda>")) { s with heap := g, toks := tk } := inv_table I hP (fun b o hb e => but b o hb e) row new ⟨oc, vs, t, hoc, hd, hv⟩
    exact ends ctv J (grow_kept hP nC) (fun _ => grow_none) (grow_tabs hT hP well only nC) upd_same
  · obtain ⟨c1, rfl, code⟩ := rows pos cv known
    exact PySem.W.kla_makeFunctionHit clo I.ok.glob (I.mod.glob.keeps I.bk) hcode (TB.code.keeps I.bk) inP well known (TB.bm.keeps I.bk) fun ctv g tk kept _ =>
      ends ctv (I.kept kept) (ExtN.refl H) (fun _ e => e) hT code
end
/-! ### the lambda called -/
/-- the lambda F at f keeps sp, called at a room of k -/
structure LOk (P : Program) (w : World) (K : PySem.W.Frag) (mg : Str → Option Value) (base : Heap) (CX : CXT) (k : Nat) (f : Addr) (F : NF) (b : Expr) (ps fr : List Str) (sp : List (Option V) → Sp) : Prop where
  len : ∀ ws vs H Q E, sp ws vs H Q E → vs.length = ps.length
  run : ∀ A outer s H us vs ws Q E, Room k A → Env0 P w K mg base A outer s H → H f = some (LamO f F b) ∧ H F.c = some (CodeO F.c F.qual) → CellsAt F.cl fr ws s.heap H → Vals vs us → sp ws vs H Q E → codeAny (model P w) A (.call (.ref f) ⟨us, []⟩) (CR CX outer P w H s Q E) s
theorem lok_of {CX : CXT} {P : Program} {w : World} {K : PySem.W.Frag} {mg : Str → Option Value} {base : Heap} {N ps fr : List Str} {F : NF} {b : Expr} {f : Addr} {k : Nat} {sp : List (Option V) → Sp}
    (S : NScope N ps fr F.scope) (binds : ∀ (pm ctv : Value) (us : List Value), us.length = ps.length → bindArgs (PySem.W.kla_fn "<lambda>" F.qual F.params b F.scope F.cl pm (.ref F.c) ctv) ⟨us, []⟩ = pure (ps.zip us)) (len : ∀ ws vs H Q E, sp ws vs H Q E → vs.length = ps.length)
    (body : ∀ A outer s H vs ws Q E, Room k (A.deeper (envF F f s.heap.objs.size)) → H f = some (LamO f F b) → H F.c = some (CodeO F.c F.qual) → ws.length = fr.length → sp ws vs H Q E → ∃ t, PE (ncx CX P w K mg base N F f A outer s H E) b t ∧ t (startF N vs ws) H Q) :
    LOk P w K mg base CX (k + 1) f F b ps fr sp := by
  refine ⟨len, ?_⟩
  rintro A outer s H us vs ws Q E room e0 ⟨lam, code⟩ cells rel pre
  have n := len _ _ _ _ _ pre
  obtain ⟨od, sl, pm, ctv, at_⟩ := lam_is e0.hok lam
  have noLimit := e0.mod.nolimit.keeps fun b o e => (e0.bs b o e).1
  apply PySem.W.kla_callFunE room.depth at_ rfl S.co S.gen rfl (codeO_at e0.hok code)
  rw [binds pm ctv us (rel.length ▸ n)]
  refine wpAny_pure (wpAny_newFunctionEnv S.nocell (fun y hy => S.par y.1 (List.of_mem_zip hy).1) (fun g frame but => ⟨noLimit.fresh _ but, ?_⟩) S.kind)
  obtain ⟨t, reads, goal⟩ := body A outer s H vs ws Q E (room.deeper _) lam code cells.len pre
  have start := inv_startN (CX := CX) (E := E) (f := f) (tk := s.toks + (ps.zip us).length) S room.hd e0 n rel cells frame fun b o e => but.extBut b o (Nat.ne_of_lt (Heap.lt_size e)) (Heap.get?_push_of_some _ e)
  exact PySem.W.kla_codeExpr (wpAny_mono (reads.run [] _ _ H Q start goal) (fun v s' out => out.elim fun w' z => z.elim fun H' ⟨J, rv, q⟩ => ⟨w', H', J.os, J.bare, J.base, J.hok, rv, q⟩) fun _ _ z => z)
/-- the captured cells, as they were when the running def began: it has no way to them but this lambda -/
theorem cells_later {X : Cx} {pins : List (Addr × Obj)} {σ : L2.St} {H : Hp} {s : Shared} {cl : List (Str × Addr)} {fr : List Str} {ws : List (Option V)} (C : CellsAt cl fr ws X.s_0.heap X.H_0) (none_ : X.ex = []) (I : Inv X pins σ H s) : CellsAt cl fr ws s.heap H := by
  have out : ∀ c : Addr, c ∉ X.ex := by simp [none_]
  have stays : ∀ {y c}, cl.lookup y = some c → ∀ {v}, X.s_0.heap.IsCell c v → s.heap.IsCell c v := by
    rintro y c e v ⟨o, at_, d⟩
    exact (I.base.any at_ (C.all y c e).1 (out c)).elim fun sl z => ⟨_, z, d⟩
  constructor
  · exact C.len
  · intro y c e
    have ⟨un, v, cell⟩ := C.all y c e
    exact ⟨cell.elim fun o z => I.base.free c o z.1 un (out c), v, stays e cell⟩
  · exact C.inj
  · intro i y e
    have ⟨c, at_, holds⟩ := C.has i y e
    exact ⟨c, at_, fun v ev => (holds v ev).imp fun u z => ⟨z.1, stays at_ z.2⟩⟩
/-- a call's end, read by its caller -/
theorem call_ends {X : Cx} {CX : CXT} {pins : List (Addr × Obj)} {σ : L2.St} {H : Hp} {s : Shared} {Q : VK} {E : XK} {v : Value} {us : List Value} (hx : Passes CX X E) (I : Inv X pins σ H s) (h : codeAny (model X.prog X.w) X.A (.call v ⟨us, []⟩) (CR CX X.stack X.prog X.w H s Q E) s) :
    wpAny (model X.prog X.w) X.A (call v us) (EP X pins σ Q) X.xe s := by
  refine wpAny_call (codeAny_mono h ?_)
  rintro (e | fl) s' z
  · exact hx pins σ H s e s' I z
  · match fl, z with
    | .ret u, z => exact I.after z
/-- g(..), g the name i of the running def that was handed the lambda F; ws: what its cells hold -/
def tCallF (f : Addr) (F : NF) (b : Expr) (i : Nat) (ws : List (Option V)) (sp : List (Option V) → Sp) (E : XK) (t : TA) : TE := fun σ H Q => σ[i]? = some (some (.ref f)) ∧ H f = some (LamO f F b) ∧
  t σ H fun vs H1 => (H1 f = some (LamO f F b) ∧ H1 F.c = some (CodeO F.c F.qual)) ∧ sp ws vs H1 Q E
theorem pe_callF {X : Cx} {CX : CXT} {f : Addr} {F : NF} {b : Expr} {ps fr : List Str} {ws : List (Option V)} {i j k : Nat} {x : Str} {sp : List (Option V) → Sp} {E : XK} {t : TA} {e : Expr} {es : List Expr} {p pos : Pos}
    (Fn : LOk X.prog X.w X.K X.mg X.base CX k f F b ps fr sp) (C : CellsAt F.cl fr ws X.s_0.heap X.H_0) (hex : X.ex = []) (hr : Room j X.A) (hk : k ≤ j) (hx : Passes CX X E) (hN : X.N[i]? = some x) (hv : Vis X.env.scope x) (ha : PA X (e :: es) t)
    (hd : (x == ("__debug__" : Str)) = false := by decide) (hcd : (x == ("__classdict__" : Str)) = false := by decide)
    (he : starEach (e :: es) X.env = (false, eval e X.env) :: starEach es X.env := by rfl) (hpl : (backTo pos (starEach es X.env)).any (·.1) = false := by rfl) :
    PE X (.Call (.Name x p) (e :: es) [] pos) (tCallF f F b i ws sp E t) := by
  constructor
  rintro pins s σ H Q I ⟨var, lam, args⟩
  have fn : ∀ {σ H s}, Inv X pins σ H s → H f = some (LamO f F b) → PySem.W.FnAt f s.heap := fun I e => (lam_is I.hok e).elim fun od z => z.elim fun sl z => z.elim fun _ z => z.elim fun _ z => ⟨_, od, _, sl, z⟩
  have name := (pe_var (pos := p) hN hv hd hcd).run pins s σ H (fun v H1 => v = .ref f ∧ H1 = H) I ⟨.ref f, var, rfl, rfl⟩
  refine wpAny_Call_Name_kw (thn name ?_)
  rintro u s1 ⟨_, _, I1, ru, rfl, rfl⟩
  cases ru
  refine PySem.W.callWith_F (first := []) (fn I1 lam) (thn (ha.run pos pins s1 σ _ _ I1 args) ?_) he hpl
  rintro us s2 ⟨vs, H2, I2, r, both, pre⟩
  exact ⟨fn I2 both.1, call_ends hx I2 (Fn.run X.A X.stack s2 H2 us vs ws Q E (hr.mono hk) I2.env0 both (cells_later C hex I2) r pre)⟩
/-! ### a def that is handed a lambda -/
/-- a def of the top, called while the cells cl stand -/
structure FnOkC (P : Program) (w : World) (K : PySem.W.Frag) (mg : Str → Option Value) (base : Heap) (CX : CXT) (k : Nat) (f : Addr) (fd : FuncData) (ps : List Str) (cl : List (Str × Addr)) (fr : List Str) (ws : List (Option V)) (sp : Sp) : Prop where
  len : ∀ vs H Q E, sp vs H Q E → vs.length = ps.length
  run : ∀ A outer s H args us vs Q E, Room k A → Env0 P w K mg base A outer s H → CellsAt cl fr ws s.heap H → BindsTo s fd args (ps.zip us) → Vals vs us → sp vs H Q E → codeAny (model P w) A (.call (.ref f) args) (CR CX outer P w H s Q E) s
theorem okC {P : Program} {w : World} {K : PySem.W.Frag} {mg : Str → Option Value} {base : Heap} {x qual : Str} {st : Stmt} {f : Addr} {fd : FuncData} {N ps : List Str} {k : Nat} {cl : List (Str × Addr)} {fr : List Str} {ws : List (Option V)} {sp : Sp}
    (F : Fun K x qual st f fd) (S : FnScope N ps (defScope st)) (len : ∀ vs H Q E, sp vs H Q E → vs.length = ps.length)
    (body : ∀ (cdv : Value) (A : Around) (outer : List Env) (s : Shared) (H : Hp) (vs : List V) (Q : VK) (E : XK), Room k (A.deeper (envOfC qual (defScope st) s.heap.objs.size f cdv)) → CellsAt cl fr ws s.heap H → sp vs H Q E →
      ∃ t, PSs (cxOf CX0 P w K mg base N qual (defScope st) f cdv A outer s H E).nox (defBody st) t ∧ t { nx := fun _ H' => Q .non H', rt := Q } (L2.start N vs) H) : FnOkC P w K mg base CX0 (k + 1) f fd ps cl fr ws sp := by
  have ⟨_, _, _, _, _, _, cdv, _, _, is, look, code⟩ := F.ex
  subst is
  refine ⟨len, fun A outer s H args us vs Q E room e0 cells bound rel pre => run_ofS look code S room e0 bound rel (len _ _ _ _ pre) fun deeper => ?_⟩
  exact (body cdv A outer s H vs Q E deeper cells pre).imp fun t z => ⟨z.1.nox, z.2⟩
def tCallC (js : List Nat) (sp : List (Option V) → Sp) (E : XK) (t : TA) : TE := fun σ H Q => t σ H fun vs H1 => sp (js.map (slotAt σ)) vs H1 Q E
theorem pe_callC {X : Cx} {CX : CXT} {g : Addr} {fd : FuncData} {cl : List (Str × Addr)} {ps fr : List Str} {js : List Nat} {k : Nat} {x : Str} {sp : List (Option V) → Sp} {E : XK} {t : TA} {e : Expr} {es : List Expr} {p pos : Pos}
    (G : ∀ ws, FnOkC X.prog X.w X.K X.mg X.base CX k g fd ps cl fr ws (sp ws)) (cp : X.Ok → Caps X cl fr js) (hr : Room k X.A) (hg : Gl X x) (hm : X.mg x = some (.ref g)) (hk : PySem.W.keepIn X.K (.ref g) = true) (hb : L2.Binds X.K fd ps []) (hx : Passes CX X E) (ha : PA X (e :: es) t)
    (hdb : (x == ("__debug__" : Str)) = false := by decide)
    (he : starEach (e :: es) X.env = (false, eval e X.env) :: starEach es X.env := by rfl) (hpl : (backTo pos (starEach es X.env)).any (·.1) = false := by rfl) :
    PE X (.Call (.Name x p) (e :: es) [] pos) (tCallC js sp E t) := by
  constructor
  intro pins s σ H Q I pre
  refine wpAny_Call_Name_kw (ld_glob I hg hm (PySem.W.callWith_K I.ok.mod.kin hk (thn (ha.run pos pins s σ H _ I pre) ?_) he hpl) hdb)
  rintro us s1 ⟨vs, H1, I1, r, goal⟩
  refine ⟨I1.kIn, call_ends hx I1 ((G _).run X.A X.stack s1 H1 _ us vs Q E hr I1.env0 (cells_of I1 (cp I1.ok)) ?_ r goal)⟩
  have n : us.length = ps.length := r.length ▸ (G _).len _ _ _ _ goal
  simpa using hb s1 us I1.kIn (by simpa using n)
end LamP
end

-- EnumT
section
set_option Elab.async false
set_option linter.all false
set_option maxRecDepth 100000
set_option maxHeartbeats 4000000
/-! EnumT: for i, x in enumerate(t), t a tuple (enumerate with one argument, over whatever begins). -/
namespace EnT
open PySem PySem.Spec PyProof.Rows
open Sem (wp)
/-- the two objects of enumerate(v) in a heap of n places: v's iterator o at n, the enumerate object at n + 1 -/
def two (h : Heap) (o : Obj) : Heap := (h.push o).push { cls := .type "enumerate", data := .fields #[.none, .bool false, .ref h.objs.size, rawInt 0, .none, .none] }
theorem new1 {v : Value} {o : Obj} {H : Heap → Prop} (B : Begins v o H) :
    Meets (Builtin.«enumerate.__new__» ⟨[.type "enumerate", v], []⟩) (fun _ R s => H s.heap ∧ R (.ok (.ret (.ref (s.heap.push o).objs.size))) { s with heap := two s.heap o }) := by
  refine .of_wp fun prog w A R s h => ?_
  rcases s with ⟨hp, g, d, tk, os⟩
  rcases h with ⟨ready, h⟩
  have start : ∀ {A' : Around} {E : Value → Shared → Prop} {Q : Value → Shared → Prop}, Q (.ref hp.objs.size) ⟨hp.push o, g, d, tk, os⟩ → wpAny (model prog w) A' (pyIter v) Q E ⟨hp, g, d, tk, os⟩ := fun q => B.iter _ _ _ _ _ _ ready q
  have sub := sub_enumerate
  wp_walk using start
  refine wpAny_stack_any fun _ => wpAny_pure ?_
  split
  · rename_i c _ _ _ _ _
    cases (c == Value.type "enumerate") <;> (wp_walk using start; exact ⟨_, rfl, h⟩)
  · wp_walk using start
    exact ⟨_, rfl, h⟩
/-- what is known of them -/
structure Two (h h' : Heap) (o : Obj) : Prop where
  en : IsEnum h' (h.objs.size + 1) h.objs.size 0 .none
  it : h'.get? h.objs.size = some o
  old : ∀ b ob, h.get? b = some ob → h'.get? b = some ob
theorem two_is {h : Heap} {o : Obj} (free : o.isFreed = false) : Two h (two h o) o := by
  have n : (h.push o).objs.size = h.objs.size + 1 := Heap.size_push ..
  have top := Heap.get?_push_size (h.push o) (o := { cls := .type "enumerate", data := .fields #[.none, .bool false, .ref h.objs.size, rawInt 0, .none, .none] }) rfl
  exact ⟨n ▸ top, Heap.get?_push_of_some _ (Heap.get?_push_size _ free), fun b ob q => Heap.get?_push_of_some _ (Heap.get?_push_of_some _ q)⟩
theorem begin1 {prog : Program} {w : World} {A : Around} {E : Value → Shared → Prop} {s : Shared} {v : Value} {o : Obj} {H : Heap → Prop} {Q : Value → Shared → Prop} (B : Begins v o H) (ready : H s.heap)
    (h : Two s.heap (two s.heap o) o → Q (.ref (s.heap.objs.size + 1)) { s with heap := two s.heap o }) : wpAny (model prog w) A (call (.type "enumerate") [v]) Q E s := by
  have T := two_is (h := s.heap) B.free
  have n : (s.heap.push o).objs.size = s.heap.objs.size + 1 := Heap.size_push ..
  refine callType_new F.called_enumerate (by decide) (F.typeCall_enumerate_1 _) (F.newCall_enumerate_1 _) (fun obj => F.args_object_init_2 obj _) F.entry_enumerate_new (new1 B) ⟨ready, ?_⟩
  show _ ∧ _
  rw [n]
  exact ⟨⟨_, T.en, rfl⟩, h T⟩
end EnT
namespace L2
open PySem PySem.Spec PyProof.Rows
/-- the tuple at a, each of its items in a new pair behind its place -/
def IteT (K : PySem.W.Frag) (a : Addr) : It where
  go i H := ∃ (xs : List V) (x : V), SqT K H a xs ∧ xs[i]? = some x
  yld i H v H' := ∃ q x, v = .ref q ∧ H q = none ∧ H' = upd H q (.tup [.int (i : Nat), x]) ∧ ∀ xs, SqT K H a xs → xs[i]? = some x
  stop i H := ∃ xs : List V, SqT K H a xs ∧ i = xs.length
/-- e enumerates by the iterator it of the tuple at a, of which i items are drawn -/
structure EnSt (a e it : Addr) (i : Nat) (h : Heap) : Prop where
  en : ∃ old, IsEnum h e it (i : Int) old
  it_ : h.IsTupleIter it a i
  ne : e ≠ it
  nai : a ≠ it
  nae : a ≠ e
theorem EnSt.lt_e {a e it : Addr} {i : Nat} {h : Heap} (S : EnSt a e it i h) : e < h.objs.size := S.en.elim fun _ q => Heap.lt_size q
theorem EnSt.lt_it {a e it : Addr} {i : Nat} {h : Heap} (S : EnSt a e it i h) : it < h.objs.size := S.it_.elim fun _ q => Heap.lt_size q.1
theorem EnSt.lt {a e it : Addr} {i : Nat} {h : Heap} (S : EnSt a e it i h) : ∀ b ∈ [e, it], b < h.objs.size := by
  simpa using And.intro S.lt_e S.lt_it
theorem two_mem {e it b : Addr} (h : b ∉ [e, it]) : b ≠ e ∧ b ≠ it := by simpa using h
section
variable {X : Cx} {pins : List (Addr × Obj)} {σ : L2.St} {H : Hp} {s : Shared}
/-- the new pair of an index and an item -/
theorem pair_ok {P : Program} {w : World} {q : Addr} {i : Nat} {t : Tok} {x : V} {u : Value} {g : Heap} (r : RelV x u) (at_ : g.get? q = some { cls := .type "tuple", data := .seq #[.int i t, u] }) : ObjOk P w (upd H q (.tup [.int (i : Nat), x])) g q (.tup [.int (i : Nat), x]) :=
  ⟨by show 2 ≤ sizeLine; decide, [.int i t, u], .cons ⟨t, rfl⟩ (.cons r .nil), _, at_, rfl, 0, rfl⟩
end
theorem turn_enumT {P : Program} {w : World} {K : PySem.W.Frag} {elts : List Expr} {kk : Nat} {tpos : Pos} (a e it : Addr) : Turn P w K (.Tuple elts kk tpos) (IteT K a) [e, it] e (EnSt a e it) where
  mem := List.mem_cons_self
  obj i h S b m := by
    rcases List.mem_cons.mp m with z | z
    · rw [z]
      exact S.en.elim fun _ q => ⟨_, q, fun _ y => nomatch y⟩
    · obtain ⟨o, q, _, d⟩ := S.it_
      exact ⟨o, List.mem_singleton.mp z ▸ q, fun _ y => by rw [d] at y; cases y⟩
  keep i h h' S k := ⟨S.en.imp fun _ q => k e (List.mem_cons_self ..) _ q, S.it_.at fun o q => k it (by simp) o q, S.ne, S.nai, S.nae⟩
  self A i s Q E S h := S.en.elim fun _ q => wpAny_pyIter_enum q h
  item := by
    intro X hP hw hK hc i pins s σ H E I own S go
    subst hP hw hK
    obtain ⟨old, en⟩ := S.en
    obtain ⟨xs, x, seq, hx⟩ := go
    obtain ⟨items, rel, tup, small⟩ := I.tuple seq
    obtain ⟨u, hu, ru⟩ := rel.get hx
    have lo := S.lt
    have draws := Draws.tuple (prog := X.prog) (w := X.w) (A := X.A.in1) (I.ok.hd hc) it a S.nai items.toArray
    refine wpAny_pyNext_enum_itemD draws en ⟨S.it_, tup⟩ (by simpa using (List.getElem?_eq_some_iff.mp hu).1) S.ne (by simp [S.ne, Ne.symm S.nae]) fun y g tk drawn out next at_ _ kept => ?_
    obtain rfl : u = y := Option.some.inj (hu.symm.trans (by simpa using drawn))
    refine ⟨_, rfl, wpAny_letOwnedTupleGo_enum (s := { s with heap := g, toks := tk + 1 }) out fun g2 en2 same => ?_⟩
    have here := (same.2 _ (Nat.ne_of_gt S.lt_e)).trans at_
    have all : ∀ b ob, b ∉ [e, it] → s.heap.get? b = some ob → g2.get? b = some ob := fun b ob nb q => (same.2 b (two_mem nb).1).trans (kept b ob (two_mem nb).1 (two_mem nb).2 q)
    refine ⟨.ref s.heap.objs.size, _, I.turnedNew (t' := tk + 1) all own (Nat.le_refl _) (pair_ok ru here), rfl, ⟨_, x, rfl, I.hok.fresh (Nat.le_refl _), rfl, fun ys q => I.tuple_inj q seq ▸ hx⟩, ⟨⟨u, ?_⟩, next.1.at fun o q => (same.2 it S.ne.symm).trans q, S.ne, S.nai, S.nae⟩, fun b m => ?_⟩
    · rw [show ((i + 1 : Nat) : Int) = (i : Int) + 1 by omega]
      exact en2
    · exact (upd_ne (Nat.ne_of_lt (lo b m))).trans (own b m).1
  done := by
    intro X hP hw hK hc i pins s σ H E I own S stop
    subst hP hw hK
    obtain ⟨old, en⟩ := S.en
    obtain ⟨xs, seq, rfl⟩ := stop
    obtain ⟨items, rel, tup, small⟩ := I.tuple seq
    have ⟨_, f1, _, f3, f4, f5⟩ := own it (by simp)
    have draws := Draws.tuple (prog := X.prog) (w := X.w) (A := X.A.in1) (I.ok.hd hc) it a S.nai items.toArray
    have len : xs.length = items.toArray.size := by rw [List.size_toArray]; exact rel.length
    refine wpAny_pyNext_enum_endD draws en ⟨len ▸ S.it_, tup⟩ fun g kept => ?_
    exact ⟨rfl, I.turned (t' := s.toks) (fun b o nb q => kept b o nb q) (own it (by simp)).1 f1 f3 f4 f5⟩
def iEnumT (K : PySem.W.Frag) (ta : TA) : TI := fun σ H R => ta σ H fun vs H1 => ∃ a xs, vs = [.ref a] ∧ SqT K H1 a xs ∧ R (IteT K a) H1
theorem pi_enumT {X : Cx} {e : Expr} {ta : TA} {p pos tpos : Pos} {elts : List Expr} {kk : Nat} (hg : Gl X "enumerate") (hm : X.mg "enumerate" = none) (ha : PA X [e] ta) (hs : starEach [e] X.env = [(false, eval e X.env)] := by rfl) :
    PI X (.Tuple elts kk tpos) (.Call (.Name "enumerate" p) [e] [] pos) (iEnumT X.K ta) := by
  refine ⟨fun pins s σ H R I h => ?_⟩
  refine Call_ (ld_blt I hg hm boot_enumerate (callWith_type1 (thn (ha.run pos pins s σ H _ I h) fun us s1 done => ?_) hs rfl))
  obtain ⟨vs, H1, I1, r1, q⟩ := done
  obtain ⟨a, xs, ev, seq, q⟩ := q
  subst ev
  match us, r1 with
  | [_], .cons rfl .nil =>
    obtain ⟨items, _, tup, _⟩ := I1.tuple seq
    have la : a < s1.heap.objs.size := tup.elim fun _ q => Heap.lt_size q.1
    refine EnT.begin1 (begins_tuple a items.toArray) tup fun T => wpAny_pyIter_enum T.en ?_
    refine ⟨_, [_, _], _, _, H1, rfl, I1.kept (t' := s1.toks) T.old, turn_enumT a _ _, ⟨⟨_, T.en⟩, ⟨_, T.it, rfl, rfl⟩, Nat.succ_ne_self _, Nat.ne_of_lt la, Nat.ne_of_lt (Nat.lt_succ_of_lt la)⟩, fun b m => ?_, q⟩
    have big : s1.heap.objs.size ≤ b := by
      rcases List.mem_cons.mp m with z | z
      · exact z ▸ Nat.le_succ _
      · exact Nat.le_of_eq (List.mem_singleton.mp z).symm
    exact I1.fpOk big (I1.hok.fresh big)
theorem walk_enumT {K : PySem.W.Frag} {a : Addr} {xs : List V} : Walk (IteT K a) xs.length (fun H => SqT K H a xs) (YPair (fun i => some (.int (i : Nat))) (fun i => xs[i]?)) where
  goes i _ lt q := ⟨xs, xs[i], q, List.getElem?_eq_getElem lt⟩
  stops _ q := ⟨xs, q, rfl⟩
  yields i H v H' _ q y := y.elim fun T z => z.elim fun x ⟨h1, h2, h3, h4⟩ => ⟨T, _, x, h1, h2, h3, rfl, h4 xs q⟩
end L2
end

-- Rel
section
set_option Elab.async false
set_option linter.all false
set_option maxRecDepth 100000
set_option maxHeartbeats 4000000
/-! Rel: what a def leaves of the heap; data of tuples; the drawn source. -/
namespace R
open PySem PySem.Spec PyProof.Rows L2 LamX NdefX
/-! ### data that stands in tuples -/
mutual
inductive Tp (H : Hp) : V → PyData → Prop
  | non : Tp H .non .none
  | bl (b : Bool) : Tp H (.bl b) (.bool b)
  | int (i : Int) : Tp H (.int i) (.int i)
  | str (x : Str) : Tp H (.str x) (.str x)
  | tup {a : Addr} {xs : List V} {ds : List PyData} : H a = some (.tup xs) → Tps H xs ds → Tp H (.ref a) (.tuple ds)
inductive Tps (H : Hp) : List V → List PyData → Prop
  | nil : Tps H [] []
  | cons {v : V} {vs : List V} {d : PyData} {ds : List PyData} : Tp H v d → Tps H vs ds → Tps H (v :: vs) (d :: ds)
end
def TK (H H' : Hp) : Prop := ∀ a xs, H a = some (.tup xs) → H' a = some (.tup xs)
theorem TK.refl (H : Hp) : TK H H := fun _ _ h => h
theorem TK.trans {H H1 H2 : Hp} (a : TK H H1) (b : TK H1 H2) : TK H H2 := fun c xs h => b c xs (a c xs h)
theorem TK.new {H : Hp} {p : Addr} {o : HO} (h : H p = none) : TK H (upd H p o) := fun a xs e => by
  rw [upd_ne (ne_of_none e h)]
  exact e
theorem TK.lst {H : Hp} {p : Addr} {xs : List V} {o : HO} (h : H p = some (.lst xs)) : TK H (upd H p o) := fun a ys e => by
  rw [upd_ne (ne_of e h (by intro z; cases z))]
  exact e
mutual
theorem Tp.mono {H H' : Hp} (k : TK H H') : ∀ {v : V} {d : PyData}, Tp H v d → Tp H' v d
  | _, _, .non => .non
  | _, _, .bl b => .bl b
  | _, _, .int i => .int i
  | _, _, .str x => .str x
  | _, _, .tup h t => .tup (k _ _ h) (Tps.mono k t)
theorem Tps.mono {H H' : Hp} (k : TK H H') : ∀ {vs : List V} {ds : List PyData}, Tps H vs ds → Tps H' vs ds
  | _, _, .nil => .nil
  | _, _, .cons h t => .cons (Tp.mono k h) (Tps.mono k t)
end
mutual
theorem Tp.dp {K : PySem.W.Frag} {H : Hp} : ∀ {v : V} {d : PyData}, Tp H v d → Dp K H v d
  | _, _, .non => .non
  | _, _, .bl b => .bl b
  | _, _, .int i => .int i
  | _, _, .str x => .str x
  | _, _, .tup h t => .tup (SqT.of h) (Tps.dp t)
theorem Tps.dp {K : PySem.W.Frag} {H : Hp} : ∀ {vs : List V} {ds : List PyData}, Tps H vs ds → DpAll K H vs ds
  | _, _, .nil => .nil
  | _, _, .cons h t => .cons (Tp.dp h) (Tps.dp t)
end
theorem Tps.length {H : Hp} : ∀ {vs : List V} {ds : List PyData}, Tps H vs ds → vs.length = ds.length
  | _, _, .nil => rfl
  | _, _, .cons _ t => by
    rw [List.length_cons, List.length_cons, Tps.length t]
theorem Tps.get {H : Hp} : ∀ {vs : List V} {ds : List PyData} {i : Nat} {v : V}, Tps H vs ds → vs[i]? = some v → ∃ d, ds[i]? = some d ∧ Tp H v d
  | _, _, _, _, .nil, e => by simp at e
  | _, _, 0, _, .cons h _, e => by simp at e; subst e; exact ⟨_, rfl, h⟩
  | _, _, i + 1, v, .cons _ t, e => by
    obtain ⟨d, h1, h2⟩ := Tps.get (i := i) (v := v) t (by simpa using e)
    exact ⟨d, by simpa using h1, h2⟩
theorem Tps.getD {H : Hp} : ∀ {vs : List V} {ds : List PyData} {i : Nat} {d : PyData}, Tps H vs ds → ds[i]? = some d → ∃ v, vs[i]? = some v ∧ Tp H v d
  | _, _, _, _, .nil, e => by simp at e
  | _, _, 0, _, .cons h _, e => by simp at e; subst e; exact ⟨_, rfl, h⟩
  | _, _, i + 1, v, .cons _ t, e => by
    obtain ⟨d, h1, h2⟩ := Tps.getD (i := i) (d := v) t (by simpa using e)
    exact ⟨d, by simpa using h1, h2⟩
theorem Tps.append {H : Hp} : ∀ {vs ws : List V} {ds es : List PyData}, Tps H vs ds → Tps H ws es → Tps H (vs ++ ws) (ds ++ es)
  | _, _, _, _, .nil, t => t
  | _, _, _, _, .cons h t, u => .cons h (Tps.append t u)
theorem Tps.erase {H : Hp} : ∀ {vs : List V} {ds : List PyData} (i : Nat), Tps H vs ds → Tps H (vs.eraseIdx i) (ds.eraseIdx i)
  | _, _, _, .nil => .nil
  | _, _, 0, .cons _ t => t
  | _, _, i + 1, .cons h t => .cons h (Tps.erase i t)
theorem Tps.ints {H : Hp} : ∀ (ns : List Int), Tps H (ns.map V.int) (ns.map PyData.int)
  | [] => .nil
  | n :: r => .cons (.int n) (Tps.ints r)
theorem Tps.ints_of {H : Hp} : ∀ {vs : List V} {ns : List Int}, Tps H vs (ns.map PyData.int) → vs = ns.map V.int
  | _, [], h => by cases h; rfl
  | _, n :: r, h => by
    cases h with
    | cons h1 h2 =>
      cases h1
      rw [Tps.ints_of h2] <;> rfl
/-! ### pairs of numbers -/
def prD (p : Int × Int) : PyData := .tuple [.int p.1, .int p.2]
def lkD (ps : List (Int × Int)) : List PyData := ps.map prD
theorem tp_pr {H : Hp} {v : V} {p : Int × Int} (h : Tp H v (prD p)) : ∃ a, v = .ref a ∧ H a = some (.tup [.int p.1, .int p.2]) := by
  cases h with
  | tup h t => exact ⟨_, rfl, by rw [Tps.ints_of (ns := [p.1, p.2]) t] at h; exact h⟩
theorem pr_tp {H : Hp} {a : Addr} {i j : Int} (h : H a = some (.tup [.int i, .int j])) : Tp H (.ref a) (prD (i, j)) := .tup h (.cons (.int i) (.cons (.int j) .nil))
/-! ### the drawn source: a list of two numbers -/
def BIG : Nat := 1048600
def Src (H : Hp) (a : Addr) : Prop := ∃ x y : Int, H a = some (.lst [.int x, .int y]) ∧ 0 ≤ x ∧ x.natAbs < 2 ^ BIG ∧ 0 ≤ y ∧ y < 2147483647
/-! ### what is left as it was -/
structure Ext (T : List NTab) (so : Option Addr) (H H' : Hp) : Prop where
  kp : ∀ b o, some b ≠ so → (∀ ps, o ≠ .tbl ps) → H b = some o → H' b = some o
  tb : TabsN T H → TabsN T H'
  sr : ∀ a, so = some a → Src H a → Src H' a
  fr : ∀ b, H' b = none → H b = none
section
variable {T : List NTab} {so : Option Addr} {H H1 H2 : Hp} {a : Addr}
theorem Ext.refl (T : List NTab) (so : Option Addr) (H : Hp) : Ext T so H H := ⟨fun _ _ _ _ h => h, fun h => h, fun _ _ h => h, fun _ h => h⟩
theorem Ext.trans (x : Ext T so H H1) (y : Ext T so H1 H2) : Ext T so H H2 := ⟨fun b o n t h => y.kp b o n t (x.kp b o n t h), fun h => y.tb (x.tb h), fun b e h => y.sr b e (x.sr b e h), fun b h => x.fr b (y.fr b h)⟩
theorem upd_none' {H : Hp} {a b : Addr} {o : HO} (e : upd H a o b = none) : H b = none := by
  unfold upd at e
  split at e
  · cases e
  · exact e
theorem tabs_new {H : Hp} {p : Addr} {o : HO} (n : H p = none) (h : TabsN T H) : TabsN T (upd H p o) := h.ext fun b u e => by
  rw [upd_ne (ne_of_none e n)]
  exact e
/-- a new object -/
theorem Ext.new {p : Addr} {o : HO} (n : H p = none) : Ext T so H (upd H p o) :=
  ⟨fun b u _ _ e => by rw [upd_ne (ne_of_none e n)]; exact e, tabs_new n, fun b e ⟨x, y, h, r⟩ => ⟨x, y, by rw [upd_ne (ne_of_none h n)]; exact h, r⟩, fun b e => upd_none' e⟩
/-- an object that the beginning does not know is changed -/
theorem Ext.mut {p : Addr} {o u : HO} (x : Ext T so H H1) (n : H p = none) (h1 : H1 p = some u) (nt : ∀ ps, u ≠ .tbl ps) (nc : ∀ c q, u ≠ CodeO c q) (ns : so ≠ some p) : Ext T so H (upd H1 p o) :=
  ⟨fun b w a b' e => by rw [upd_ne (ne_of_none e n)]; exact x.kp b w a b' e, fun h => by
    have q := x.tb h
    intro t ht
    obtain ⟨ps, a1, a2, a3⟩ := q t ht
    refine ⟨ps, by rw [upd_ne (ne_of a1 h1 (Ne.symm (nt ps)))]; exact a1, a2, fun pos cv hc => ?_⟩
    obtain ⟨c, e1, e2⟩ := a3 pos cv hc
    exact ⟨c, e1, by rw [upd_ne (ne_of e2 h1 (Ne.symm (nc c _)))]; exact e2⟩,
   fun b e q => by
    obtain ⟨x', y', h', r⟩ := x.sr b e q
    exact ⟨x', y', by rw [upd_ne (fun z => ns (by rw [e, z]))]; exact h', r⟩, fun b e => x.fr b (upd_none' e)⟩
theorem lst_nt {xs : List V} (ps : Array Value) : (HO.lst xs) ≠ .tbl ps := fun z => by cases z
theorem lst_nc {xs : List V} (c : Addr) (q : Str) : (HO.lst xs) ≠ CodeO c q := fun z => by
  unfold CodeO at z
  cases z
theorem tup_nt {xs : List V} (ps : Array Value) : (HO.tup xs) ≠ .tbl ps := fun z => by cases z
theorem ins_nt {C d : Addr} {fs : List (Str × V)} (ps : Array Value) : (HO.ins C d fs) ≠ .tbl ps := fun z => by cases z
theorem ins_nc {C d : Addr} {fs : List (Str × V)} (c : Addr) (q : Str) : (HO.ins C d fs) ≠ CodeO c q := fun z => by
  unfold CodeO at z
  cases z
theorem own_nt {x : Addr} (ps : Array Value) : (HO.own x) ≠ .tbl ps := fun z => by cases z
theorem frz_nt {o : Obj} {u : HO} (ps : Array Value) : (HO.frz o u) ≠ .tbl ps := fun z => by cases z
theorem Ext.mutL {p : Addr} {o : HO} {xs : List V} (x : Ext T so H H1) (n : H p = none) (h1 : H1 p = some (.lst xs)) (ns : so ≠ some p) : Ext T so H (upd H1 p o) := x.mut n h1 lst_nt lst_nc ns
/-- nothing but new objects: so the source is left too -/
theorem Ext.toS (x : Ext T none H H1) : Ext T so H H1 := ⟨fun b o _ t h => x.kp b o (fun z => nomatch z) t h, x.tb, fun b _ ⟨i, j, h, r⟩ => ⟨i, j, x.kp b _ (fun z => nomatch z) lst_nt h, r⟩, x.fr⟩
theorem Ext.tup {xs : List V} (x : Ext T none H H1) (h : H a = some (.tup xs)) : H1 a = some (.tup xs) := x.kp a _ (fun z => nomatch z) tup_nt h
theorem Ext.lst {xs : List V} (x : Ext T none H H1) (h : H a = some (.lst xs)) : H1 a = some (.lst xs) := x.kp a _ (fun z => nomatch z) lst_nt h
theorem Ext.ins {C d : Addr} {fs : List (Str × V)} (x : Ext T none H H1) (h : H a = some (.ins C d fs)) : H1 a = some (.ins C d fs) := x.kp a _ (fun z => nomatch z) ins_nt h
theorem Ext.tk (x : Ext T none H H1) : TK H H1 := fun _ _ h => x.tup h
/-- with the source: it is a list -/
theorem Ext.tkS {s : Addr} (x : Ext T (some s) H H1) (q : Src H s) : TK H H1 := fun a xs h => x.kp a _ (fun z => by
  obtain ⟨i, j, e, _⟩ := q
  rw [Option.some.inj z, e] at h
  cases h) tup_nt h
theorem Ext.insS {s C d : Addr} {fs : List (Str × V)} (x : Ext T (some s) H H1) (q : Src H s) (h : H a = some (.ins C d fs)) : H1 a = some (.ins C d fs) := x.kp a _ (fun z => by
  obtain ⟨i, j, e, _⟩ := q
  rw [Option.some.inj z, e] at h
  cases h) ins_nt h
theorem Ext.lstS {s : Addr} {xs : List V} (x : Ext T (some s) H H1) (n : a ≠ s) (h : H a = some (.lst xs)) : H1 a = some (.lst xs) := x.kp a _ (fun z => n (Option.some.inj z)) lst_nt h
theorem Ext.src {s : Addr} (x : Ext T (some s) H H1) (q : Src H s) : Src H1 s := x.sr s rfl q
theorem Ext.same (x : Same H H1) (fr : ∀ b, H1 b = none → H b = none) : Ext T so H H1 := ⟨fun b o _ _ h => x b o h, fun h => h.ext x, fun b _ ⟨i, j, h, r⟩ => ⟨i, j, x b _ h, r⟩, fr⟩
theorem new_ne {b : Addr} (n : H b = none) {o : HO} (h : H a = some o) : a ≠ b := ne_of_none h n
end
/-! ### three comparisons in a row -/
def tChain3 (r r' r'' : R2) (ta tb tc td : TE) : TE := fun σ H Q => ta σ H fun x H1 => tb σ H1 fun y H2 => r x y H2 fun z H3 => ∃ k, z = .bl k ∧
  (if k = true then tc σ H3 fun w H4 => r' y w H4 fun z' H5 => ∃ k', z' = .bl k' ∧ (if k' = true then td σ H5 fun u H6 => r'' w u H6 Q else Q (.bl false) H5) else Q (.bl false) H3)
theorem pe_chain3 {X : Cx} {a b c d : Expr} {ta tb tc td : TE} {pos : Pos} {op op' op'' : CmpOp} {r r' r'' : R2} (ho : OpR X (compareOp op) r) (ho' : OpR X (compareOp op') r') (ho'' : OpR X (compareOp op'') r'') (ha : PE X a ta) (hb : PE X b tb) (hc : PE X c tc) (hd : PE X d td)
    (hm : lastMarks [op, op', op''] [b, c, d] = false := by with_unfolding_all rfl) : PE X (.Compare a [op, op', op''] [b, c, d] pos) (tChain3 r r' r'' ta tb tc td) := by
  refine ⟨fun pins s σ H Q I h => ?_⟩
  refine Compare_chain (thn (ha.run pins s σ H _ I h) fun v s1 ⟨x, H1, I1, r1, q1⟩ => chain_link (thn (hb.run pins s1 σ H1 _ I1 q1) fun u s2 ⟨y, H2, I2, r2, q2⟩ =>
    thn (ho pins s2 σ H2 x y v u _ I2 r1 r2 q2) fun d s3 ⟨z, H3, I3, r3, k, e, q3⟩ => ?_)) hm
  subst e
  cases r3
  refine wpAny_truthy_bool ?_
  cases k with
  | false => exact ite_ff ⟨.bl false, H3, I3, rfl, q3⟩
  | true =>
    refine ite_tt (chain_link (thn (hc.run pins s3 σ H3 _ I3 q3) fun w' s4 ⟨z', H4, I4, r4, q4⟩ => thn (ho' pins s4 σ H4 y z' u w' _ I4 r2 r4 q4) fun d2 s5 ⟨z2, H5, I5, r5, k2, e2, q5⟩ => ?_))
    subst e2
    cases r5
    refine wpAny_truthy_bool ?_
    cases k2 with
    | false => exact ite_ff ⟨.bl false, H5, I5, rfl, q5⟩
    | true => exact ite_tt (chain_last (thn (hd.run pins s5 σ H5 _ I5 q5) fun w2 s6 ⟨z3, H6, I6, r6, q6⟩ => ho'' pins s6 σ H6 z' z3 w' w2 Q I6 r4 r6 q6))
/-! ### where a def of the text stands -/
structure DefAt (K : PySem.W.Frag) (mg : Str → Option Value) (x qual : Str) (st : Stmt) (ps : List Str) (f : Addr) (fd : FuncData) : Prop where
  fn : Fun K x qual st f fd
  bd : L2.Binds K fd ps []
theorem iteB {c : Bool} {A B : Prop} (h1 : c = true → A) (h2 : c = false → B) : if c = true then A else B := by
  cases c with
  | true => exact iteT (h1 rfl)
  | false => exact iteF (h2 rfl)
end R
end

-- Text
section
set_option Elab.async false
set_option linter.all false
set_option maxRecDepth 100000
set_option maxHeartbeats 4000000
/-! Text: the program's text by places, what its top leaves. -/
namespace R
open PySem PySem.Spec PyProof.Rows L2 LamX NdefX LamP
/-! ### the text by places -/
def top (i : Nat) : Stmt := PySem.Challenge.pw_pairfloors_k32_cores_of_turned_rows.main.body.getD i (.Pass ⟨0, 0, 0, 0⟩)
abbrev s_Refused_init : Stmt := inClass (top 1) 0
abbrev s_is_number : Stmt := top 5
abbrev s_is_below : Stmt := top 6
abbrev s_core_of : Stmt := top 11
abbrev s_places_left : Stmt := top 12
abbrev s_Lpool : Stmt := top 14
abbrev s_Ltake : Stmt := top 15
abbrev s_Lone : Stmt := top 16
abbrev s_Lput : Stmt := top 17
abbrev s_Lletters : Stmt := top 18
abbrev s_Lturned : Stmt := top 19
abbrev s_Lodd_readings : Stmt := top 20
abbrev s_law : Stmt := top 21
abbrev N_Refused_init : List Str := ["self", "what"]
theorem sc_Refused_init : FnScope N_Refused_init ["self", "what"] (defScope s_Refused_init) := ⟨rfl, rfl, rfl, by decide +kernel, rfl, by decide +kernel, by decide +kernel⟩
abbrev N_is_number : List Str := ["value"]
theorem sc_is_number : FnScope N_is_number ["value"] (defScope s_is_number) := ⟨rfl, rfl, rfl, by decide +kernel, rfl, by decide +kernel, by decide +kernel⟩
abbrev N_is_below : List Str := ["value", "limit"]
theorem sc_is_below : FnScope N_is_below ["value", "limit"] (defScope s_is_below) := ⟨rfl, rfl, rfl, by decide +kernel, rfl, by decide +kernel, by decide +kernel⟩
abbrev N_core_of : List Str := ["row", "i", "coat", "places", "letters", "readings", "at"]
theorem sc_core_of : FnScope N_core_of ["row"] (defScope s_core_of) := ⟨rfl, rfl, rfl, by decide +kernel, rfl, by decide +kernel, by decide +kernel⟩
abbrev N_places_left : List Str := ["row", "left", "i", "coat"]
theorem sc_places_left : FnScope N_places_left ["row"] (defScope s_places_left) := ⟨rfl, rfl, rfl, by decide +kernel, rfl, by decide +kernel, by decide +kernel⟩
abbrev N_Lpool : List Str := ["_law_script", "_law_k", "_law_cell", "_law_big", "_law_mixed"]
theorem sc_Lpool : FnScope N_Lpool ["_law_script", "_law_k"] (defScope s_Lpool) := ⟨rfl, rfl, rfl, by decide +kernel, rfl, by decide +kernel, by decide +kernel⟩
abbrev N_Ltake : List Str := ["_law_source", "_law_top", "_law_drawn"]
theorem sc_Ltake : FnScope N_Ltake ["_law_source", "_law_top"] (defScope s_Ltake) := ⟨rfl, rfl, rfl, by decide +kernel, rfl, by decide +kernel, by decide +kernel⟩
abbrev N_Lone : List Str := ["_law_source", "_law_things"]
theorem sc_Lone : FnScope N_Lone ["_law_source", "_law_things"] (defScope s_Lone) := ⟨rfl, rfl, rfl, by decide +kernel, rfl, by decide +kernel, by decide +kernel⟩
abbrev N_Lput : List Str := ["_law_row", "_law_at", "_law_thing"]
theorem sc_Lput : FnScope N_Lput ["_law_row", "_law_at", "_law_thing"] (defScope s_Lput) := ⟨rfl, rfl, rfl, by decide +kernel, rfl, by decide +kernel, by decide +kernel⟩
abbrev N_Lletters : List Str := ["_law_source", "_law_n", "_law_coats", "_law_row", "_law_turn", "_law_at", "_law_letter", "_law_x"]
theorem sc_Lletters : FnScope N_Lletters ["_law_source", "_law_n", "_law_coats"] (defScope s_Lletters) := ⟨rfl, rfl, rfl, by decide +kernel, rfl, by decide +kernel, by decide +kernel⟩
abbrev N_Lturned : List Str := ["_law_row", "_law_by"]
theorem sc_Lturned : FnScope N_Lturned ["_law_row", "_law_by"] (defScope s_Lturned) := ⟨rfl, rfl, rfl, by decide +kernel, rfl, by decide +kernel, by decide +kernel⟩
abbrev N_Lodd_readings : List Str := ["_law_core", "_law_by"]
theorem sc_Lodd_readings : FnScope N_Lodd_readings ["_law_core"] (defScope s_Lodd_readings) := ⟨rfl, rfl, rfl, by decide +kernel, rfl, by decide +kernel, by decide +kernel⟩
abbrev N_law : List Str := ["_law_script", "_law_turn", "_law_source", "_law_n", "_law_coats", "_law_row", "_law_core", "_law_by", "_law_due", "_law_at", "_law_letter", "_law_like", "_law_other", "_law_k"]
theorem sc_law : FnScope N_law ["_law_script"] (defScope s_law) := ⟨rfl, rfl, rfl, by decide +kernel, rfl, by decide +kernel, by decide +kernel⟩
/-! ### what the top leaves -/
structure FunC (K : PySem.W.Frag) (x qual : Str) (st : Stmt) (f : Addr) (fd : FuncData) (c : Addr) : Prop where
  ex : ∃ (oc : Value) (od : Option Addr) (kV doc pm : Value) (an : Option Addr) (ct : Value) (osl : Array (Option Value)), fd = PySem.W.fnOf x qual (defArgs st) (defBody st) (defScope st) .none kV doc pm an (.ref c) ct ∧ K.lookup f = some ⟨oc, od, .func fd, osl⟩ ∧ PySem.W.codeIn K (.ref c) qual = true
structure ErrC (K : PySem.W.Frag) (mg : Str → Option Value) (x : Str) (fI C : Addr) : Prop where
  gC : mg x = some (.ref C)
  ox : OexC K C
  xf : XfC K C
  iC : PySem.W.findIn K (.ref C) "__init__" = some (some (.ref fI))
  nw : PySem.W.findIn K (.ref C) "what" = some none
structure Txt (K : PySem.W.Frag) (mg : Str → Option Value) : Type where
  a_Refused_init : Addr
  d_Refused_init : FuncData
  F_Refused_init : Fun K "__init__" "Refused.__init__" s_Refused_init a_Refused_init d_Refused_init
  b_Refused_init : L2.Binds K d_Refused_init ["self", "what"] []
  a_is_number : Addr
  d_is_number : FuncData
  F_is_number : Fun K "is_number" "is_number" s_is_number a_is_number d_is_number
  b_is_number : L2.Binds K d_is_number ["value"] []
  g_is_number : mg "is_number" = some (.ref a_is_number)
  a_is_below : Addr
  d_is_below : FuncData
  F_is_below : Fun K "is_below" "is_below" s_is_below a_is_below d_is_below
  b_is_below : L2.Binds K d_is_below ["value", "limit"] []
  g_is_below : mg "is_below" = some (.ref a_is_below)
  a_core_of : Addr
  d_core_of : FuncData
  F_core_of : Fun K "core_of" "core_of" s_core_of a_core_of d_core_of
  b_core_of : L2.Binds K d_core_of ["row"] []
  g_core_of : mg "core_of" = some (.ref a_core_of)
  a_places_left : Addr
  d_places_left : FuncData
  F_places_left : Fun K "places_left" "places_left" s_places_left a_places_left d_places_left
  b_places_left : L2.Binds K d_places_left ["row"] []
  g_places_left : mg "places_left" = some (.ref a_places_left)
  a_Lpool : Addr
  d_Lpool : FuncData
  F_Lpool : Fun K "_law_pool" "_law_pool" s_Lpool a_Lpool d_Lpool
  b_Lpool : L2.Binds K d_Lpool ["_law_script", "_law_k"] []
  g_Lpool : mg "_law_pool" = some (.ref a_Lpool)
  a_Ltake : Addr
  d_Ltake : FuncData
  F_Ltake : Fun K "_law_take" "_law_take" s_Ltake a_Ltake d_Ltake
  b_Ltake : L2.Binds K d_Ltake ["_law_source", "_law_top"] []
  g_Ltake : mg "_law_take" = some (.ref a_Ltake)
  a_Lone : Addr
  d_Lone : FuncData
  F_Lone : Fun K "_law_one" "_law_one" s_Lone a_Lone d_Lone
  b_Lone : L2.Binds K d_Lone ["_law_source", "_law_things"] []
  g_Lone : mg "_law_one" = some (.ref a_Lone)
  a_Lput : Addr
  d_Lput : FuncData
  F_Lput : Fun K "_law_put" "_law_put" s_Lput a_Lput d_Lput
  b_Lput : L2.Binds K d_Lput ["_law_row", "_law_at", "_law_thing"] []
  g_Lput : mg "_law_put" = some (.ref a_Lput)
  a_Lletters : Addr
  d_Lletters : FuncData
  F_Lletters : Fun K "_law_letters" "_law_letters" s_Lletters a_Lletters d_Lletters
  b_Lletters : L2.Binds K d_Lletters ["_law_source", "_law_n", "_law_coats"] []
  g_Lletters : mg "_law_letters" = some (.ref a_Lletters)
  a_Lturned : Addr
  d_Lturned : FuncData
  F_Lturned : Fun K "_law_turned" "_law_turned" s_Lturned a_Lturned d_Lturned
  b_Lturned : L2.Binds K d_Lturned ["_law_row", "_law_by"] []
  g_Lturned : mg "_law_turned" = some (.ref a_Lturned)
  a_Lodd_readings : Addr
  d_Lodd_readings : FuncData
  F_Lodd_readings : Fun K "_law_odd_readings" "_law_odd_readings" s_Lodd_readings a_Lodd_readings d_Lodd_readings
  b_Lodd_readings : L2.Binds K d_Lodd_readings ["_law_core"] []
  g_Lodd_readings : mg "_law_odd_readings" = some (.ref a_Lodd_readings)
  a_law : Addr
  d_law : FuncData
  F_law : Fun K "law" "law" s_law a_law d_law
  b_law : L2.Binds K d_law ["_law_script"] []
  g_law : mg "law" = some (.ref a_law)
  C_Refused : Addr
  e_Refused : ErrC K mg "Refused" a_Refused_init C_Refused
  C_BadSize : Addr
  e_BadSize : ErrC K mg "BadSize" a_Refused_init C_BadSize
  C_BadCoat : Addr
  e_BadCoat : ErrC K mg "BadCoat" a_Refused_init C_BadCoat
  tI : PySem.W.typeIn K (.ref a_Refused_init) = some (.type "function")
  x_Refused_Refused : PySem.W.exmOne K (.ref C_Refused) (.ref C_Refused) = some true
  x_Refused_BadSize : PySem.W.exmOne K (.ref C_Refused) (.ref C_BadSize) = some false
  x_Refused_BadCoat : PySem.W.exmOne K (.ref C_Refused) (.ref C_BadCoat) = some false
  x_BadSize_Refused : PySem.W.exmOne K (.ref C_BadSize) (.ref C_Refused) = some true
  x_BadSize_BadSize : PySem.W.exmOne K (.ref C_BadSize) (.ref C_BadSize) = some true
  x_BadSize_BadCoat : PySem.W.exmOne K (.ref C_BadSize) (.ref C_BadCoat) = some false
  x_BadCoat_Refused : PySem.W.exmOne K (.ref C_BadCoat) (.ref C_Refused) = some true
  x_BadCoat_BadSize : PySem.W.exmOne K (.ref C_BadCoat) (.ref C_BadSize) = some false
  x_BadCoat_BadCoat : PySem.W.exmOne K (.ref C_BadCoat) (.ref C_BadCoat) = some true
  t_MOST_COATS : Tok
  c_MOST_COATS : mg "MOST_COATS" = some (.int 6 t_MOST_COATS)
  t_SHORTEST_ROW : Tok
  c_SHORTEST_ROW : mg "SHORTEST_ROW" = some (.int 3 t_SHORTEST_ROW)
  t_LONGEST_ROW : Tok
  c_LONGEST_ROW : mg "LONGEST_ROW" = some (.int 40 t_LONGEST_ROW)
  n_bool : mg "bool" = none
  n_enumerate : mg "enumerate" = none
  n_int : mg "int" = none
  n_isinstance : mg "isinstance" = none
  n_len : mg "len" = none
  n_max : mg "max" = none
  n_min : mg "min" = none
  n_range : mg "range" = none
  n_tuple : mg "tuple" = none
end R
end

-- Draw
section
set_option Elab.async false
set_option linter.all false
set_option maxRecDepth 100000
set_option maxHeartbeats 4000000
set_option exponentiation.threshold 100
/-! Draw: the laws' own draws over any text that has them. -/
namespace R
open PySem PySem.Spec PyProof.Rows L2 LamX NdefX LamP
def Ret (T : List NTab) (H : Hp) (Q : VK) (P : V → Hp → Prop) : Prop := ∀ v H', Ext T none H H' → P v H' → Q v H'
def RetV (T : List NTab) (H : Hp) (Q : VK) (v : V) : Prop := ∀ H', Ext T none H H' → Q v H'
theorem seq_cut {t R : TS} {D : Ends} {σ : L2.St} {H : Hp} (J : L2.St → Hp → Prop) (h1 : ∀ R' : L2.St → Hp → Prop, (∀ σ' H', J σ' H' → R' σ' H') → t { D with nx := R' } σ H) (h2 : ∀ σ' H', J σ' H' → R D σ' H') : tSeq t R D σ H := h1 (R D) h2
theorem iteF' {c : Bool} {A B : Prop} (h : c = false) (k : B) : if c = true then A else B := by rw [h]; exact iteF k
theorem iteT' {c : Bool} {A B : Prop} (h : c = true) (k : A) : if c = true then A else B := by rw [h]; exact iteT k
theorem bits_lt {z : Int} (h : Builtin.Int.intBits z ≤ 1048576) : z.natAbs < 2 ^ 1048576 := by
  unfold Builtin.Int.intBits at h
  by_cases e : z = 0
  · subst e
    exact Nat.two_pow_pos _
  · rw [if_neg (by simpa using e)] at h
    exact Nat.lt_of_lt_of_le Nat.lt_log2_self (Nat.pow_le_pow_right (by decide) h)
theorem big_lt {c : Int} {v : Nat} (h : c.natAbs < 2 ^ 1048576) (hv : v ≤ c.natAbs) : v < 2 ^ BIG :=
  Nat.lt_of_le_of_lt hv (Nat.lt_of_lt_of_le h (Nat.pow_le_pow_right (by decide) (by unfold BIG; decide)))
section
variable {P : Program} {w : World} {K : PySem.W.Frag} {mg : Str → Option Value} {base : Heap}
theorem room65 {k : Nat} {A : Around} (r : Room k A) : A.units + 65 < cLine := by have := r.un; omega
/-- what a def that draws gives back: the source has moved on, nothing else has changed -/
def RetS (TT : List NTab) (so : Addr) (H : Hp) (Q : VK) (good : V → Hp → Prop) : Prop := ∀ v H', Ext TT (some so) H H' → Src H' so → good v H' → Q v H'
theorem Ext.srcSet {TT : List NTab} {so : Addr} {H H1 : Hp} {x y : Int} (x1 : Ext TT (some so) H H1) (s1 : Src H1 so) (hx : 0 ≤ x ∧ x.natAbs < 2 ^ BIG) (hy : 0 ≤ y ∧ y < 2147483647) :
    Ext TT (some so) H (upd H1 so (.lst [.int x, .int y])) ∧ Src (upd H1 so (.lst [.int x, .int y])) so := by
  obtain ⟨a, b, h, _⟩ := s1
  have me : Src (upd H1 so (.lst [.int x, .int y])) so := ⟨x, y, upd_same, hx.1, hx.2, hy.1, hy.2⟩
  refine ⟨⟨fun c o ne nt e => ?_, fun t => ?_, fun c e _ => ?_, fun c e => x1.fr c (upd_none' e)⟩, me⟩
  · rw [upd_ne (fun z => ne (by rw [z]))]
    exact x1.kp c o ne nt e
  · have q := x1.tb t
    intro p hp
    obtain ⟨ps, a1, a2, a3⟩ := q p hp
    refine ⟨ps, (upd_ne (ne_of a1 h (Ne.symm (lst_nt ps)))).trans a1, a2, fun pos cv hc => ?_⟩
    obtain ⟨d, e1, e2⟩ := a3 pos cv hc
    exact ⟨d, e1, (upd_ne (ne_of e2 h (Ne.symm (lst_nc d _)))).trans e2⟩
  · cases e
    exact me
/-- a source that the beginning does not know is forgotten -/
theorem Ext.dropS {TT : List NTab} {so : Addr} {H H1 H2 : Hp} (x : Ext TT none H H1) (n : H so = none) (y : Ext TT (some so) H1 H2) : Ext TT none H H2 :=
  ⟨fun b o _ nt e => y.kp b o (fun z => by cases z; rw [n] at e; cases e) nt (x.kp b o (fun z => nomatch z) nt e), fun t => y.tb (x.tb t), fun _ e => (nomatch e), fun b e => x.fr b (y.fr b e)⟩
theorem SqL.ext {TT : List NTab} {H H1 : Hp} {a : Addr} {xs : List V} (h : SqL K H a xs) (x : Ext TT none H H1) : SqL K H1 a xs := by
  rcases h with (h | ⟨o, h⟩) | h
  · exact .inl (.inl (x.lst h))
  · exact .inl (.inr ⟨o, x.kp a _ (fun z => nomatch z) frz_nt h⟩)
  · exact .inr h
/-- a new object: what is kept, and where it stands -/
theorem newX {TT : List NTab} {H H1 : Hp} {p : Addr} {o : HO} {so : Option Addr} (x : Ext TT so H H1) (n : H1 p = none) : Ext TT so H (upd H1 p o) ∧ upd H1 p o p = some o := ⟨x.trans (Ext.new n), upd_same⟩
def spTake (TT : List NTab) : Sp := fun vs H Q _ => ∃ (so : Addr) (n : Int), vs = [.ref so, .int n] ∧ Src H so ∧ 0 < n ∧ n < 2 ^ 62 ∧ RetS TT so H Q fun v _ => ∃ m : Int, v = .int m ∧ 0 ≤ m ∧ m < n
theorem ok_take (T : Txt K mg) (TT : List NTab) : FnOk P w K mg base CX0 1 T.a_Ltake T.d_Ltake ["_law_source", "_law_top"] (spTake TT) := by
  refine T.F_Ltake.ok sc_Ltake (fun vs H Q E h => ?_) (fun cdv A outer s H vs Q E hr h => ?_)
  · obtain ⟨so, n, rfl, _⟩ := h
    rfl
  · obtain ⟨so, n, rfl, hs, hn, hn2, k⟩ := h
    have nd := sc_Ltake.nd
    refine ⟨_, pss_cons (ps_if (pt_cmpR op_gt (pe_ix ix_list (pv 0) pe_int (fun _ _ => rfl)) pe_int (nomark _))
        (pss_cons (ps_set (i := 2) nd rfl (Or.inl rfl) (pe_op op_mod (pe_callTy call_int1 (by rfl) T.n_int (by decide +kernel) (pa_cons (pe_ix ix_list (pv 0) pe_int (fun _ _ => rfl)) pa_nil)) (pv 1)))
        (pss_cons (ps_asg (pe_op op_fdivW (pe_ix ix_list (pv 0) pe_int (fun _ _ => rfl)) (pv 1)) (pg_sub (pv 0) pe_int set_list))
        (pss_one (ps_ret (pv 2))))) pss_nil)
      (pss_cons (ps_asg (pe_op op_mod (pe_callTy call_int1 (by rfl) T.n_int (by decide +kernel) (pa_cons (pe_op op_add (pe_op op_mul (pe_ix ix_list (pv 0) pe_int (fun _ _ => rfl)) pe_int) pe_int) pa_nil)) pe_int) (pg_sub (pv 0) pe_int set_list))
      (pss_one (ps_ret (pe_op op_mod (pe_callTy call_int1 (by rfl) T.n_int (by decide +kernel) (pa_cons (pe_op op_fdiv (pe_op op_mod (pe_callTy call_int1 (by rfl) T.n_int (by decide +kernel) (pa_cons (pe_op op_mulW (pe_ix ix_list (pv 0) pe_int (fun _ _ => rfl)) (pe_ix ix_list (pv 0) pe_int (fun _ _ => rfl))) pa_nil)) pe_int) pe_int) pa_nil)) (pv 1))))), ?_⟩
    have hs0 := hs
    obtain ⟨x, y, h, hx0, hxB, hy0, hyB⟩ := hs
    have n30 : n.natAbs < 2 ^ 62 := by omega
    refine ⟨_, rfl, so, _, 0, _, rfl, rfl, SqL.of h, rfl, _, _, rfl, rfl, _, rfl, ?_⟩
    refine iteB (fun h0 => ?_) (fun h0 => ?_)
    · have hx : 0 < x := of_decide_eq_true h0
      refine ⟨_, rfl, so, _, 0, _, rfl, rfl, SqL.of h, rfl, .inl ⟨_, rfl, _, rfl, _, _, rfl, rfl, hn, ?_⟩⟩
      refine ⟨_, rfl, so, _, 0, _, rfl, rfl, SqL.of h, rfl, _, rfl, _, _, rfl, rfl, wide_div hn n30 (by omega) (by omega), ?_⟩
      refine ⟨_, rfl, so, _, 0, 0, rfl, rfl, h, rfl, ?_⟩
      have d0 : 0 ≤ x / n := Int.ediv_nonneg hx0 (by omega)
      have d1 : x / n ≤ x := Int.ediv_le_self n hx0
      obtain ⟨e1, e2⟩ := (Ext.refl TT (some so) H).srcSet (x := x / n) (y := y) hs0 ⟨d0, wide_le d0 d1 hxB⟩ ⟨hy0, hyB⟩
      exact ⟨_, rfl, k _ _ e1 e2 ⟨_, rfl, Int.emod_nonneg _ (by omega), Int.emod_lt_of_pos _ hn⟩⟩
    · refine ⟨_, rfl, so, _, 1, _, rfl, rfl, SqL.of h, rfl, _, _, rfl, rfl, .inr (by omega), _, _, rfl, rfl, .inl ⟨_, rfl, _, _, rfl, rfl, by omega, ?_⟩⟩
      refine ⟨_, rfl, so, _, 1, 1, rfl, rfl, h, rfl, ?_⟩
      have m0 : 0 ≤ (y * 39373 + 7) % 2147483647 := Int.emod_nonneg _ (by omega)
      have m1 : (y * 39373 + 7) % 2147483647 < 2147483647 := Int.emod_lt_of_pos _ (by omega)
      obtain ⟨e1, e2⟩ := (Ext.refl TT (some so) H).srcSet (x := x) (y := (y * 39373 + 7) % 2147483647) hs0 ⟨hx0, hxB⟩ ⟨m0, m1⟩
      dsimp only [List.set]
      generalize (y * 39373 + 7) % 2147483647 = z at m0 m1 e1 e2 ⊢
      have zb : z.natAbs < 2 ^ 31 := by omega
      refine ⟨_, rfl, so, _, 1, _, rfl, rfl, SqL.of upd_same, rfl, _, rfl, so, _, 1, _, rfl, rfl, SqL.of upd_same, rfl, _, _, rfl, rfl, wide_mul (a := 31) (b := 31) zb zb (by decide) (by decide) (by decide), .inl ⟨_, rfl, _, _, rfl, rfl, by omega, ?_⟩⟩
      have q0 : 0 ≤ z * z % 2147483629 := Int.emod_nonneg _ (by omega)
      have q1 : z * z % 2147483629 < 2147483629 := Int.emod_lt_of_pos _ (by omega)
      refine ⟨_, _, rfl, rfl, ⟨by decide, by decide⟩, .inl ⟨_, rfl, _, rfl, _, _, rfl, rfl, hn, ?_⟩⟩
      exact k _ _ e1 e2 ⟨_, rfl, Int.emod_nonneg _ (by omega), Int.emod_lt_of_pos _ hn⟩
def spOne (TT : List NTab) : Sp := fun vs H Q _ => ∃ (so l : Addr) (xs : List V), vs = [.ref so, .ref l] ∧ Src H so ∧ H l = some (.lst xs) ∧ l ≠ so ∧ 0 < xs.length ∧ xs.length < 1000 ∧ RetS TT so H Q fun v _ => v ∈ xs
theorem atI_in {α : Type} {xs : List α} {m : Int} (h0 : 0 ≤ m) (h : m < xs.length) : ∃ v, atI xs m = some v ∧ v ∈ xs := by
  obtain ⟨k, rfl⟩ : ∃ k : Nat, m = (k : Int) := ⟨m.toNat, by omega⟩
  have hk : k < xs.length := by omega
  exact ⟨xs[k], atI_nat (List.getElem?_eq_getElem hk), List.getElem_mem hk⟩
theorem ok_one (T : Txt K mg) (TT : List NTab) : FnOk P w K mg base CX0 2 T.a_Lone T.d_Lone ["_law_source", "_law_things"] (spOne TT) := by
  refine T.F_Lone.ok sc_Lone (fun vs H Q E h => ?_) (fun cdv A outer s H vs Q E hr h => ?_)
  · obtain ⟨so, l, xs, rfl, _⟩ := h
    rfl
  · obtain ⟨so, l, xs, rfl, hs, hl, ne, h0, h1, k⟩ := h
    refine ⟨_, pss_one (ps_ret (pe_ix ix_list (pv 1) (pe_call (ok_take T TT) (hr.mono (by decide)) rfl T.g_Ltake T.F_Ltake.kp T.b_Ltake .nil pass0 (pa_cons (pv 0) (pa_cons (pe_callB call_len_seq (by rfl) T.n_len PySem.boot_len (pa_cons (pv 1) pa_nil)) pa_nil))) (fun _ _ => rfl))), ?_⟩
    refine ⟨_, rfl, _, rfl, _, rfl, l, _, rfl, .inl (SqL.of hl), so, _, rfl, hs, by omega, by omega, fun v H1 x1 s1 hv => ?_⟩
    obtain ⟨m, rfl, m0, m1⟩ := hv
    obtain ⟨v, hv, hm⟩ := atI_in m0 m1
    exact ⟨l, _, m, v, rfl, rfl, SqL.of (x1.lstS ne hl), hv, k _ _ x1 s1 hm⟩
theorem src_ne {H : Hp} {so l : Addr} (q : Src H so) (n : H l = none) : l ≠ so := fun z => by
  obtain ⟨_, _, e, _⟩ := q
  rw [← z, n] at e
  cases e
def spPool (K : PySem.W.Frag) (TT : List NTab) : Sp := fun vs H Q _ => ∃ (l : Addr) (ns : List Int) (k : Int), vs = [.ref l, .int k] ∧ 0 ≤ k ∧ k < 1000 ∧ SqL K H l (ns.map V.int) ∧ (∀ z ∈ ns, Builtin.Int.intBits z ≤ 1048576) ∧ Ret TT H Q fun v H' => ∃ so, v = .ref so ∧ Src H' so ∧ H so = none
theorem ok_pool (T : Txt K mg) (TT : List NTab) : FnOk P w K mg base CX0 1 T.a_Lpool T.d_Lpool ["_law_script", "_law_k"] (spPool K TT) := by
  refine T.F_Lpool.ok sc_Lpool (fun vs H Q E h => ?_) (fun cdv A outer s H vs Q E hr h => ?_)
  · obtain ⟨l, ns, k, rfl, _⟩ := h
    rfl
  · obtain ⟨l, ns, k, rfl, k0, k1, hl, hb, q⟩ := h
    have nd := sc_Lpool.nd
    refine ⟨_, pss_cons (ps_set (i := 2) nd rfl (Or.inl rfl) pe_int)
      (pss_cons (ps_if (pt_cmpR op_lt (pv 1) (pe_callB call_len_seq (by rfl) T.n_len PySem.boot_len (pa_cons (pv 0) pa_nil)) (nomark _)) (pss_one (ps_set (i := 2) nd rfl (Or.inl rfl) (pe_ix ix_list (pv 0) (pv 1) (fun _ _ => rfl))))
        (pss_one (ps_if (pt_truth (pv 0) (by intro _; rfl)) (pss_one (ps_set (i := 2) nd rfl (Or.inl rfl) (pe_ix ix_list (pv 0) pe_int (fun _ _ => rfl)))) pss_nil)))
      (pss_cons (ps_set (i := 3) nd rfl (Or.inl rfl) (pe_callB (call_max2 rfl) (by rfl) T.n_max (by decide +kernel) (pa_cons (pe_callTy call_int1 (by rfl) T.n_int (by decide +kernel) (pa_cons (pv 2) pa_nil)) (pa_cons (pe_callTy call_int1 (by rfl) T.n_int (by decide +kernel) (pa_cons (pe_op op_sub (pe_un un_neg pe_int) (pv 2)) pa_nil)) pa_nil))))
      (pss_cons (ps_set (i := 4) nd rfl (Or.inl rfl) (pe_op op_mod (pe_callTy call_int1 (by rfl) T.n_int (by decide +kernel) (pa_cons (pe_op op_mul (pe_op op_add (pe_op op_add (pe_op op_add (pe_op op_mod (pe_callTy call_int1 (by rfl) T.n_int (by decide +kernel) (pa_cons (pv 3) pa_nil)) pe_int)
          (pe_op op_mul (pe_op op_mul pe_int (pv 1)) (pv 1))) (pe_op op_mul pe_int (pv 1))) pe_int) pe_int) pa_nil)) pe_int))
      (pss_one (ps_ret (pe_lst (pa_cons (pe_op op_mul (pv 3) (pe_callTy call_int1 (by rfl) T.n_int (by decide +kernel) (pa_cons (pe_cmpR op_ge (pv 3) (pe_op op_pow pe_int pe_int) (nomark _)) pa_nil))) (pa_cons (pv 4) pa_nil)))))))), ?_⟩
    dsimp only
    refine seq_cut (fun σ H' => H = H' ∧ σ = [some (.ref l), some (.int k), some (.int 0), none, none]) (fun R join => join _ _ ⟨rfl, rfl⟩) ?_
    rintro σ _ ⟨rfl, rfl⟩
    refine seq_cut (fun σ H' => H = H' ∧ ∃ c : Int, c.natAbs < 2 ^ 1048576 ∧ σ = [some (.ref l), some (.int k), some (.int c), none, none]) (fun R join => ?_) ?_
    · refine ⟨_, rfl, _, rfl, l, _, rfl, .inl hl, _, _, rfl, rfl, _, rfl, ?_⟩
      refine iteB (fun h => ?_) (fun h => ?_)
      · have h0 : k < ((ns.map V.int).length : Nat) := of_decide_eq_true h
        rw [List.length_map] at h0
        obtain ⟨j, rfl⟩ : ∃ j : Nat, k = (j : Int) := ⟨k.toNat, by omega⟩
        have hj : j < ns.length := by omega
        refine ⟨_, rfl, _, rfl, l, _, _, .int ns[j], rfl, rfl, hl, atI_nat (by rw [List.getElem?_map, List.getElem?_eq_getElem hj]; rfl), ?_⟩
        exact join _ _ ⟨rfl, _, bits_lt (hb _ (List.getElem_mem hj)), rfl⟩
      · refine ⟨_, rfl, _, .inl ⟨_, hl, rfl⟩, ?_⟩
        cases ns with
        | nil => exact iteF' rfl (join _ _ ⟨rfl, 0, Nat.two_pow_pos _, rfl⟩)
        | cons c r =>
          refine iteT' rfl ⟨_, rfl, l, _, 0, .int c, rfl, rfl, hl, atI_nat (j := 0) rfl, ?_⟩
          exact join _ _ ⟨rfl, _, bits_lt (hb _ List.mem_cons_self), rfl⟩
    · rintro σ _ ⟨rfl, c, hcb, rfl⟩
      obtain ⟨B, hB⟩ : ∃ B : Int, B = (if (-1 - c) > c then (-1 - c) else c) := ⟨_, rfl⟩
      have B0 : 0 ≤ B := by rw [hB]; split <;> omega
      have B1 : B.natAbs ≤ (c).natAbs := by rw [hB]; split <;> omega
      have BB := big_lt hcb B1
      have kk : 0 ≤ 7919 * k ∧ 7919 * k < 2 ^ 62 := by omega
      refine ⟨_, rfl, .inl ⟨_, rfl, _, rfl, _, rfl, _, _, rfl, rfl, .inl ⟨_, rfl, c, -1 - c, rfl, ?_⟩⟩⟩
      rw [← hB]
      refine ⟨_, rfl, .inl ⟨_, rfl, _, _, rfl, rfl, (by show (0 : Int) < 2147483629; decide), _, rfl, _, _, rfl, rfl, .inl ⟨by decide, by decide⟩, _, rfl, _, _, rfl, rfl, .inl ⟨by omega, by omega⟩, _, _, rfl, rfl, _, rfl, _, _, rfl, rfl, .inl ⟨by decide, by decide⟩, _, _, rfl, rfl, _, _, rfl, rfl, _, _, rfl, rfl, .inr ⟨by decide, by decide⟩, .inl ⟨_, rfl, _, _, rfl, rfl, (by show (0 : Int) < 2147483647; decide), ?_⟩⟩⟩
      refine ⟨_, rfl, _, rfl, _, _, rfl, rfl, ⟨by decide, by decide, by decide⟩, _, _, rfl, rfl, .inr ⟨_, rfl, _, _, rfl, rfl, .inr ?_, _, rfl, (by show 2 ≤ sizeLine; decide), fun so nso => ?_⟩⟩
      · split <;> exact ⟨by decide, by decide⟩
      · refine q _ _ (Ext.new nso) ⟨so, rfl, ⟨_, _, upd_same, ?_, ?_, Int.emod_nonneg _ (by decide), Int.emod_lt_of_pos _ (by decide)⟩, nso⟩
        · split
          · rw [Int.mul_one]; exact B0
          · rw [Int.mul_zero]; exact Int.le_refl _
        · split
          · rw [Int.mul_one]; exact BB
          · rw [Int.mul_zero]; exact Nat.two_pow_pos _
end
end R
end

-- Err
section
set_option Elab.async false
set_option linter.all false
set_option maxRecDepth 100000
set_option maxHeartbeats 4000000
namespace R
open PySem PySem.Spec PyProof.Rows L2 LamX NdefX LamP
/-! ### errors -/
def spErrInit (K : PySem.W.Frag) : Sp := fun vs H Q _ => ∃ (a C : Addr) (v : V), vs = [.ref a, v] ∧ OexC K C ∧ PySem.W.findIn K (.ref C) "what" = some none ∧ H a = some (exo a C none) ∧
  ∀ dx, H dx = none → dx ≠ a → Q .non (upd (upd H dx (exd dx [("what", v)])) a (exo a C (some dx)))
/-- an error of the class at C is wished, its what as P tells -/
def Rz (TT : List NTab) (E : XK) (H : Hp) (C : Addr) (P : V → Hp → Prop) : Prop := ∀ v d H', Ext TT none H H' → H' d = some (.xd [("what", v)]) → P v H' → E (.ref C) (some d) H'
theorem Rz.step {TT : List NTab} {E : XK} {H H1 : Hp} {C : Addr} {P : V → Hp → Prop} (h : Rz TT E H C P) (x : Ext TT none H H1) : Rz TT E H1 C P := fun v d H' y => h v d H' (x.trans y)
def tErr (C : Addr) (ta : TA) : L2.St → Hp → XK → Prop := fun σ H Q => ta σ H fun vs H1 => ∃ v, vs = [v] ∧ ∀ d, H1 d = none → Q (.ref C) (some d) (upd H1 d (.xd [("what", v)]))
section
variable {P : Program} {w : World} {K : PySem.W.Frag} {mg : Str → Option Value} {base : Heap}
theorem ok_err_init (T : Txt K mg) : FnOk P w K mg base CX0 1 T.a_Refused_init T.d_Refused_init ["self", "what"] (spErrInit K) := by
  refine T.F_Refused_init.ok sc_Refused_init (fun vs H Q E h => ?_) (fun cdv A outer s H vs Q E hr h => ?_)
  · obtain ⟨a, C, v, rfl, _⟩ := h
    rfl
  · obtain ⟨a, C, v, rfl, hC, hw, ha, k⟩ := h
    refine ⟨_, pss_one (ps_ost (pv 0) (pv 1)), ?_⟩
    exact ⟨_, rfl, _, rfl, a, C, rfl, hC, hw, .inl ⟨ha, k⟩⟩
theorem pa_mono {X : Cx} {es : List Expr} {ta : TA} (ha : PA X es ta) : PA X es (fun σ H Q2 => ∃ Q1 : List V → Hp → Prop, ta σ H Q1 ∧ ∀ vs H1, Q1 vs H1 → Q2 vs H1) := by
  refine ⟨fun pos pins s σ H Q I h => ?_⟩
  obtain ⟨Q1, h1, m⟩ := h
  exact wpAny_mono (ha.run pos pins s σ H Q1 I h1) (fun us s' ⟨vs, H', I', r, q⟩ => ⟨vs, H', I', r, m _ _ q⟩) fun _ _ x => x
theorem pmk_err {X : Cx} {x : Str} {C : Addr} {e : Expr} {ta : TA} {p pos : Pos} (T : Txt X.K X.mg) (hE : ErrC X.K X.mg x T.a_Refused_init C) (hr : Room 2 X.A) (hg : Gl X x) (ha : PA X [e] ta)
    (hdb : (x == ("__debug__" : Str)) = false := by decide) (he : starEach (e :: []) X.env = (false, eval e X.env) :: starEach [] X.env := by rfl) (hpl : (backTo pos (starEach [] X.env)).any (·.1) = false := by rfl) :
    PMk X (.Call (.Name x p) [e] [] pos) (tErr C ta) := by
  have q := pmk_oex (pos := pos) (p := p) hE.ox hE.iC T.tI (ok_err_init (P := X.prog) (w := X.w) (base := X.base) T) hr T.b_Refused_init .nil pass0 hg hE.gC (pa_mono ha) hdb he hpl
  intro pins s σ H Q I h
  refine q pins s σ H Q I ?_
  refine ⟨_, h, fun vs H1 hv => ?_⟩
  obtain ⟨v, rfl, k⟩ := hv
  refine ⟨(by show 1 ≤ 1000; decide), fun a na => ?_⟩
  refine ⟨a, C, v, rfl, hE.ox, hE.nw, upd_same, fun dx nd ne => ?_⟩
  have nd1 : H1 dx = none := by
    rw [upd_ne ne] at nd
    exact nd
  refine ⟨rfl, dx, [("what", v)], upd_same, by rw [upd_ne ne]; exact upd_same, nd1, ?_⟩
  have e1 : upd (del (upd (upd (upd H1 a (exo a C none)) dx (exd dx [("what", v)])) a (exo a C (some dx))) a) dx (.xd [("what", v)]) = upd H1 dx (.xd [("what", v)]) := by
    funext b
    by_cases hb : b = dx
    · rw [hb, upd_same, upd_same]
    · rw [upd_ne hb, upd_ne hb]
      by_cases hba : b = a
      · rw [hba, del_same, na]
      · rw [del_ne hba, upd_ne hba, upd_ne hb, upd_ne hba]
  rw [e1]
  exact k dx nd1
end
end R
end

-- FormsN
section
set_option Elab.async false
set_option linter.all false
set_option maxRecDepth 100000
set_option maxHeartbeats 4000000
namespace R
open PySem PySem.Spec PyProof.Rows L2 LamX NdefX LamP
def spIsNumber : Sp := fun vs H Q _ => ∃ n : Int, vs = [.int n] ∧ Q (.bl true) H
def spIsBelow : Sp := fun vs H Q _ => ∃ n m : Int, vs = [.int n, .int m] ∧ Q (.bl (decide (0 ≤ n) && decide (n < m))) H
section
variable {P : Program} {w : World} {K : PySem.W.Frag} {mg : Str → Option Value} {base : Heap}
theorem ok_is_number (T : Txt K mg) (TT : List NTab) : FnOk P w K mg base CX0 1 T.a_is_number T.d_is_number ["value"] spIsNumber := by
  refine T.F_is_number.ok sc_is_number (fun vs H Q E h => ?_) (fun cdv A outer s H vs Q E hr h => ?_)
  · obtain ⟨n, rfl, _⟩ := h
    rfl
  · obtain ⟨n, rfl, k⟩ := h
    refine ⟨_, pss_one (ps_ret (pe_and (pe_callB call_isi (by rfl) T.n_isinstance (by decide +kernel) (pa_cons (pv 0) (pa_cons (pe_bltn (v := .ty "int") (u := Value.type "int") (by rfl) T.n_int (by decide +kernel) rfl) pa_nil)))
      (pe_one (pe_not (pe_callB call_isi (by rfl) T.n_isinstance (by decide +kernel) (pa_cons (pv 0) (pa_cons (pe_bltn (v := .ty "bool") (u := Value.type "bool") (by rfl) T.n_bool (by decide +kernel) rfl) pa_nil))))))), ?_⟩
    refine ⟨_, rfl, _, _, .type "int", .type "int", true, rfl, .ty _, .base (.int _), kit_ty (by decide +kernel), _, rfl, ?_⟩
    refine iteT ⟨_, rfl, _, _, .type "int", .type "bool", false, rfl, .ty _, .base (.int _), kit_ty (by decide +kernel), _, rfl, ?_⟩
    exact k
theorem ok_is_below (T : Txt K mg) (TT : List NTab) : FnOk P w K mg base CX0 2 T.a_is_below T.d_is_below ["value", "limit"] spIsBelow := by
  refine T.F_is_below.ok sc_is_below (fun vs H Q E h => ?_) (fun cdv A outer s H vs Q E hr h => ?_)
  · obtain ⟨n, m, rfl, _⟩ := h
    rfl
  · obtain ⟨n, m, rfl, k⟩ := h
    refine ⟨_, pss_one (ps_ret (pe_and (pe_call (ok_is_number T TT) hr rfl T.g_is_number T.F_is_number.kp T.b_is_number .nil pass0 (pa_cons (pv 0) pa_nil))
      (pe_one (pe_chain op_le op_lt pe_int (pv 0) (pv 1))))), ?_⟩
    refine ⟨_, rfl, n, rfl, _, rfl, iteT ?_⟩
    refine ⟨_, rfl, _, _, rfl, rfl, _, rfl, ?_⟩
    refine iteB (fun h => ?_) (fun h => ?_)
    · refine ⟨_, rfl, _, _, rfl, rfl, ?_⟩
      rw [h] at k
      exact k
    · rw [h] at k
      exact k
end
end R
end

-- TupSum
section
set_option Elab.async false
set_option linter.all false
set_option maxRecDepth 100000
set_option maxHeartbeats 4000000
/-! TupSum: sum(t), t a tuple of whole numbers; a tuple behind a tuple; data of rows of numbers. -/
namespace TupX
open PySem PySem.Spec PyProof.Rows L2 NdefX R
def rSumT (K : PySem.W.Frag) : List V → Hp → VK → Prop := fun vs H Q => ∃ (t : Addr) (ns : List Int), vs = [V.ref t] ∧ SqT K H t (ns.map V.int) ∧ Q (.int ns.sum) H
theorem csumT {X : Cx} (K : PySem.W.Frag) (hc : X.calm = true := by rfl) (hK : X.K = K := by rfl) : CallR X (.builtin "sum") (rSumT K) := by
  subst hK
  rintro pins s σ H vs us Q I r ⟨t, ns, rfl, ht, q⟩
  obtain ⟨its, vi, at_, _⟩ := I.tuple ht
  cases Vals.ref1 r
  obtain ⟨prs, e⟩ := (Vals.ints vi).allInts.items
  have total : numsOf (intItems prs).toList = ns := by
    rw [← e]
    exact (Vals.ints vi).numsOf
  rw [nums_intItems] at total
  have tup : s.heap.IsTuple t (intItems prs) := by
    rw [← e]
    obtain ⟨o, h1, h2, n, h3⟩ := at_
    exact ⟨o, h1, h2, n, h3⟩
  refine PySem.W.ktm_sumG (I.ok.hd hc) tup (fun h' tk t' up => ⟨.int ns.sum, H, I.kept up, ⟨t', ?_⟩, q⟩)
  rw [preSum_eq, List.take_of_length_le (by simp), total]
/-- a row of whole numbers, as data -/
def rowD (r : List Nat) : PyData := .tuple (r.map fun (n : Nat) => .int (n : Int))
def rowsD (L : List (List Nat)) : List PyData := L.map rowD
theorem tps_nats {H : Hp} : ∀ {vs : List V} {r : List Nat}, Tps H vs (r.map fun (n : Nat) => PyData.int (n : Int)) → vs = (r.map Int.ofNat).map V.int
  | _, [], h => by
    cases h
    rfl
  | _, n :: r, h => by
    cases h with
    | cons h1 h2 =>
      cases h1
      rw [tps_nats h2] <;> rfl
theorem nats_tps {H : Hp} : ∀ r : List Nat, Tps H ((r.map Int.ofNat).map V.int) (r.map fun (n : Nat) => PyData.int (n : Int))
  | [] => .nil
  | n :: r => .cons (.int _) (nats_tps r)
theorem row_at {H : Hp} {v : V} {r : List Nat} (h : Tp H v (rowD r)) : ∃ a, v = .ref a ∧ H a = some (.tup ((r.map Int.ofNat).map V.int)) := by
  cases h with
  | tup h t =>
    rw [tps_nats t] at h
    exact ⟨_, rfl, h⟩
theorem row_tp {H : Hp} {a : Addr} {r : List Nat} (h : H a = some (.tup ((r.map Int.ofNat).map V.int))) : Tp H (.ref a) (rowD r) := .tup h (nats_tps r)
theorem sum_nats : ∀ r : List Nat, (r.map Int.ofNat).sum = ((r.sum : Nat) : Int)
  | [] => rfl
  | n :: r => by
    rw [List.map_cons, List.sum_cons, sum_nats r, List.sum_cons, Int.natCast_add] <;> rfl
/-- a row of whole numbers of any sign, as data -/
def rowI (r : List Int) : PyData := .tuple (r.map PyData.int)
def rowsI' (L : List (List Int)) : List PyData := L.map rowI
theorem rowI_at {H : Hp} {v : V} {r : List Int} (h : Tp H v (rowI r)) : ∃ a, v = .ref a ∧ H a = some (.tup (r.map V.int)) := by
  cases h with
  | tup h t =>
    rw [Tps.ints_of t] at h
    exact ⟨_, rfl, h⟩
theorem rowI_tp {H : Hp} {a : Addr} {r : List Int} (h : H a = some (.tup (r.map V.int))) : Tp H (.ref a) (rowI r) := .tup h (Tps.ints r)
/-- a list of such rows -/
def IsRowsI (H : Hp) (l : Addr) (L : List (List Int)) : Prop := ∃ vs, H l = some (.lst vs) ∧ Tps H vs (rowsI' L)
theorem rowsI_len {H : Hp} {vs : List V} {L : List (List Int)} (h : Tps H vs (rowsI' L)) : vs.length = L.length := by
  rw [h.length]
  unfold rowsI'
  rw [List.length_map]
theorem rowsI_get {H : Hp} {vs : List V} {L : List (List Int)} {j : Nat} {x : V} (h : Tps H vs (rowsI' L)) (e : vs[j]? = some x) : ∃ r, L[j]? = some r ∧ Tp H x (rowI r) := by
  obtain ⟨d, h1, h2⟩ := h.get e
  unfold rowsI' at h1
  rw [List.getElem?_map] at h1
  cases er : L[j]? with
  | none => rw [er] at h1; cases h1
  | some r =>
    rw [er] at h1
    cases h1
    exact ⟨r, rfl, h2⟩
theorem rowsI_append (A B : List (List Int)) : rowsI' (A ++ B) = rowsI' A ++ rowsI' B := by
  unfold rowsI'
  rw [List.map_append]
/-- t + u, whichever is empty -/
def rCatK (K : PySem.W.Frag) : R2 := rCatA K
theorem catAK {X : Cx} (K : PySem.W.Frag) (h : X.K = K := by rfl) : OpR X (binaryOp .Add) (rCatA K) := h ▸ op_catA
/-- a tuple and a tuple behind it: whichever way, a tuple of both -/
theorem cat_tup {K : PySem.W.Frag} {TT : List NTab} {H : Hp} {l b : Addr} {xs zs : List V} {Q : VK} (hx : H l = some (.tup xs)) (hz : H b = some (.tup zs)) (small : xs.length + zs.length ≤ sizeLine)
    (h : ∀ q G, Ext TT none H G → G q = some (.tup (xs ++ zs)) → Q (.ref q) G) : rCatA K (.ref l) (.ref b) H Q := by
  refine ⟨l, b, xs, zs, rfl, rfl, SqT.of hx, SqT.of hz, small, fun e => ?_, fun _ e => ?_, fun _ _ p np => ?_⟩
  · subst e
    exact h b H (Ext.refl ..) hz
  · subst e
    rw [List.append_nil] at h
    exact h l H (Ext.refl ..) hx
  · exact h p _ (Ext.new np) upd_same
end TupX
end

-- MinT
section
set_option Elab.async false
set_option linter.all false
set_option maxRecDepth 100000
set_option maxHeartbeats 4000000
/-! MinT: min(l), min(l, default=d), l a list of tuples of numbers. -/
namespace MinX
open PySem PySem.Spec PyProof.Rows L2 NdefX R TupX
abbrev ltL (a b : List Int) : Bool := PySem.W.listLt a b
theorem lt_cons (x y : Int) (a b : List Int) : ltL (x :: a) (y :: b) = if x = y then ltL a b else decide (x < y) := rfl
theorem lt_nil (a : List Int) : ltL a [] = false := by cases a <;> rfl
theorem ltL_total : ∀ a b : List Int, ltL a b = false → ltL b a = false → a = b
  | [], [], _, _ => rfl
  | [], y :: b, h, _ => by cases h
  | x :: a, [], _, h => by cases h
  | x :: a, y :: b, h1, h2 => by
    rw [lt_cons] at h1 h2
    by_cases e : x = y
    · subst e
      rw [if_pos rfl] at h1 h2
      rw [ltL_total a b h1 h2]
    · rw [if_neg e] at h1
      rw [if_neg (fun z => e z.symm)] at h2
      have h1 := of_decide_eq_false h1
      have h2 := of_decide_eq_false h2
      omega
theorem ltL_trans : ∀ a b c : List Int, ltL a b = true → ltL b c = true → ltL a c = true
  | a, b, [], _, h => by rw [lt_nil] at h; cases h
  | a, [], z :: c, h, _ => by rw [lt_nil] at h; cases h
  | [], y :: b, z :: c, _, _ => rfl
  | x :: a, y :: b, z :: c, h1, h2 => by
    rw [lt_cons] at h1 h2 ⊢
    by_cases e : x = y
    · subst e
      rw [if_pos rfl] at h1
      by_cases e2 : x = z
      · subst e2
        rw [if_pos rfl] at h2 ⊢
        exact ltL_trans a b c h1 h2
      · rw [if_neg e2] at h2 ⊢
        exact h2
    · rw [if_neg e] at h1
      have h1 := of_decide_eq_true h1
      by_cases e2 : y = z
      · subst e2
        rw [if_neg e]
        exact decide_eq_true h1
      · rw [if_neg e2] at h2
        have h2 := of_decide_eq_true h2
        rw [if_neg (by omega)]
        exact decide_eq_true (by omega)
theorem ltL_irr : ∀ a : List Int, ltL a a = false
  | [] => rfl
  | x :: a => by rw [lt_cons, if_pos rfl, ltL_irr a]
structure Least (m : List Int) (L : List (List Int)) : Prop where
  mem : m ∈ L
  le : ∀ r ∈ L, ltL r m = false
theorem Least.same {m m' : List Int} {L L' : List (List Int)} (h : Least m L) (h' : Least m' L') (s : ∀ x, x ∈ L ↔ x ∈ L') : m = m' :=
  ltL_total m m' (h'.le m ((s m).mp h.mem)) (h.le m' ((s m').mpr h'.mem))
abbrev TI := PySem.W.Tup Int
theorem min_least : ∀ (L : List (List Int)) (x : List Int), Least (PySem.W.minOf (⟨x⟩ : TI) (L.map PySem.W.Tup.mk)).items (x :: L)
  | [], x => ⟨List.mem_singleton.mpr rfl, fun r hr => by
    have e : r = x := List.mem_singleton.mp hr
    rw [e]
    exact ltL_irr x⟩
  | y :: L, x => by
    show Least (PySem.W.minOf (if ltL y x = true then (⟨y⟩ : TI) else ⟨x⟩) (L.map PySem.W.Tup.mk)).items _
    by_cases c : ltL y x = true
    · rw [if_pos c]
      obtain ⟨h1, h2⟩ := min_least L y
      refine ⟨List.mem_cons_of_mem _ h1, fun r hr => ?_⟩
      rcases List.mem_cons.mp hr with z | z
      · rw [z]
        cases e : ltL x (PySem.W.minOf (⟨y⟩ : TI) (L.map PySem.W.Tup.mk)).items with
        | false => rfl
        | true =>
          have := ltL_trans _ _ _ c e
          rw [h2 y List.mem_cons_self] at this
          cases this
      · exact h2 r z
    · rw [if_neg c]
      obtain ⟨h1, h2⟩ := min_least L x
      refine ⟨?_, fun r hr => ?_⟩
      · rcases List.mem_cons.mp h1 with z | z
        · rw [z]; exact List.mem_cons_self
        · exact List.mem_cons_of_mem _ (List.mem_cons_of_mem _ z)
      · rcases List.mem_cons.mp hr with z | z
        · rw [z]
          exact h2 x List.mem_cons_self
        · rcases List.mem_cons.mp z with z | z
          · rw [z]
            cases e : ltL y (PySem.W.minOf (⟨x⟩ : TI) (L.map PySem.W.Tup.mk)).items with
            | false => rfl
            | true =>
              have c : ltL y x = false := by simpa using c
              rcases List.mem_cons.mp h1 with z | z
              · rw [z, c] at e; cases e
              · -- least is not x: then least ≤ x, r < least, so r < x
                cases e2 : ltL x (PySem.W.minOf (⟨x⟩ : TI) (L.map PySem.W.Tup.mk)).items with
                | true => rw [h2 x List.mem_cons_self] at e2; cases e2
                | false =>
                  cases e3 : ltL (PySem.W.minOf (⟨x⟩ : TI) (L.map PySem.W.Tup.mk)).items x with
                  | true =>
                    rw [ltL_trans _ _ _ e e3] at c
                    cases c
                  | false =>
                    rw [← ltL_total _ _ e2 e3, c] at e
                    cases e
          · exact h2 r (List.mem_cons_of_mem _ z)
theorem lay_row : ∀ s : List Int, PyData.canLayAll0 (s.map PyData.int) = true
  | [] => by simp [PyData.canLayAll0]
  | m :: s => by
    have := lay_row s
    simp [PyData.canLayAll0, PyData.canLay0, this]
theorem lay_one (s : List Int) : PyData.canLayAll0 [rowI s] = true := by
  simp [rowI, PyData.canLay0, PyData.canLayAll0, lay_row]
theorem reads_one {h : Heap} {v : Value} {d : PyData} {as : List Addr} (r : Reads h v d as) (c : PyData.canLayAll0 [d] = true) : SeqAt.readOf h v = d := by
  have := SeqAt.readsAll_map [d] [v] _ c (ReadsAll.cons r .nil)
  exact (List.cons.inj this).1
theorem toD_map : ∀ L : List (List Int), (L.map (PySem.W.Tup.mk : List Int → TI)).map PySem.W.Datum.toD = rowsI' L
  | [] => rfl
  | r :: L => by
    have := toD_map L
    rw [List.map_cons, List.map_cons, this] <;> rfl
def rMinT (K : PySem.W.Frag) : List V → Hp → VK → Prop := fun vs H Q => ∃ (a : Addr) (xs : List V) (L : List (List Int)), vs = [.ref a] ∧ SqL K H a xs ∧ Tps H xs (rowsI' L) ∧ L ≠ [] ∧
  ∀ x m, x ∈ xs → Tp H x (rowI m) → Least m L → Q x H
def rMinDT (K : PySem.W.Frag) : List V → List V → Hp → VK → Prop := fun vs zs H Q => ∃ (a : Addr) (xs : List V) (L : List (List Int)) (d : V), vs = [.ref a] ∧ zs = [d] ∧ SqL K H a xs ∧ Tps H xs (rowsI' L) ∧
  (L = [] → Q d H) ∧ ∀ x m, x ∈ xs → Tp H x (rowI m) → Least m L → Q x H
section
variable {X : Cx}
theorem room_min (hu : X.A.units + 65 < cLine) : X.A.units + 1 + PySem.W.Datum.depth TI < cLine := by
  have : PySem.W.Datum.depth TI ≤ 10 := by decide
  omega
theorem pick {pins : List (Addr × Obj)} {σ : L2.St} {H : Hp} {s : Shared} {xs : List V} {its : List Value} {y : List Int} {L : List (List Int)} {Q : VK} {i : Nat} {v : Value} {h' : Heap} {tk : Nat}
    (I : Inv X pins σ H s) (rv : Vals xs its) (ht : Tps H xs (rowsI' (y :: L))) (q : ∀ x m, x ∈ xs → Tp H x (rowI m) → Least m (y :: L) → Q x H)
    (hi : its.toArray[i]? = some v) (hv : PySem.W.Holds h' v (PySem.W.minOf (⟨y⟩ : TI) (L.map PySem.W.Tup.mk))) (hk : ∀ b o, s.heap.get? b = some o → h'.get? b = some o) : EP X pins σ Q v { s with heap := h', toks := tk } := by
  have hi : its[i]? = some v := by simpa using hi
  have hil := (List.getElem?_eq_some_iff.mp hi).1
  have hxl : i < xs.length := by rw [rv.length]; exact hil
  obtain ⟨u, hu, ru⟩ := rv.get (List.getElem?_eq_getElem hxl)
  rw [hi] at hu
  cases hu
  obtain ⟨d, hd, htp⟩ := ht.get (List.getElem?_eq_getElem hxl)
  have hd2 : ∃ r, (y :: L)[i]? = some r ∧ d = rowI r := by
    unfold rowsI' at hd
    rw [List.getElem?_map] at hd
    cases e : (y :: L)[i]? with
    | none => rw [e] at hd; cases hd
    | some r => rw [e] at hd; cases hd; exact ⟨r, rfl, rfl⟩
  obtain ⟨r, hr, rfl⟩ := hd2
  obtain ⟨as, r1⟩ := Dp.reads I (rowI r) _ v htp.dp ru
  obtain ⟨bs, r2⟩ := hv
  have e1 := reads_one (Reads.keeps hk r1) (lay_one r)
  have e2 := reads_one r2 (lay_one _)
  have e3 : rowI r = rowI (PySem.W.minOf (⟨y⟩ : TI) (L.map PySem.W.Tup.mk)).items := e1.symm.trans e2
  refine ⟨xs[i], H, I.kept hk, ru, q _ _ (List.getElem_mem hxl) ?_ (min_least L y)⟩
  rw [← e3]
  exact htp
theorem cr_minT (hc : X.calm = true) (hu : X.A.units + 65 < cLine) : CallR X (.builtin "min") (rMinT X.K) := by
  intro pins s σ H vs us Q I r h
  obtain ⟨a, xs, L, rfl, hs, ht, hne, q⟩ := h
  obtain ⟨its, rv, hl, _⟩ := I.list hs
  rw [Vals.ref1 r]
  cases L with
  | nil => exact absurd rfl hne
  | cons y L =>
    obtain ⟨as, ra⟩ := Dp.readsAll I _ _ its ht.dp rv
    exact PySem.W.min_list_datum (α := TI) (x := ⟨y⟩) (xs := L.map PySem.W.Tup.mk) (I.ok.hd hc) hl.isList ⟨as, by rw [show ((⟨y⟩ : TI) :: L.map PySem.W.Tup.mk) = (y :: L).map PySem.W.Tup.mk from rfl, toD_map]; simpa using ra⟩ (room_min hu)
      fun i v h' tk hi hv hk => pick I rv ht q hi hv hk
theorem cr_minDT (hc : X.calm = true) (hu : X.A.units + 65 < cLine) : CallRK X (.builtin "min") ["default"] (rMinDT X.K) := by
  intro pins s σ H vs zs us ws Q I r rz h
  obtain ⟨a, xs, L, d, rfl, rfl, hs, ht, q0, q⟩ := h
  obtain ⟨its, rv, hl, _⟩ := I.list hs
  rw [Vals.ref1 r]
  cases rz with
  | cons rd rn =>
    cases rn
    obtain ⟨as, ra⟩ := Dp.readsAll I _ _ its ht.dp rv
    refine PySem.W.min_list_datum_default (α := TI) (xs := L.map PySem.W.Tup.mk) (I.ok.hd hc) hl.isList ⟨as, by rw [toD_map]; simpa using ra⟩ (room_min hu) (fun e h' tk hk => ?_) fun y ys i v h' tk e hi hv hk => ?_
    · exact ⟨d, H, I.kept hk, rd, q0 (List.map_eq_nil_iff.mp e)⟩
    · cases L with
      | nil => cases e
      | cons y L =>
        cases e
        exact pick I rv ht q hi hv hk
end
end MinX
end

-- CoreM
section
set_option Elab.async false
set_option linter.all false
set_option maxRecDepth 100000
set_option maxHeartbeats 4000000
/-! CoreM: rows round a ring, like neighbours struck out: the mathematics. -/
namespace CoreX
open MinX
/-- a letter put ahead of a row without like neighbours -/
def lm (a : Int) : List Int → List Int
  | [] => [a]
  | b :: r => if a = b then r else a :: b :: r
/-- .. behind it -/
def rm (a : Int) : List Int → List Int
  | [] => [a]
  | [b] => if b = a then [] else [b, a]
  | b :: c :: r => b :: rm a (c :: r)
def nf : List Int → List Int
  | [] => []
  | a :: w => lm a (nf w)
def Red : List Int → Prop
  | [] => True
  | [_] => True
  | a :: b :: r => a ≠ b ∧ Red (b :: r)
theorem Red.tail {a : Int} {r : List Int} (h : Red (a :: r)) : Red r := by
  cases r with
  | nil => trivial
  | cons b r => exact h.2
theorem lm_red (a : Int) : ∀ {st : List Int}, Red st → Red (lm a st)
  | [], _ => trivial
  | b :: r, h => by
    show Red (if a = b then r else a :: b :: r)
    by_cases e : a = b
    · rw [if_pos e]; exact h.tail
    · rw [if_neg e]; exact ⟨e, h⟩
theorem nf_red : ∀ w : List Int, Red (nf w)
  | [] => trivial
  | a :: w => lm_red a (nf_red w)
theorem lm_twice (a : Int) : ∀ {st : List Int}, Red st → lm a (lm a st) = st
  | [], _ => by simp [lm]
  | b :: r, h => by
    show lm a (if a = b then r else a :: b :: r) = b :: r
    by_cases e : a = b
    · subst e
      rw [if_pos rfl]
      cases r with
      | nil => rfl
      | cons c r => exact if_neg h.1
    · rw [if_neg e]
      exact if_pos rfl
theorem nf_app : ∀ (u v v' : List Int), nf v = nf v' → nf (u ++ v) = nf (u ++ v')
  | [], _, _, h => h
  | a :: u, v, v', h => congrArg (lm a) (nf_app u v v' h)
/-- two like neighbours struck out -/
theorem nf_strike (u v : List Int) (a : Int) : nf (u ++ a :: a :: v) = nf (u ++ v) := nf_app u _ _ (lm_twice a (nf_red v))
theorem rm_lm (a b : Int) : ∀ st : List Int, rm b (lm a st) = lm a (rm b st)
  | [] => by
    show (if a = b then [] else [a, b]) = (if a = b then [] else [a, b])
    rfl
  | [c] => by
    show rm b (if a = c then [] else [a, c]) = lm a (if c = b then [] else [c, b])
    by_cases h1 : a = c
    · subst h1
      rw [if_pos rfl]
      by_cases h2 : a = b
      · subst h2; rw [if_pos rfl] <;> rfl
      · rw [if_neg h2]
        show [b] = if a = a then [b] else [a, a, b]
        rw [if_pos rfl]
    · rw [if_neg h1]
      show a :: (if c = b then [] else [c, b]) = _
      by_cases h2 : c = b
      · rw [if_pos h2] <;> rfl
      · rw [if_neg h2]
        show _ = if a = c then [b] else [a, c, b]
        rw [if_neg h1]
  | c :: d :: r => by
    show rm b (if a = c then d :: r else a :: c :: d :: r) = (if a = c then rm b (d :: r) else a :: c :: rm b (d :: r))
    by_cases h : a = c
    · rw [if_pos h, if_pos h]
    · rw [if_neg h, if_neg h] <;> rfl
theorem nf_snoc (b : Int) : ∀ w : List Int, nf (w ++ [b]) = rm b (nf w)
  | [] => rfl
  | a :: w => by
    show lm a (nf (w ++ [b])) = rm b (lm a (nf w))
    rw [nf_snoc b w, rm_lm]
theorem lm_len (a : Int) : ∀ st : List Int, (lm a st).length % 2 = (st.length + 1) % 2
  | [] => rfl
  | b :: r => by
    show (if a = b then r else a :: b :: r).length % 2 = _
    split <;> simp only [List.length_cons] <;> omega
theorem nf_len : ∀ w : List Int, (nf w).length % 2 = w.length % 2
  | [] => rfl
  | a :: w => by
    have h1 := nf_len w
    have h2 := lm_len a (nf w)
    show (lm a (nf w)).length % 2 = (w.length + 1) % 2
    omega
/-! ### like ends struck out -/
def Ends (st : List Int) : Prop := 2 ≤ st.length ∧ st.head? = st.getLast?
instance (st : List Int) : Decidable (Ends st) := by unfold Ends; exact inferInstance
/-- how often both ends are struck, and what is left -/
inductive Trim : Nat → List Int → List Int → Prop
  | stop {st : List Int} : ¬ Ends st → Trim 0 st st
  | step {t : Nat} {a : Int} {st c : List Int} : Trim t st c → Trim (t + 1) (a :: (st ++ [a])) c
theorem ends_of (a : Int) (st : List Int) : Ends (a :: (st ++ [a])) := by
  refine ⟨by simp, ?_⟩
  rw [List.head?_cons, show a :: (st ++ [a]) = (a :: st) ++ [a] from rfl, List.getLast?_append]
  rfl
theorem Trim.det {t t' : Nat} {st c c' : List Int} (h : Trim t st c) : Trim t' st c' → t = t' ∧ c = c' := by
  induction h generalizing t' c' with
  | stop n =>
    intro h'
    cases h' with
    | stop _ => exact ⟨rfl, rfl⟩
    | step h => exact absurd (ends_of _ _) n
  | @step t a st c h ih =>
    intro h'
    generalize e : a :: (st ++ [a]) = w at h'
    cases h' with
    | stop n => rw [← e] at n; exact absurd (ends_of _ _) n
    | @step t2 a2 st2 c2 h2 =>
      injection e with e1 e2
      subst e1
      have e3 : st = st2 := by
        have := congrArg List.dropLast e2
        rwa [List.dropLast_concat, List.dropLast_concat] at this
      subst e3
      obtain ⟨h3, h4⟩ := ih h2
      exact ⟨congrArg (· + 1) h3, h4⟩
theorem ends_split {st : List Int} (h : Ends st) : ∃ (a : Int) (m : List Int), st = a :: (m ++ [a]) := by
  obtain ⟨h1, h2⟩ := h
  cases st with
  | nil => simp at h1
  | cons a r =>
    rcases List.eq_nil_or_concat r with e | ⟨m, b, e⟩
    · subst e; simp at h1
    · subst e
      rw [List.concat_eq_append] at h2 ⊢
      rw [List.head?_cons, show a :: (m ++ [b]) = (a :: m) ++ [b] from rfl, List.getLast?_append] at h2
      have : a = b := Option.some.inj h2
      subst this
      exact ⟨a, m, rfl⟩
theorem trim_ex : ∀ (n : Nat) (st : List Int), st.length ≤ n → ∃ t c, Trim t st c
  | n, st, h => by
    by_cases e : Ends st
    · obtain ⟨a, m, rfl⟩ := ends_split e
      cases n with
      | zero => simp at h
      | succ n =>
        have : m.length ≤ n := by simp at h; omega
        obtain ⟨t, c, q⟩ := trim_ex n m this
        exact ⟨t + 1, c, .step q⟩
    · exact ⟨0, st, .stop e⟩
/-! ### readings -/
def rot (c : List Int) (j : Nat) : List Int := c.drop j ++ c.take j
def Rd (odd : Bool) (s : Nat) (c x : List Int) : Prop := ∃ j, j < c.length ∧ (odd = true ∨ (s + j) % 2 = 0) ∧ x = rot c j
theorem Rd.par {odd : Bool} {s s' : Nat} {c x : List Int} (h : s % 2 = s' % 2) : Rd odd s c x ↔ Rd odd s' c x := by
  constructor
  · rintro ⟨j, h1, h2 | h2, h3⟩
    · exact ⟨j, h1, .inl h2, h3⟩
    · exact ⟨j, h1, .inr (by omega), h3⟩
  · rintro ⟨j, h1, h2 | h2, h3⟩
    · exact ⟨j, h1, .inl h2, h3⟩
    · exact ⟨j, h1, .inr (by omega), h3⟩
theorem Rd.odd {s s' : Nat} {c x : List Int} : Rd true s c x ↔ Rd true s' c x := by
  constructor <;> (rintro ⟨j, h1, _, h3⟩; exact ⟨j, h1, .inl rfl, h3⟩)
theorem rot_next (a : Int) (r : List Int) {j : Nat} (h : j ≤ r.length) : rot (r ++ [a]) j = rot (a :: r) (j + 1) := by
  unfold rot
  rw [List.drop_succ_cons, List.take_succ_cons, List.drop_append_of_le_length h, List.take_append_of_le_length h, List.append_assoc] <;> rfl
theorem rot_zero (c : List Int) : rot c 0 = c := by simp [rot]
theorem rot_all (c : List Int) : rot c c.length = c := by simp [rot]
/-- a row read from its second letter on -/
theorem Rd.turn {odd : Bool} {s : Nat} {a : Int} {r x : List Int} (ev : odd = true ∨ (r.length + 1) % 2 = 0) : Rd odd s (r ++ [a]) x ↔ Rd odd (s + 1) (a :: r) x := by
  constructor
  · rintro ⟨j, h1, h2, rfl⟩
    rw [List.length_append] at h1
    have h1 : j ≤ r.length := Nat.lt_succ_iff.mp h1
    rw [rot_next a r h1]
    by_cases e : j = r.length
    · subst e
      refine ⟨0, by simp, ?_, ?_⟩
      · rcases h2 with h2 | h2
        · exact .inl h2
        · rcases ev with ev | ev
          · exact .inl ev
          · exact .inr (by omega)
      · rw [rot_zero, show r.length + 1 = (a :: r).length from rfl, rot_all]
    · refine ⟨j + 1, by rw [List.length_cons]; omega, ?_, rfl⟩
      rcases h2 with h2 | h2
      · exact .inl h2
      · exact .inr (by omega)
  · rintro ⟨j, h1, h2, rfl⟩
    rw [List.length_cons] at h1
    cases j with
    | zero =>
      refine ⟨r.length, by rw [List.length_append]; exact Nat.lt_succ_self _, ?_, ?_⟩
      · rcases h2 with h2 | h2
        · exact .inl h2
        · rcases ev with ev | ev
          · exact .inl ev
          · exact .inr (by omega)
      · rw [rot_next a r (Nat.le_refl _), rot_zero, show r.length + 1 = (a :: r).length from rfl, rot_all]
    | succ j =>
      refine ⟨j, by rw [List.length_append]; simp only [List.length_cons, List.length_nil]; omega, ?_, (rot_next a r (by omega)).symm⟩
      rcases h2 with h2 | h2
      · exact .inl h2
      · exact .inr (by omega)
end CoreX
end

-- CoreN
section
set_option Elab.async false
set_option linter.all false
set_option maxRecDepth 100000
set_option maxHeartbeats 4000000
/-! CoreN: striking like neighbours, round the ring, leaves the readings. -/
namespace CoreX
open MinX
theorem rm_concat (a b : Int) : ∀ m : List Int, rm a (m ++ [b]) = if b = a then m else m ++ [b, a]
  | [] => rfl
  | c :: m => by
    have ih := rm_concat a b m
    cases hm : m ++ [b] with
    | nil => simp at hm
    | cons d r =>
      rw [hm] at ih
      show rm a (c :: (m ++ [b])) = _
      rw [hm]
      show c :: rm a (d :: r) = _
      rw [ih]
      split <;> rfl
theorem no_ends {st : List Int} (h : ¬ Ends st) {t : Nat} {c : List Int} (q : Trim t st c) : t = 0 ∧ c = st := q.det (.stop h)
theorem ends_cons {a b : Int} {m : List Int} (h : a ≠ b) : ¬ Ends (a :: (m ++ [b])) := by
  intro z
  have e := z.2
  rw [List.head?_cons, show a :: (m ++ [b]) = (a :: m) ++ [b] from rfl, List.getLast?_append] at e
  exact h (Option.some.inj e)
theorem red_cons2 {a b : Int} {r : List Int} (h : Red (a :: b :: r)) : a ≠ b := h.1
theorem rm_cons (a b c : Int) (r : List Int) : rm a (b :: c :: r) = b :: rm a (c :: r) := rfl
/-- a letter ahead of a reduced row and behind it: the readings are those of the row, the other way about -/
theorem conj {odd : Bool} {s : Nat} {a : Int} {v : List Int} (hv : Red v) (ev : odd = true ∨ v.length % 2 = 0) {t t' : Nat} {c c' : List Int} (h : Trim t v c) (h' : Trim t' (lm a (rm a v)) c') (x : List Int) :
    Rd odd (s + t') c' x ↔ Rd odd (s + 1 + t) c x := by
  cases v with
  | nil =>
    have e : lm a (rm a []) = [] := by show (if a = a then [] else _) = _; rw [if_pos rfl]
    rw [e] at h'
    obtain ⟨_, rfl⟩ := no_ends (st := []) (by intro z; have := z.1; simp at this) h
    obtain ⟨_, rfl⟩ := no_ends (st := []) (by intro z; have := z.1; simp at this) h'
    constructor <;> (rintro ⟨j, h1, _⟩; simp at h1)
  | cons b r =>
    rcases List.eq_nil_or_concat r with e | ⟨m, d, e⟩
    · subst e
      have od : odd = true := by
        rcases ev with z | z
        · exact z
        · simp at z
      subst od
      obtain ⟨_, rfl⟩ := no_ends (st := [b]) (by intro z; have := z.1; simp at this) h
      by_cases e : b = a
      · subst e
        have e2 : lm b (rm b [b]) = [b] := by show lm b (if b = b then [] else _) = _; rw [if_pos rfl] <;> rfl
        rw [e2] at h'
        obtain ⟨_, rfl⟩ := no_ends (st := [b]) (by intro z; have := z.1; simp at this) h'
        exact Rd.odd
      · have e2 : lm a (rm a [b]) = a :: ([b] ++ [a]) := by
          show lm a (if b = a then [] else [b, a]) = _
          rw [if_neg e]
          exact if_neg (fun z => e z.symm)
        rw [e2] at h'
        obtain ⟨_, rfl⟩ := h'.det (.step (.stop (by intro z; have := z.1; simp at this)))
        exact Rd.odd
    · rw [List.concat_eq_append] at e
      subst e
      have e0 : rm a (b :: (m ++ [d])) = if d = a then b :: m else b :: (m ++ [d, a]) := rm_concat a d (b :: m)
      rw [e0] at h'
      by_cases e1 : a = b
      · subst e1
        by_cases e2 : d = a
        · subst e2
          rw [if_pos rfl] at h'
          have e3 : lm d (d :: m) = m := if_pos rfl
          rw [e3] at h'
          obtain ⟨t2, c2, q⟩ := trim_ex m.length m (Nat.le_refl _)
          obtain ⟨rfl, rfl⟩ := h'.det q
          obtain ⟨rfl, rfl⟩ := h.det (.step q)
          exact Rd.par (by omega)
        · rw [if_neg e2] at h'
          have e3 : lm a (a :: (m ++ [d, a])) = m ++ [d, a] := if_pos rfl
          rw [e3] at h'
          obtain ⟨rfl, rfl⟩ := no_ends (ends_cons (fun z => e2 z.symm)) h
          have n' : ¬ Ends (m ++ [d, a]) := by
            cases m with
            | nil => exact ends_cons (m := []) e2
            | cons g m =>
              have : a ≠ g := red_cons2 hv
              have q := ends_cons (a := g) (b := a) (m := m ++ [d]) (fun z => this z.symm)
              rw [List.append_assoc] at q
              exact q
          obtain ⟨rfl, rfl⟩ := no_ends n' h'
          rw [show m ++ [d, a] = (m ++ [d]) ++ [a] by rw [List.append_assoc] <;> rfl]
          refine (Rd.turn ?_).trans (Rd.par (by omega))
          rcases ev with z | z
          · exact .inl z
          · exact .inr z
      · by_cases e2 : d = a
        · subst e2
          rw [if_pos rfl] at h'
          have e3 : lm d (b :: m) = d :: b :: m := if_neg e1
          rw [e3] at h'
          obtain ⟨rfl, rfl⟩ := no_ends (ends_cons (fun z => e1 z.symm)) h
          have n' : ¬ Ends (d :: b :: m) := by
            rcases List.eq_nil_or_concat m with e | ⟨m2, g, e⟩
            · subst e; exact ends_cons (m := []) e1
            · rw [List.concat_eq_append] at e
              subst e
              have nd : ∀ (u : List Int), Red (u ++ [g] ++ [d]) → g ≠ d := by
                intro u
                induction u with
                | nil => intro q; exact red_cons2 q
                | cons y u ih => intro q; exact ih q.tail
              have q := nd (b :: m2) hv
              exact ends_cons (a := d) (b := g) (m := b :: m2) (fun z => q z.symm)
          obtain ⟨rfl, rfl⟩ := no_ends n' h'
          have tn := Rd.turn (odd := odd) (s := s + 1) (a := d) (r := b :: m) (x := x) (by
            rcases ev with z | z
            · exact .inl z
            · refine .inr ?_
              simp only [List.length_cons, List.length_append, List.length_nil] at z ⊢
              omega)
          refine (Rd.par (s' := s + 1 + 1) (by omega)).trans (tn.symm.trans (Rd.par (by omega)))
        · rw [if_neg e2] at h'
          have e3 : lm a (b :: (m ++ [d, a])) = a :: ((b :: (m ++ [d])) ++ [a]) := by
            show (if a = b then _ else a :: b :: (m ++ [d, a])) = _
            rw [if_neg e1, List.cons_append, List.append_assoc] <;> rfl
          rw [e3] at h'
          obtain ⟨rfl, rfl⟩ := h'.det (.step h)
          exact Rd.par (by omega)
/-! ### the readings of a row -/
/-- x is a reading of the row w, whose first place counts as s -/
def RdW (odd : Bool) (s : Nat) (w x : List Int) : Prop := ∃ t c, Trim t (nf w) c ∧ Rd odd (s + t) c x
theorem RdW.of {odd : Bool} {s t : Nat} {w c x : List Int} (h : Trim t (nf w) c) : RdW odd s w x ↔ Rd odd (s + t) c x := by
  constructor
  · rintro ⟨t', c', h', q⟩
    obtain ⟨rfl, rfl⟩ := h.det h'
    exact q
  · exact fun q => ⟨t, c, h, q⟩
theorem RdW.par {odd : Bool} {s s' : Nat} {w x : List Int} (h : s % 2 = s' % 2) : RdW odd s w x ↔ RdW odd s' w x := by
  constructor
  · rintro ⟨t, c, q, r⟩; exact ⟨t, c, q, (Rd.par (by omega)).mp r⟩
  · rintro ⟨t, c, q, r⟩; exact ⟨t, c, q, (Rd.par (by omega)).mp r⟩
theorem RdW.odd {s s' : Nat} {w x : List Int} : RdW true s w x ↔ RdW true s' w x := by
  constructor
  · rintro ⟨t, c, q, r⟩; exact ⟨t, c, q, Rd.odd.mp r⟩
  · rintro ⟨t, c, q, r⟩; exact ⟨t, c, q, Rd.odd.mp r⟩
theorem RdW.strike {odd : Bool} {s : Nat} {x : List Int} (u v : List Int) (a : Int) : RdW odd s (u ++ a :: a :: v) x ↔ RdW odd s (u ++ v) x := by
  unfold RdW
  rw [nf_strike]
theorem RdW.ends {odd : Bool} {s : Nat} {x : List Int} (w : List Int) (a : Int) (ev : odd = true ∨ w.length % 2 = 0) : RdW odd s (a :: (w ++ [a])) x ↔ RdW odd (s + 1) w x := by
  obtain ⟨t, c, h⟩ := trim_ex _ (nf w) (Nat.le_refl _)
  obtain ⟨t', c', h'⟩ := trim_ex _ (nf (a :: (w ++ [a]))) (Nat.le_refl _)
  rw [RdW.of h, RdW.of h']
  have e : nf (a :: (w ++ [a])) = lm a (rm a (nf w)) := congrArg (lm a) (nf_snoc a w)
  rw [e] at h'
  refine conj (nf_red w) ?_ h h' x
  rcases ev with z | z
  · exact .inl z
  · exact .inr (by rw [nf_len]; exact z)
theorem RdW.turn {odd : Bool} {s : Nat} {x : List Int} (u : List Int) (a : Int) (ev : odd = true ∨ (u.length + 1) % 2 = 0) : RdW odd s (a :: u) x ↔ RdW odd (s + 1) (u ++ [a]) x := by
  have h1 := RdW.ends (odd := odd) (s := s) (x := x) (u ++ [a]) a (by
    rcases ev with z | z
    · exact .inl z
    · exact .inr (by rw [List.length_append]; exact z))
  have h2 : nf (a :: (u ++ [a] ++ [a])) = nf (a :: u) := by
    have := nf_strike (a :: u) [] a
    rw [List.append_nil] at this
    rw [← this, List.append_assoc] <;> rfl
  refine Iff.trans ?_ h1
  unfold RdW
  rw [h2]
/-- read from another letter on -/
theorem RdW.rot {odd : Bool} {x : List Int} : ∀ (j : Nat) (s : Nat) (w : List Int), j ≤ w.length → (odd = true ∨ w.length % 2 = 0) → (RdW odd s w x ↔ RdW odd (s + j) (CoreX.rot w j) x)
  | 0, s, w, _, _ => by rw [rot_zero, Nat.add_zero]
  | j + 1, s, w, h, ev => by
    cases w with
    | nil => simp at h
    | cons a u =>
      have hj : j ≤ u.length := by simp at h; exact h
      have h1 := RdW.turn (odd := odd) (s := s) (x := x) u a ev
      have h2 := RdW.rot (odd := odd) (x := x) j (s + 1) (u ++ [a]) (by rw [List.length_append]; omega) (by rw [List.length_append]; exact ev)
      rw [rot_next a u hj] at h2
      refine h1.trans (h2.trans ?_)
      rw [show s + 1 + j = s + (j + 1) by omega]
/-! ### the core: the least reading, nothing where there is none -/
def IsCore (odd : Bool) (s : Nat) (w m : List Int) : Prop := ((∀ x, ¬ RdW odd s w x) ∧ m = []) ∨ ∃ L, (∀ x, x ∈ L ↔ RdW odd s w x) ∧ Least m L
theorem IsCore.same {odd odd' : Bool} {s s' : Nat} {w w' m m' : List Int} (h : IsCore odd s w m) (h' : IsCore odd' s' w' m') (e : ∀ x, RdW odd s w x ↔ RdW odd' s' w' x) : m = m' := by
  rcases h with ⟨n, rfl⟩ | ⟨L, hL, l⟩
  · rcases h' with ⟨_, rfl⟩ | ⟨L', hL', l'⟩
    · rfl
    · exact absurd ((e _).mpr ((hL' _).mp l'.mem)) (n _)
  · rcases h' with ⟨n', rfl⟩ | ⟨L', hL', l'⟩
    · exact absurd ((e _).mp ((hL _).mp l.mem)) (n' _)
    · exact l.same l' fun x => (hL x).trans ((e x).trans (hL' x).symm)
end CoreX
end

-- TupCut
section
set_option Elab.async false
set_option linter.all false
set_option maxRecDepth 100000
set_option maxHeartbeats 4000000
/-! TupCut: t[:n], t[n:], t a tuple, whether the whole or a part. -/
namespace TupX
open PySem PySem.Spec PyProof.Rows L2 NdefX R
theorem cut_to (xs : List V) (m : Nat) : cutV xs none (some (m : Int)) = xs.take m := by
  unfold cutV
  rw [HT.sIx_nat, HT.sIx_none, List.drop_zero, Nat.sub_zero]
  rcases Nat.le_total m xs.length with h | h
  · rw [Nat.min_eq_left h]
  · rw [Nat.min_eq_right h, List.take_of_length_le (Nat.le_refl _), List.take_of_length_le h]
theorem cut_from (xs : List V) (m : Nat) : cutV xs (some (m : Int)) none = xs.drop m := by
  unfold cutV
  rw [HT.sIx_nat, HT.sIx_none]
  rcases Nat.le_total m xs.length with h | h
  · rw [Nat.min_eq_left h, List.take_of_length_le (by rw [List.length_drop]; exact Nat.le_refl _)]
  · rw [Nat.min_eq_right h, List.drop_of_length_le (Nat.le_refl _), List.drop_of_length_le h, List.take_nil]
theorem sl_any {K : PySem.W.Frag} {TT : List NTab} {H : Hp} {l : Addr} {xs : List V} {lo hi : Option Int} {Q : VK} (hx : H l = some (.tup xs))
    (h : ∀ q G, Ext TT none H G → G q = some (.tup (cutV xs lo hi)) → Q (.ref q) G) : rSlA K (.ref l) lo hi H Q := by
  refine ⟨l, xs, rfl, SqT.of hx, fun e => h l H (Ext.refl ..) ?_, fun _ p np => h p _ (Ext.new np) upd_same⟩
  have e2 : cutV xs lo hi = xs := by
    unfold cutV
    rw [e.1, e.2, List.drop_zero, Nat.sub_zero, List.take_of_length_le (Nat.le_refl _)]
  rw [e2]
  exact hx
end TupX
end

-- Grid
section
set_option Elab.async false
set_option linter.all false
set_option maxRecDepth 100000
set_option maxHeartbeats 4000000
/-! Grid: a list of lists of numbers, changed in place. -/
namespace GridX
open PySem PySem.Spec PyProof.Rows L2 NdefX R
def nV (n : Nat) : V := .int (n : Int)
def rowV (W : Nat) (g : Nat → Nat) : List V := (List.range W).map fun m => nV (g m)
theorem row_len (W : Nat) (g : Nat → Nat) : (rowV W g).length = W := by unfold rowV; simp
theorem row_at {W m : Nat} (g : Nat → Nat) (h : m < W) : (rowV W g)[m]? = some (nV (g m)) := by
  unfold rowV
  rw [List.getElem?_map, List.getElem?_range h] <;> rfl
theorem row_atI {W m : Nat} (g : Nat → Nat) (h : m < W) : atI (rowV W g) (m : Int) = some (nV (g m)) := atI_nat (row_at g h)
theorem row_succ (W : Nat) (g : Nat → Nat) : rowV W g ++ [nV (g W)] = rowV (W + 1) g := by
  unfold rowV
  rw [List.range_succ, List.map_append] <;> rfl
theorem row_congr {W : Nat} {g g' : Nat → Nat} (h : ∀ m, m < W → g m = g' m) : rowV W g = rowV W g' := by
  unfold rowV
  refine List.map_congr_left fun m hm => ?_
  rw [h m (List.mem_range.mp hm)]
theorem row_set {W m : Nat} (g : Nat → Nat) (v : Nat) (h : m < W) : (rowV W g).set m (nV v) = rowV W (fun x => if x = m then v else g x) := by
  apply List.ext_getElem?
  intro i
  by_cases hi : i < W
  · rw [row_at _ hi, List.getElem?_set]
    by_cases e : m = i
    · subst e
      rw [if_pos rfl, if_pos (by rw [row_len]; exact hi), if_pos rfl]
    · rw [if_neg e, row_at _ hi, if_neg (fun z => e z.symm)]
  · rw [List.getElem?_eq_none (by rw [List.length_set, row_len]; omega), List.getElem?_eq_none (by rw [row_len]; omega)]
theorem ixN_nat {n m : Nat} (h : m < n) : ixN n (m : Int) = some m := by
  unfold ixN
  rw [if_pos (by omega), if_pos (by omega)]
  simp
structure Grid (H : Hp) (a : Addr) (R W : Nat) (f : Nat → Nat → Nat) (ads : List Addr) : Prop where
  top : H a = some (.lst (ads.map V.ref))
  len : ads.length = R
  row : ∀ p r, ads[p]? = some r → H r = some (.lst (rowV W (f p)))
  nd : ads.Nodup
  out : a ∉ ads
theorem Grid.ext {TT : List NTab} {H H1 : Hp} {a : Addr} {R W : Nat} {f : Nat → Nat → Nat} {ads : List Addr} (g : Grid H a R W f ads) (x : Ext TT none H H1) : Grid H1 a R W f ads :=
  ⟨x.lst g.top, g.len, fun p r h => x.lst (g.row p r h), g.nd, g.out⟩
theorem Grid.congr {H : Hp} {a : Addr} {R W : Nat} {f f' : Nat → Nat → Nat} {ads : List Addr} (g : Grid H a R W f ads) (h : ∀ p m, p < R → m < W → f p m = f' p m) : Grid H a R W f' ads :=
  ⟨g.top, g.len, fun p r e => by
    have hp : p < R := by
      rw [← g.len]
      exact (List.getElem?_eq_some_iff.mp e).1
    rw [g.row p r e, row_congr fun m hm => h p m hp hm], g.nd, g.out⟩
/-- where the row p stands -/
theorem Grid.at {H : Hp} {a : Addr} {R W : Nat} {f : Nat → Nat → Nat} {ads : List Addr} (g : Grid H a R W f ads) {p : Nat} (h : p < R) : ∃ r, ads[p]? = some r ∧ atI (ads.map V.ref) (p : Int) = some (.ref r) ∧ H r = some (.lst (rowV W (f p))) ∧ r ∈ ads := by
  have hl : p < ads.length := by rw [g.len]; exact h
  refine ⟨ads[p], List.getElem?_eq_getElem hl, atI_nat ?_, g.row p _ (List.getElem?_eq_getElem hl), List.getElem_mem hl⟩
  rw [List.getElem?_map, List.getElem?_eq_getElem hl] <;> rfl
theorem Grid.put {H : Hp} {a r : Addr} {R W p m : Nat} {f : Nat → Nat → Nat} {ads : List Addr} (g : Grid H a R W f ads) (hp : ads[p]? = some r) (hm : m < W) (v : Nat) :
    Grid (upd H r (.lst ((rowV W (f p)).set m (nV v)))) a R W (fun p' m' => if p' = p ∧ m' = m then v else f p' m') ads := by
  have hr : r ∈ ads := List.mem_of_getElem? hp
  refine ⟨?_, g.len, fun p' r' e => ?_, g.nd, g.out⟩
  · rw [upd_ne (fun z => g.out (by rw [z]; exact hr))]
    exact g.top
  · by_cases ep : p' = p
    · subst ep
      rw [hp] at e
      cases e
      rw [upd_same, row_set _ _ hm]
      refine congrArg (fun z => some (HO.lst z)) (row_congr fun x _ => ?_)
      by_cases ex : x = m
      · rw [if_pos ex, if_pos ⟨rfl, ex⟩]
      · rw [if_neg ex, if_neg (fun z => ex z.2)]
    · have ne : r' ≠ r := fun z => by
        subst z
        obtain ⟨h1, e1⟩ := List.getElem?_eq_some_iff.mp e
        obtain ⟨h2, e2⟩ := List.getElem?_eq_some_iff.mp hp
        have q := List.pairwise_iff_getElem.mp (show ads.Pairwise (· ≠ ·) from g.nd)
        rcases Nat.lt_trichotomy p' p with lt | eq | lt
        · exact q p' p h1 h2 lt (e1.trans e2.symm)
        · exact ep eq
        · exact q p p' h2 h1 lt (e2.trans e1.symm)
      rw [upd_ne ne, g.row p' r' e]
      refine congrArg (fun z => some (HO.lst z)) (row_congr fun x _ => ?_)
      rw [if_neg (fun z => ep z.1)]
theorem Grid.push {H : Hp} {a r : Addr} {R W : Nat} {f : Nat → Nat → Nat} {ads : List Addr} (g : Grid H a R W f ads) (hn : r ∉ ads) (ha : r ≠ a) (hr : H r = some (.lst (rowV W (f R)))) :
    Grid (upd H a (.lst (ads.map V.ref ++ [.ref r]))) a (R + 1) W f (ads ++ [r]) := by
  refine ⟨?_, by rw [List.length_append, g.len] <;> rfl, fun p r' e => ?_, ?_, ?_⟩
  · rw [upd_same, List.map_append] <;> rfl
  · by_cases hp : p < ads.length
    · rw [List.getElem?_append_left hp] at e
      rw [upd_ne (fun z => g.out (by rw [← z]; exact List.mem_of_getElem? e))]
      exact g.row p r' e
    · have hp2 : p < (ads ++ [r]).length := (List.getElem?_eq_some_iff.mp e).1
      rw [List.length_append] at hp2
      have : p = ads.length := by simp only [List.length_cons, List.length_nil] at hp2; omega
      subst this
      rw [List.getElem?_append_right (Nat.le_refl _), Nat.sub_self] at e
      cases e
      rw [upd_ne ha, g.len]
      exact hr
  · rw [List.nodup_append]
    refine ⟨g.nd, by simp, fun x hx y hy z => ?_⟩
    cases List.mem_singleton.mp hy
    subst z
    exact hn hx
  · intro z
    rcases List.mem_append.mp z with z | z
    · exact g.out z
    · exact ha (List.mem_singleton.mp z).symm
end GridX
end

-- Places
section
set_option Elab.async false
set_option linter.all false
set_option maxRecDepth 100000
set_option maxHeartbeats 4000000
namespace R
open PySem PySem.Spec PyProof.Rows L2 LamX NdefX LamP CoreX TupX
open GridX (nV)
/-! the places that are left when like neighbours are struck, and like ends -/
def lets (w : List Int) (ps : List Nat) : List Int := ps.map fun i => w.getD i 0
theorem getD_at {w : List Int} {i : Nat} (h : i < w.length) : w.getD i 0 = w[i] := by rw [List.getD_eq_getElem?_getD, List.getElem?_eq_getElem h] <;> rfl
theorem at_row {w : List Int} {i : Nat} (h : i < w.length) : atI (w.map V.int) (i : Int) = some (.int (w.getD i 0)) := by
  refine atI_nat ?_
  rw [List.getElem?_map, List.getElem?_eq_getElem h, getD_at h] <;> rfl
theorem at_last (m : List V) (x : V) : atI (m ++ [x]) (-1) = some x := by
  unfold atI ixN
  rw [if_neg (by omega), List.length_append, List.length_cons, List.length_nil, if_pos (by omega)]
  show (m ++ [x])[((-1 : Int) + ((m.length + (0 + 1) : Nat) : Int)).toNat]? = some x
  rw [show ((-1 : Int) + ((m.length + (0 + 1) : Nat) : Int)).toNat = m.length by omega, List.getElem?_append_right (Nat.le_refl _), Nat.sub_self] <;> rfl
theorem lm_le (a : Int) : ∀ st : List Int, (lm a st).length ≤ st.length + 1
  | [] => Nat.le_refl _
  | b :: r => by
    show (if a = b then r else a :: b :: r).length ≤ _
    split <;> simp only [List.length_cons] <;> omega
theorem nf_le : ∀ w : List Int, (nf w).length ≤ w.length
  | [] => Nat.le_refl _
  | a :: w => by
    have h1 := nf_le w
    have h2 := lm_le a (nf w)
    show (lm a (nf w)).length ≤ w.length + 1
    omega
theorem lets_concat (w : List Int) (m : List Nat) (p : Nat) : lets w (m ++ [p]) = lets w m ++ [w.getD p 0] := by unfold lets; rw [List.map_append] <;> rfl
/-- the places left behind: in order, where they stand, of which sides -/
structure Pl (w : List Int) (s n : Nat) (ps : List Nat) : Prop where
  lt : ∀ p ∈ ps, p < n
  par : ∀ j p, ps[j]? = some p → p % 2 = (s + j) % 2
theorem Pl.snoc {w : List Int} {n : Nat} {ps : List Nat} (h : Pl w 0 n ps) (e : n % 2 = ps.length % 2) : Pl w 0 (n + 1) (ps ++ [n]) := by
  refine ⟨fun p hp => ?_, fun j p hj => ?_⟩
  · rcases List.mem_append.mp hp with z | z
    · exact Nat.lt_succ_of_lt (h.lt p z)
    · rw [List.mem_singleton.mp z]; omega
  · by_cases z : j < ps.length
    · rw [List.getElem?_append_left z] at hj
      exact h.par j p hj
    · have jl := (List.getElem?_eq_some_iff.mp hj).1
      rw [List.length_append] at jl
      simp only [List.length_cons, List.length_nil] at jl
      have : j = ps.length := by omega
      subst this
      rw [List.getElem?_append_right (Nat.le_refl _), Nat.sub_self] at hj
      cases hj
      omega
theorem Pl.init {w : List Int} {s n : Nat} {m : List Nat} {p : Nat} (h : Pl w s n (m ++ [p])) : Pl w s n m :=
  ⟨fun q hq => h.lt q (List.mem_append_left _ hq), fun j q hj => h.par j q (by rw [List.getElem?_append_left (List.getElem?_eq_some_iff.mp hj).1]; exact hj)⟩
theorem Pl.tail {w : List Int} {s n : Nat} {m : List Nat} {p : Nat} (h : Pl w s n (p :: m)) : Pl w (s + 1) n m :=
  ⟨fun q hq => h.lt q (List.mem_cons_of_mem _ hq), fun j q hj => by
    have := h.par (j + 1) q (by rw [List.getElem?_cons_succ]; exact hj)
    omega⟩
theorem Pl.mono {w : List Int} {s n n' : Nat} {ps : List Nat} (h : Pl w s n ps) (l : n ≤ n') : Pl w s n' ps := ⟨fun p hp => Nat.lt_of_lt_of_le (h.lt p hp) l, h.par⟩
section
variable {P : Program} {w : World} {K : PySem.W.Frag} {mg : Str → Option Value} {base : Heap}
def spPlaces (TT : List NTab) : Sp := fun vs H Q _ => ∃ (t : Addr) (ws : List Int), vs = [.ref t] ∧ H t = some (.tup (ws.map V.int)) ∧ ws.length ≤ 100 ∧
  ∀ l H' ps n, Ext TT none H H' → H' l = some (.lst (ps.map nV)) → Trim n (nf ws) (lets ws ps) → Pl ws n ws.length ps → Q (.ref l) H'
theorem ok_places_left (T : Txt K mg) (TT : List NTab) : FnOk P w K mg base CX0 1 T.a_places_left T.d_places_left ["row"] (spPlaces TT) := by
  refine T.F_places_left.ok sc_places_left (fun vs H Q E h => ?_) (fun cdv A outer s H vs Q E hr h => ?_)
  · obtain ⟨t, ws, rfl, _⟩ := h
    rfl
  · obtain ⟨t, ws, rfl, ht, hl, k⟩ := h
    have nd := sc_places_left.nd
    refine ⟨_, (pss_cons (ps_set (i := 1) nd rfl (Or.inl rfl) (pe_lst pa_nil))
        (pss_cons (ps_for PassesOwn.never rfl (pi_enumT (by rfl) T.n_enumerate (pa_cons (pv 0) pa_nil)) (pg_tup rfl (pgs_cons (pg_name (i := 2) nd rfl (Or.inl rfl)) (pgs_cons (pg_name (i := 3) nd rfl (Or.inl rfl)) pgs_nil)))
          (pss_one (ps_if (PW.pt (pw_and (pt_truth (pv 1) (by intro _; rfl)) (pw_and1 (pt_cmpR op_eq (pe_ix ix_tup (pv 0) (pe_ix ix_list (pv 1) (pe_un un_neg pe_int) (fun _ _ => rfl)) (fun _ _ => rfl)) (pv 3) (nomark _))))) (pss_one (ps_expr (pe_bm0 PySem.F.plainAttrs_list PySem.F.slot_list_pop PySem.F.type_list_pop mt_pop (pv 1)))) (pss_one (ps_expr (pe_bm PySem.F.plainAttrs_list PySem.F.slot_list_append PySem.F.type_list_append mt_append (pv 1) (pa_cons (pv 2) pa_nil)))))))
        (pss_cons (ps_while PassesOwn.never (PW.pt (pw_and (pt_cmpR op_ge (pe_callB call_len_seq (by rfl) T.n_len PySem.boot_len (pa_cons (pv 1) pa_nil)) pe_int (nomark _)) (pw_and1 (pt_cmpR op_eq (pe_ix ix_tup (pv 0) (pe_ix ix_list (pv 1) pe_int (fun _ _ => rfl)) (fun _ _ => rfl)) (pe_ix ix_tup (pv 0) (pe_ix ix_list (pv 1) (pe_un un_neg pe_int) (fun _ _ => rfl)) (fun _ _ => rfl)) (nomark _)))))
          (pss_one (ps_set (i := 1) nd rfl (Or.inl rfl) (pe_slice sl_list (pv 1) (po_some pe_int) (po_some (pe_un un_neg pe_int))))))
        (pss_one (ps_ret (pv 1)))))), ?_⟩
    refine ⟨Nat.zero_le _, fun l nl => ?_⟩
    obtain ⟨x0, h0⟩ := newX (TT := TT) (so := none) (o := .lst []) (Ext.refl _ _ H) nl
    refine ⟨_, rfl, t, _, rfl, SqT.of (x0.tup ht), for_it (walk_enumT (K := K) (a := t) (xs := ws.map V.int)) (fun i σ H' => ∃ (ps : List Nat) (u2 u3 : Option V), σ = [some (.ref t), some (.ref l), u2, u3] ∧ Ext TT none H H' ∧ H' l = some (.lst (ps.map nV)) ∧ lets ws ps = nf (ws.take i) ∧ Pl ws 0 i ps)
      ⟨[], none, none, rfl, x0, h0, rfl, ⟨(fun _ h => nomatch h), fun j p h => by simp at h⟩⟩ (fun i σ H' _ ⟨_, _, _, _, x, _⟩ => SqT.of (x.tup ht)) ?_ ?_⟩
    · rintro i x σ H1 H2 hi ⟨ps, u2, u3, rfl, x1, h1, el, pl⟩ ⟨Ta, y, z, rfl, nT, rfl, hy, hz⟩
      cases hy
      rw [List.length_map] at hi
      have hz : (ws.map V.int)[i]? = some z := hz
      rw [List.getElem?_map, List.getElem?_eq_getElem hi] at hz
      have hz : V.int ws[i] = z := Option.some.inj hz
      subst hz
      have x2 : Ext TT none H (upd H1 Ta (.tup [.int (i : Nat), .int ws[i]])) := x1.trans (Ext.new nT)
      have h2 : upd H1 Ta (.tup [.int (i : Nat), .int ws[i]]) l = some (.lst (ps.map nV)) := (upd_ne (ne_of_none h1 nT)).trans h1
      have hT : upd H1 Ta (.tup [.int (i : Nat), .int ws[i]]) Ta = some (.tup [.int (i : Nat), .int ws[i]]) := upd_same
      generalize upd H1 Ta (.tup [.int (i : Nat), .int ws[i]]) = H2 at x2 h2 hT ⊢
      have lenI : (nf (ws.take i)).length % 2 = i % 2 := by rw [nf_len, List.length_take]; omega
      have lenP : ps.length = (nf (ws.take i)).length := by rw [← el]; unfold lets; rw [List.length_map]
      have lenP2 : ps.length ≤ 100 := by
        have := nf_le (ws.take i)
        rw [List.length_take] at this
        omega
      have next : nf (ws.take (i + 1)) = rm ws[i] (nf (ws.take i)) := by
        rw [List.take_succ, List.getElem?_eq_getElem hi]
        exact nf_snoc _ _
      refine ⟨Ta, _, rfl, SqT.of hT, rfl, _, _, rfl, _, _, rfl, rfl, ?_⟩
      rcases List.eq_nil_or_concat ps with e | ⟨m, p, e⟩
      · subst e
        refine ⟨_, rfl, _, .inl ⟨_, SqL.of h2, rfl⟩, ?_⟩
        refine iteF' rfl ?_
        refine ⟨_, rfl, Or.inl ⟨rfl, _, SqL.of h2⟩, _, rfl, l, _, _, rfl, rfl, h2, by show 0 < 2 ^ 24; decide, [i], _, _, rfl, x2.mutL nl h2 (fun z => nomatch z), upd_same, ?_, ?_⟩
        · rw [next, ← el]
          show [ws.getD i 0] = [ws[i]]
          rw [getD_at hi]
        · exact pl.snoc (by rw [lenP, lenI])
      · rw [List.concat_eq_append] at e
        subst e
        have pi : p < i := pl.lt p (List.mem_append_right _ (List.mem_singleton.mpr rfl))
        have h2' : H2 l = some (.lst (m.map nV ++ [nV p])) := by rw [h2, List.map_append] <;> rfl
        rw [lets_concat] at el
        have ne0 : (m.map nV ++ [nV p]).isEmpty = false := by cases m <;> rfl
        refine ⟨_, rfl, _, .inl ⟨_, SqL.of h2', rfl⟩, ?_⟩
        rw [ne0]
        refine iteT' rfl ?_
        refine ⟨_, rfl, _, rfl, _, rfl, l, _, _, _, rfl, rfl, SqL.of h2', at_last _ _, t, _, _, _, rfl, rfl, SqT.of (x2.tup ht), at_row (by omega), _, rfl, rfl, _, rfl, ?_⟩
        rw [← el, rm_concat] at next
        refine iteB (fun g => ?_) (fun g => ?_)
        · have g : ws.getD p 0 = ws[i] := by simpa using g
          rw [if_pos g] at next
          refine ⟨_, rfl, Or.inl ⟨rfl, _, SqL.of h2'⟩, l, _, nV p, rfl, rfl, h2', by simp, m, _, _, rfl, x2.mutL nl h2' (fun z => nomatch z), ?_, next.symm, pl.init.mono (Nat.le_succ _)⟩
          rw [upd_same, List.dropLast_concat]
        · have g : ¬ ws.getD p 0 = ws[i] := by simpa using g
          rw [if_neg g] at next
          refine ⟨_, rfl, Or.inl ⟨rfl, _, SqL.of h2'⟩, _, rfl, l, _, _, rfl, rfl, h2', by rw [List.length_append, List.length_map]; rw [List.length_append] at lenP2; simp only [List.length_cons, List.length_nil] at lenP2 ⊢; exact small1000 (by omega), m ++ [p] ++ [i], _, _, rfl, x2.mutL nl h2' (fun z => nomatch z), ?_, ?_, pl.snoc (by rw [lenP, lenI])⟩
          · rw [upd_same, List.map_append, List.map_append] <;> rfl
          · rw [next, lets_concat, lets_concat, getD_at hi, List.append_assoc] <;> rfl
    · rintro σ H1 ⟨ps, u2, u3, rfl, x1, h1, el, pl⟩
      rw [List.length_map, List.take_length] at el
      rw [List.length_map] at pl
      dsimp only
      refine seq_cut (fun σ H' => ∃ (l : Addr) (ps : List Nat) (n : Nat), σ = [some (.ref t), some (.ref l), u2, u3] ∧ Ext TT none H H' ∧ H' l = some (.lst (ps.map nV)) ∧ Trim n (nf ws) (lets ws ps) ∧ Pl ws n ws.length ps) (fun R join => ?_) ?_
      · refine ⟨fun m σ H' => ∃ (l : Addr) (ps : List Nat) (n : Nat), m = ps.length ∧ σ = [some (.ref t), some (.ref l), u2, u3] ∧ Ext TT none H H' ∧ H' l = some (.lst (ps.map nV)) ∧ (∀ n' c, Trim n' (lets ws ps) c → Trim (n' + n) (nf ws) c) ∧ Pl ws n ws.length ps ∧ ps.length ≤ 100, ⟨ps.length, l, ps, 0, rfl, rfl, x1, h1, fun n' c q => by rw [el] at q; exact q, pl, ?_⟩, ?_⟩
        · have := nf_le ws
          rw [← el] at this
          unfold lets at this
          rw [List.length_map] at this
          omega
        · rintro m σ H2 ⟨l2, ps2, n2, rfl, rfl, x2, h2, tr, pl2, len2⟩
          have lenV : (ps2.map nV).length = ps2.length := List.length_map _
          refine ⟨_, rfl, l2, _, rfl, .inl (SqL.of h2), _, _, rfl, rfl, _, rfl, ?_⟩
          rw [lenV]
          refine iteB (fun g => ?_) (fun g => ?_)
          · have g : 2 ≤ ps2.length := by
              have := of_decide_eq_true g
              omega
            obtain ⟨p, m, q, rfl⟩ : ∃ p m q, ps2 = p :: (m ++ [q]) := by
              cases ps2 with
              | nil => simp at g
              | cons p r =>
                rcases List.eq_nil_or_concat r with e | ⟨m, q, e⟩
                · subst e; simp at g
                · exact ⟨p, m, q, by rw [e, List.concat_eq_append]⟩
            have pi : p < ws.length := pl2.lt p List.mem_cons_self
            have qi : q < ws.length := pl2.lt q (List.mem_cons_of_mem _ (List.mem_append_right _ (List.mem_singleton.mpr rfl)))
            have h2' : H2 l2 = some (.lst (nV p :: m.map nV ++ [nV q])) := by rw [h2, List.map_cons, List.map_append] <;> rfl
            have el2 : lets ws (p :: (m ++ [q])) = ws.getD p 0 :: (lets ws m ++ [ws.getD q 0]) := by
              show ws.getD p 0 :: lets ws (m ++ [q]) = _
              rw [lets_concat]
            have a0 : atI (nV p :: m.map nV ++ [nV q]) (0 : Int) = some (nV p) := atI_nat (j := 0) rfl
            refine ⟨_, rfl, _, rfl, l2, _, _, _, rfl, rfl, SqL.of h2', a0, t, _, _, _, rfl, rfl, SqT.of (x2.tup ht), at_row pi, ?_⟩
            refine ⟨_, rfl, _, rfl, _, rfl, l2, _, _, _, rfl, rfl, SqL.of h2', at_last (nV p :: m.map nV) (nV q), t, _, _, _, rfl, rfl, SqT.of (x2.tup ht), at_row qi, rfl, _, rfl, ?_⟩
            refine iteB (fun g3 => ?_) (fun g3 => ?_)
            · have g3 : ws.getD p 0 = ws.getD q 0 := by simpa using g3
              refine ⟨_, fun σ' H' z => z, ?_⟩
              refine ⟨_, rfl, _, rfl, _, rfl, _, rfl, l2, _, rfl, SqL.of h2', fun l3 nl3 => ?_⟩
              have ecut : cutV (nV p :: m.map nV ++ [nV q]) (some 1) (some (-1)) = m.map nV := by
                unfold cutV
                have e1 : HT.sIx (nV p :: m.map nV ++ [nV q]).length 0 (some 1) = 1 := by
                  rw [show (1 : Int) = ((1 : Nat) : Int) from rfl, HT.sIx_nat]
                  simp
                have e2 : HT.sIx (nV p :: m.map nV ++ [nV q]).length (nV p :: m.map nV ++ [nV q]).length (some (-1)) = m.length + 1 := by
                  unfold HT.sIx
                  dsimp only
                  rw [if_pos (by decide)]
                  simp only [List.length_append, List.length_cons, List.length_nil, List.length_map]
                  omega
                rw [e1, e2]
                show (m.map nV ++ [nV q]).take (m.length + 1 - 1) = _
                rw [Nat.add_sub_cancel, ← List.length_map (f := nV) (as := m), List.take_left]
              refine ⟨m.length, by rw [List.length_cons, List.length_append]; omega, l3, m, n2 + 1, rfl, rfl, x2.trans (Ext.new nl3), ?_, fun n' c z => ?_, ?_, ?_⟩
              · rw [upd_same, ecut]
              · rw [el2, ← g3] at tr
                have := tr (n' + 1) c (.step z)
                rwa [show n' + 1 + n2 = n' + (n2 + 1) by omega] at this
              · exact pl2.tail.init
              · rw [List.length_cons, List.length_append] at len2
                omega
            · have g3 : ¬ ws.getD p 0 = ws.getD q 0 := by simpa using g3
              refine join _ _ ⟨l2, _, n2, rfl, x2, h2, ?_, pl2⟩
              have := tr 0 _ (.stop (st := lets ws (p :: (m ++ [q]))) (by rw [el2]; exact ends_cons g3))
              rwa [Nat.zero_add] at this
          · have g : ¬ 2 ≤ ps2.length := by
              have := of_decide_eq_false g
              omega
            refine iteF ?_
            refine join _ _ ⟨l2, ps2, n2, rfl, x2, h2, ?_, pl2⟩
            have := tr 0 _ (.stop (st := lets ws ps2) (fun z => g (by have := z.1; unfold lets at this; rwa [List.length_map] at this)))
            rwa [Nat.zero_add] at this
      · rintro σ H2 ⟨l2, ps2, n2, rfl, x2, h2, tr, pl2⟩
        exact ⟨_, rfl, k l2 _ ps2 n2 x2 h2 tr pl2⟩
end
end R
end

-- Blk
section
set_option Elab.async false
set_option linter.all false
set_option maxRecDepth 100000
set_option maxHeartbeats 4000000
/-! Blk: rules that speak of the written part, with that part named: for the insides of comprehensions. -/
namespace BlkX
open PySem PySem.Spec PyProof.Rows L2
variable {X : Cx} (K : PySem.W.Frag)
theorem ixl (h : X.K = K := by rfl) : IxR X (rIxL K) := h ▸ ix_list
theorem ixt (h : X.K = K := by rfl) : IxR X (rIxT K) := h ▸ ix_tup
theorem csum (hc : X.calm = true := by rfl) (h : X.K = K := by rfl) : CallR X (.builtin "sum") (rSum K) := h ▸ cr_sum hc
theorem call (hc : X.calm = true := by rfl) (h : X.K = K := by rfl) : CallR X (.builtin "all") (rAll K) := h ▸ cr_all hc
theorem cany (hc : X.calm = true := by rfl) (h : X.K = K := by rfl) : CallR X (.builtin "any") (rAny K) := h ▸ cr_any hc
def rLen : List V → Hp → VK → Prop := fun xs H Q => ∃ p ys, xs = [.ref p] ∧ (SqL K H p ys ∨ SqT K H p ys) ∧ Q (.int ys.length) H
theorem clen (h : X.K = K := by rfl) : CallR X (.builtin "len") (rLen K) := by
  subst h
  exact call_len_seq
def rTupO : List V → Hp → VK → Prop := fun xs H Q => ∃ p ys, xs = [.ref p] ∧ ((SqL K H p ys ∧ ∀ l, H l = none → Q (.ref l) (upd H l (.tup ys))) ∨ (SqT K H p ys ∧ Q (.ref p) H))
theorem ctup (h : X.K = K := by rfl) : CallR X (.type "tuple") (rTupO K) := by
  subst h
  exact call_tuple_of
theorem pil {tg l : Expr} {tl : TE} (hl : PE X l tl) (h : X.K = K := by rfl) : PI X tg l (iList K tl) := h ▸ pi_list hl
theorem pit {tg l : Expr} {tl : TE} (hl : PE X l tl) (h : X.K = K := by rfl) : PI X tg l (iTup K tl) := h ▸ pi_tup hl
theorem sll (h : X.K = K := by rfl) : SlR X (rSlL K) := h ▸ sl_list
theorem slt (h : X.K = K := by rfl) : SlR X (rSlA K) := h ▸ sl_tupA
theorem catT (h : X.K = K := by rfl) : OpR X (binaryOp .Add) (rCatT K) := h ▸ op_catT
def tTru (ta : TE) : TT := fun σ H Q => ta σ H fun x H' => ∃ k, TruV K x H' k ∧ Q k H'
theorem ptru {a : Expr} {ta : TE} (ha : PE X a ta) (he : ∀ whole, isTrue a X.env whole = (do let v ← whole; standAt a.pos; holding [v] (truthy v)) := by intro _; rfl) (h : X.K = K := by rfl) : PT X a (tTru K ta) := h ▸ pt_truth ha he
end BlkX
end

-- CoreOf
section
set_option Elab.async false
set_option linter.all false
set_option maxRecDepth 100000
set_option maxHeartbeats 4000000
namespace R
open PySem PySem.Spec PyProof.Rows L2 LamX NdefX LamP CoreX TupX MinX BlkX
open GridX (nV)
/-! the core of a row -/
def Let6 (m : Int) : Prop := 0 ≤ m ∧ m < 6
def oddB (n : Nat) : Bool := n % 2 == 1
section
variable {P : Program} {w : World} {K : PySem.W.Frag} {mg : Str → Option Value} {base : Heap}
def spCore (T : Txt K mg) (TT : List NTab) : Sp := fun vs H Q E => ∃ (t : Addr) (ws : List Int), vs = [.ref t] ∧ H t = some (.tup (ws.map V.int)) ∧ ws.length ≤ 100 ∧
  (¬ (3 ≤ ws.length ∧ ws.length ≤ 40) → Rz TT E H T.C_BadSize fun v _ => v = .int (ws.length : Int)) ∧
  (3 ≤ ws.length → ws.length ≤ 40 → ∀ i, (∀ j, j < i → Let6 (ws.getD j 0)) → i < ws.length → ¬ Let6 (ws.getD i 0) → Rz TT E H T.C_BadCoat fun v _ => v = .int (i : Int)) ∧
  (3 ≤ ws.length → ws.length ≤ 40 → (∀ j, j < ws.length → Let6 (ws.getD j 0)) → ∀ v H' m, Ext TT none H H' → Tp H' v (rowI m) → IsCore (oddB ws.length) 0 ws m → Q v H')
theorem ok_core_of (T : Txt K mg) (TT : List NTab) : FnOk P w K mg base (L2.CX P w) 3 T.a_core_of T.d_core_of ["row"] (spCore T TT) := by
  refine T.F_core_of.okX sc_core_of (fun vs H Q E h => ?_) (fun cdv A outer s H vs Q E hr h => ?_)
  · obtain ⟨t, ws, rfl, _⟩ := h
    rfl
  · obtain ⟨t, ws, rfl, ht, hl, k1, k2, k3⟩ := h
    have nd := sc_core_of.nd
    refine ⟨_, (pss_cons (ps_if (pt_not (pt_chain op_le op_le (pe_glob (v := .int 3) rfl T.c_SHORTEST_ROW ⟨_, rfl⟩) (pe_callB call_len_seq (by rfl) T.n_len PySem.boot_len (pa_cons (pv 0) pa_nil)) (pe_glob (v := .int 40) rfl T.c_LONGEST_ROW ⟨_, rfl⟩))) (pss_one (ps_raise rfl (takes_of rfl rfl rfl rfl) (pmk_err (C := T.C_BadSize) T T.e_BadSize (hr.mono (by decide)) rfl (pa_cons (pe_callB call_len_seq (by rfl) T.n_len PySem.boot_len (pa_cons (pv 0) pa_nil)) pa_nil)))) pss_nil)
        (pss_cons (ps_for (passes_of rfl) rfl (pi_enumT (by rfl) T.n_enumerate (pa_cons (pv 0) pa_nil)) (pg_tup rfl (pgs_cons (pg_name (i := 1) nd rfl (Or.inl rfl)) (pgs_cons (pg_name (i := 2) nd rfl (Or.inl rfl)) pgs_nil)))
          (pss_one (ps_if (pt_not (pt_val (pe_call (ok_is_below T TT) (hr.mono (by decide)) rfl T.g_is_below T.F_is_below.kp T.b_is_below .nil pass0 (pa_cons (pv 2) (pa_cons (pe_glob (v := .int 6) rfl T.c_MOST_COATS ⟨_, rfl⟩) pa_nil))))) (pss_one (ps_raise rfl (takes_of rfl rfl rfl rfl) (pmk_err (C := T.C_BadCoat) T T.e_BadCoat (hr.mono (by decide)) rfl (pa_cons (pv 1) pa_nil)))) pss_nil)))
        (pss_cons (ps_set (i := 3) nd rfl (Or.inl rfl) (pe_call (ok_places_left T TT) (hr.mono (by decide)) rfl T.g_places_left T.F_places_left.kp T.b_places_left .nil pass0 (pa_cons (pv 0) pa_nil)))
        (pss_cons (ps_set (i := 4) nd rfl (Or.inr rfl) (pe_callTy call_tuple_of (by rfl) T.n_tuple (by decide +kernel) (pa_cons (pe_lc (own := [("i", 1)]) (g := gName 1) (tt := tYes) rfl nd (pi_list (pv 3)) (blkOk_by (own := [("i", 1)]) (N := N_core_of) (sc := defScope s_core_of) (by decide +kernel)) (fun _ _ _ _ _ => (pg_name (i := 1) nd rfl (Or.inl rfl))) (fun _ _ _ _ _ => pts_nil) (fun _ _ _ _ _ => (pe_ix (ixt K) (pv 0) (pv 1) (fun _ _ => rfl)))) pa_nil)))
        (pss_cons (ps_setLc (i := 5) (own := [("i", 1), ("at", 6)]) (g := gTup K 2 (gCons (gName 6) (gCons (gName 1) gNil))) rfl nd rfl rfl (sw_true rfl rfl rfl (by decide +kernel)) (pi_enum (by rfl) T.n_enumerate (pa_cons (pv 3) pa_nil)) (blkOk_by (own := [("i", 1), ("at", 6)]) (N := N_core_of) (sc := defScope s_core_of) (by decide +kernel)) (fun _ _ _ _ _ => (pg_tup rfl (pgs_cons (pg_name (i := 6) nd rfl (Or.inl rfl)) (pgs_cons (pg_name (i := 1) nd rfl (Or.inl rfl)) pgs_nil)))) (fun _ _ _ _ _ => (pts_one (PW.pt (pw_or (pt_cmpR op_eq (pe_op op_and (pe_callB (clen K) (by rfl) T.n_len PySem.boot_len (pa_cons (pv 0) pa_nil)) pe_int) pe_int (nomark _)) (pw_or1 (pt_cmpR op_eq (pe_op op_and (pv 1) pe_int) pe_int (nomark _))))))) (fun _ _ _ _ _ => (pe_op (TupX.catAK K) (pe_slice (slt K) (pv 4) (po_some (pv 6)) po_none) (pe_slice (slt K) (pv 4) po_none (po_some (pv 6))))))
        (pss_one (ps_ret (pe_callBK (MinX.cr_minDT rfl (room65 hr)) (by rfl) T.n_min (by decide +kernel) (pa_cons (pv 5) pa_nil) (pk_cons (pe_tup pa_nil) pk_nil))))))))), ?_⟩
    have lenW : (ws.map V.int).length = ws.length := List.length_map _
    refine seq_cut (fun σ H' => σ = [some (.ref t), none, none, none, none, none, none] ∧ H = H' ∧ 3 ≤ ws.length ∧ ws.length ≤ 40) (fun R join => ?_) ?_
    · refine ⟨_, rfl, t, _, rfl, .inr (SqT.of ht), ?_⟩
      rw [lenW]
      refine ⟨_, _, rfl, rfl, _, rfl, ?_⟩
      refine iteB (fun h => ?_) (fun h => ?_)
      · refine ⟨_, _, rfl, rfl, _, rfl, ?_⟩
        refine iteB (fun h3 => ?_) (fun h3 => ?_)
        · have h' : ¬ (3 ≤ ws.length ∧ ws.length ≤ 40) := fun z => by simp at h3; omega
          refine ⟨_, rfl, t, _, rfl, .inr (SqT.of ht), _, rfl, fun d nd => k1 h' _ _ _ (Ext.new nd) upd_same (by rw [lenW])⟩
        · refine join _ _ ⟨rfl, rfl, ?_, ?_⟩
          · simp at h; omega
          · simp at h3; omega
      · refine ⟨_, rfl, ?_⟩
        refine iteT' rfl ?_
        have h' : ¬ (3 ≤ ws.length ∧ ws.length ≤ 40) := fun z => by simp at h; omega
        exact ⟨_, rfl, t, _, rfl, .inr (SqT.of ht), _, rfl, fun d nd => k1 h' _ _ _ (Ext.new nd) upd_same (by rw [lenW])⟩
    · rintro σ _ ⟨rfl, rfl, l3, l40⟩
      have k2 := k2 l3 l40
      have k3 := k3 l3 l40
      refine seq_cut (fun σ H' => ∃ u1 u2, σ = [some (.ref t), u1, u2, none, none, none, none] ∧ Ext TT none H H' ∧ ∀ j, j < ws.length → Let6 (ws.getD j 0)) (fun R join => ?_) ?_
      · refine ⟨_, rfl, t, _, rfl, SqT.of ht, for_it (walk_enumT (K := K) (a := t) (xs := ws.map V.int)) (fun i σ H' => ∃ (u1 u2 : Option V), σ = [some (.ref t), u1, u2, none, none, none, none] ∧ Ext TT none H H' ∧ ∀ j, j < i → Let6 (ws.getD j 0))
          ⟨none, none, rfl, Ext.refl .., fun j z => absurd z (Nat.not_lt_zero _)⟩ (fun i σ H' _ ⟨_, _, _, x, _⟩ => SqT.of (x.tup ht)) ?_ ?_⟩
        · rintro i x σ H1 H2 hi ⟨u1, u2, rfl, x1, ok⟩ ⟨Ta, y, z, rfl, nT, rfl, hy, hz⟩
          cases hy
          rw [lenW] at hi
          have hz : (ws.map V.int)[i]? = some z := hz
          rw [List.getElem?_map, List.getElem?_eq_getElem hi] at hz
          have hz : V.int ws[i] = z := Option.some.inj hz
          subst hz
          have x2 : Ext TT none H (upd H1 Ta (.tup [.int (i : Nat), .int ws[i]])) := x1.trans (Ext.new nT)
          refine ⟨Ta, _, rfl, SqT.of upd_same, rfl, _, _, rfl, _, _, rfl, rfl, ?_⟩
          generalize upd H1 Ta (.tup [.int (i : Nat), .int ws[i]]) = H2 at x2 ⊢
          refine ⟨_, rfl, ws[i], 6, rfl, ?_⟩
          refine ⟨_, rfl, ?_⟩
          refine iteB (fun g => ?_) (fun g => ?_)
          · have bad : ¬ Let6 (ws.getD i 0) := by
              rw [getD_at hi]
              intro z
              have : (decide (0 ≤ ws[i]) && decide (ws[i] < 6)) = true := by rw [decide_eq_true z.1, decide_eq_true z.2] <;> rfl
              rw [this] at g
              cases g
            exact ⟨_, rfl, _, rfl, fun d nd => k2 i ok hi bad _ _ _ (x2.trans (Ext.new nd)) upd_same rfl⟩
          · have good : Let6 (ws.getD i 0) := by
              rw [getD_at hi]
              have g : (decide (0 ≤ ws[i]) && decide (ws[i] < 6)) = true := by simpa using g
              rw [Bool.and_eq_true] at g
              exact ⟨of_decide_eq_true g.1, of_decide_eq_true g.2⟩
            refine ⟨_, _, rfl, x2, fun j hj => ?_⟩
            by_cases z : j < i
            · exact ok j z
            · rw [show j = i by omega]; exact good
        · rintro σ H1 ⟨u1, u2, rfl, x1, ok⟩
          rw [lenW] at ok
          exact join _ _ ⟨u1, u2, rfl, x1, ok⟩
      · rintro σ H1 ⟨u1, u2, rfl, x1, ok⟩
        have k := k3 ok
        have ht1 := x1.tup ht
        refine ⟨_, rfl, t, ws, rfl, ht1, hl, fun l H2 ps n x2 h2 tr pl => ?_⟩
        have ht2 := x2.tup ht1
        have lenP : ps.length ≤ ws.length := by
          have h1 := nf_le ws
          have h2 : ∀ {n st c}, Trim n st c → c.length ≤ st.length := by
            intro n st c q
            induction q with
            | stop _ => exact Nat.le_refl _
            | step _ ih => simp only [List.length_cons, List.length_append]; omega
          have h3 := h2 tr
          unfold lets at h3
          rw [List.length_map] at h3
          omega
        refine ⟨_, rfl, l, rfl, ⟨_, SqL.of h2⟩, fun D hD => lc_it (walk_list (xs := ps.map nV)) (fun j H' => Ext TT none H2 H' ∧ H' D = some (.lst ((lets ws (ps.take j)).map V.int))) ⟨Ext.new hD, upd_same⟩ ?_ (fun j x H4 H3 hj e y => ?_) (fun H3 e => ?_)⟩
        · rintro j H' _ ⟨x3, _⟩
          exact SqL.of (x3.lst h2)
        · obtain ⟨rfl, y⟩ := y
          obtain ⟨x3, h3⟩ := e
          rw [List.length_map] at hj
          have y : (ps.map nV)[j]? = some x := y
          rw [List.getElem?_map, List.getElem?_eq_getElem hj] at y
          have y : nV ps[j] = x := Option.some.inj y
          subst y
          refine ⟨rfl, ?_⟩
          dsimp only [tYes]
          refine iteT ?_
          refine ⟨_, rfl, _, rfl, t, _, _, _, rfl, rfl, SqT.of (x3.tup ht2), at_row (pl.lt _ (List.getElem_mem hj)), ?_⟩
          refine ⟨_, h3, by unfold lets; rw [List.length_map, List.length_map, List.length_take]; exact small1000 (by omega), x3.mutL hD h3 (fun z => nomatch z), ?_⟩
          rw [upd_same, List.take_succ, List.getElem?_eq_getElem hj]
          unfold lets
          rw [List.map_append, List.map_append] <;> rfl
        · obtain ⟨x3, h3⟩ := e
          rw [List.length_map, List.take_length] at h3
          obtain ⟨c, ec⟩ : ∃ c, c = lets ws ps := ⟨_, rfl⟩
          have lc : c.length = ps.length := by rw [ec]; exact List.length_map _
          rw [← ec] at h3 tr
          refine ⟨D, _, rfl, .inl ⟨SqL.of h3, fun lt nlt => ?_⟩⟩
          obtain ⟨x4, h4⟩ := newX (TT := TT) (so := none) (o := .tup (c.map V.int)) x3 nlt
          generalize upd H3 lt (.tup (c.map V.int)) = H4 at x4 h4 ⊢
          have hl4 := x4.lst h2
          have ht4 := x4.tup ht2
          refine ⟨_, rfl, l, _, rfl, SqL.of hl4, fun D2 hD2 => ?_⟩
          refine lc_it (walk_enum (xs := ps.map nV)) (fun j H' => Ext TT none H4 H' ∧ ∃ vs L, H' D2 = some (.lst vs) ∧ Tps H' vs (rowsI' L) ∧ vs.length ≤ j ∧ ∀ x, x ∈ L ↔ ∃ q, q < j ∧ (oddB ws.length = true ∨ (0 + n + q) % 2 = 0) ∧ x = rot c q) ⟨Ext.new hD2, [], [], upd_same, .nil, Nat.le_refl _, fun x => ⟨(fun z => nomatch z), fun ⟨q, z, _⟩ => absurd z (Nat.not_lt_zero _)⟩⟩ ?_ (fun j x H5 H6 hj e y => ?_) (fun H5 e => ?_)
          · rintro j H' _ ⟨x5, _⟩
            exact SqL.of (x5.lst hl4)
          · obtain ⟨Ta, u, v, rfl, nT, rfl, e1, e2⟩ := y
            obtain ⟨x5, vs, L, hD5, hvs, lv, mem⟩ := e
            rw [List.length_map] at hj
            cases e1
            have e2 : (ps.map nV)[j]? = some v := e2
            rw [List.getElem?_map, List.getElem?_eq_getElem hj] at e2
            have e2 : nV ps[j] = v := Option.some.inj e2
            subst e2
            have par := pl.par j _ (List.getElem?_eq_getElem hj)
            have x6 := x5.trans (Ext.new (T := TT) (so := none) (o := .tup [.int (j : Nat), nV ps[j]]) nT)
            have hD6 : upd H5 Ta (.tup [.int (j : Nat), nV ps[j]]) D2 = some (.lst vs) := (upd_ne (ne_of_none hD5 nT)).trans hD5
            have hT6 : upd H5 Ta (.tup [.int (j : Nat), nV ps[j]]) Ta = some (.tup [.int (j : Nat), nV ps[j]]) := upd_same
            have hvs6 := hvs.mono (TK.new nT (o := .tup [.int (j : Nat), nV ps[j]]))
            generalize upd H5 Ta (.tup [.int (j : Nat), nV ps[j]]) = H6 at x6 hD6 hT6 hvs6 ⊢
            refine ⟨Ta, _, rfl, SqT.of hT6, rfl, _, _, rfl, _, _, rfl, rfl, ?_⟩
            have ht6 := (x4.trans x6).tup ht2
            have hlt6 := x6.tup h4
            have lj : j ≤ c.length := by omega
            have app : (oddB ws.length = true ∨ (0 + n + j) % 2 = 0) → ∀ (q : Addr) G, Ext TT none H6 G → G q = some (.tup ((rot c j).map V.int)) → ∃ xs, G D2 = some (.lst xs) ∧ xs.length < sizeLine ∧ (Ext TT none H4 (upd G D2 (.lst (xs ++ [V.ref q]))) ∧ ∃ vs L, upd G D2 (.lst (xs ++ [V.ref q])) D2 = some (.lst vs) ∧ Tps (upd G D2 (.lst (xs ++ [V.ref q]))) vs (rowsI' L) ∧ vs.length ≤ j + 1 ∧ ∀ x, x ∈ L ↔ ∃ q, q < j + 1 ∧ (oddB ws.length = true ∨ (0 + n + q) % 2 = 0) ∧ x = rot c q) := by
              intro g q G xG hG
              have hDG := xG.lst hD6
              refine ⟨vs, hDG, small1000 (by omega), (x6.trans xG).mutL hD2 hDG (fun z => nomatch z), vs ++ [V.ref q], L ++ [rot c j], upd_same, ?_, by rw [List.length_append]; simp only [List.length_cons, List.length_nil]; omega, fun x => ?_⟩
              · rw [rowsI_append]
                refine ((hvs6.mono xG.tk).mono (TK.lst hDG)).append (.cons ?_ .nil)
                exact (rowI_tp hG).mono (TK.lst hDG)
              · rw [List.mem_append, mem x, List.mem_singleton]
                constructor
                · rintro (⟨q, q1, q2, q3⟩ | z)
                  · exact ⟨q, by omega, q2, q3⟩
                  · exact ⟨j, by omega, g, z⟩
                · rintro ⟨q, q1, q2, q3⟩
                  by_cases z : q = j
                  · exact .inr (by rw [q3, z])
                  · exact .inl ⟨q, by omega, q2, q3⟩
            have noapp : ¬ (oddB ws.length = true ∨ (0 + n + j) % 2 = 0) → (Ext TT none H4 H6 ∧ ∃ vs L, H6 D2 = some (.lst vs) ∧ Tps H6 vs (rowsI' L) ∧ vs.length ≤ j + 1 ∧ ∀ x, x ∈ L ↔ ∃ q, q < j + 1 ∧ (oddB ws.length = true ∨ (0 + n + q) % 2 = 0) ∧ x = rot c q) := by
              intro g
              refine ⟨x6, vs, L, hD6, hvs6, by omega, fun x => ?_⟩
              rw [mem x]
              constructor
              · rintro ⟨q, q1, q2, q3⟩
                exact ⟨q, by omega, q2, q3⟩
              · rintro ⟨q, q1, q2, q3⟩
                refine ⟨q, ?_, q2, q3⟩
                by_cases z : q = j
                · rw [z] at q2; exact absurd q2 g
                · omega
            refine ⟨rfl, ?_⟩
            refine ⟨_, rfl, t, _, rfl, .inr (SqT.of ht6), _, _, rfl, rfl, rfl, _, rfl, ?_⟩
            have b1 : Builtin.bitAnd (((ws.map V.int).length : Nat) : Int) 1 = ((ws.length : Nat) : Int) % 2 := by rw [bitAnd_m1, lenW]
            have b2 : Builtin.bitAnd ((ps[j] : Nat) : Int) 1 = ((ps[j] : Nat) : Int) % 2 := bitAnd_m1 _
            refine iteB (fun g => ?_) (fun g => ?_)
            · have od : oddB ws.length = true := by
                have g : V.int (Builtin.bitAnd (((ws.map V.int).length : Nat) : Int) 1) = V.int 1 := of_decide_eq_true g
                injection g with g
                rw [b1] at g
                unfold oddB
                exact beq_iff_eq.mpr (by omega)
              refine ⟨_, rfl, _, rfl, _, rfl, ?_⟩
              dsimp only [tNoPart]
              refine sl_any (TT := TT) hlt6 (fun q1 G1 y1 g1 => ?_)
              rw [cut_from, ← List.map_drop] at g1
              refine ⟨_, rfl, _, rfl, _, rfl, sl_any (TT := TT) (y1.tup hlt6) (fun q2 G2 y2 g2 => ?_)⟩
              rw [cut_to, ← List.map_take] at g2
              refine cat_tup (TT := TT) (y2.tup g1) g2 (by rw [List.length_map, List.length_map, List.length_drop, List.length_take]; exact Nat.le_of_lt (small1000 (by omega))) (fun q3 G3 y3 g3 => ?_)
              rw [← List.map_append] at g3
              exact app (.inl od) q3 G3 ((y1.trans y2).trans y3) g3
            · have nod : oddB ws.length = false := by
                have g : ¬ V.int (Builtin.bitAnd (((ws.map V.int).length : Nat) : Int) 1) = V.int 1 := of_decide_eq_false g
                unfold oddB
                refine beq_eq_false_iff_ne.mpr fun z => g ?_
                rw [b1]
                exact congrArg V.int (by omega)
              refine ⟨_, rfl, _, _, rfl, rfl, rfl, _, rfl, ?_⟩
              refine iteB (fun g2 => ?_) (fun g2 => ?_)
              · have ev : (0 + n + j) % 2 = 0 := by
                  have g2 : V.int (Builtin.bitAnd ((ps[j] : Nat) : Int) 1) = V.int 0 := of_decide_eq_true g2
                  injection g2 with g2
                  rw [b2] at g2
                  omega
                refine ⟨_, rfl, _, rfl, _, rfl, ?_⟩
                dsimp only [tNoPart]
                refine sl_any (TT := TT) hlt6 (fun q1 G1 y1 g1 => ?_)
                rw [cut_from, ← List.map_drop] at g1
                refine ⟨_, rfl, _, rfl, _, rfl, sl_any (TT := TT) (y1.tup hlt6) (fun q2 G2 y2 g2 => ?_)⟩
                rw [cut_to, ← List.map_take] at g2
                refine cat_tup (TT := TT) (y2.tup g1) g2 (by rw [List.length_map, List.length_map, List.length_drop, List.length_take]; exact Nat.le_of_lt (small1000 (by omega))) (fun q3 G3 y3 g3 => ?_)
                rw [← List.map_append] at g3
                exact app (.inr ev) q3 G3 ((y1.trans y2).trans y3) g3
              · have nev : ¬ (0 + n + j) % 2 = 0 := by
                  have g2 : ¬ V.int (Builtin.bitAnd ((ps[j] : Nat) : Int) 1) = V.int 0 := of_decide_eq_false g2
                  intro z
                  refine g2 ?_
                  rw [b2]
                  exact congrArg V.int (by omega)
                exact noapp (by rw [nod]; rintro (z | z); cases z; exact nev z)
          · obtain ⟨x5, vs, L, hD5, hvs, lv, mem⟩ := e
            rw [List.length_map] at mem
            refine ⟨_, rfl, Nat.zero_le _, fun p0 np0 => ?_⟩
            have hD6 : upd H5 p0 (.tup []) D2 = some (.lst vs) := (upd_ne (ne_of_none hD5 np0)).trans hD5
            have x6 := x5.trans (Ext.new (T := TT) (so := none) (o := .tup []) np0)
            have mem2 : ∀ x, x ∈ L ↔ RdW (oddB ws.length) 0 ws x := fun x => by
              rw [mem x, RdW.of tr, ← lc]
              exact Iff.rfl
            have xa := ((x2.trans x4).trans x6)
            refine ⟨D2, vs, L, .ref p0, rfl, rfl, SqL.of hD6, hvs.mono (TK.new np0), fun e => ?_, fun x m _ hx hm => ?_⟩
            · refine k _ _ [] (x1.trans xa) (.tup upd_same .nil) (.inl ⟨fun x z => ?_, rfl⟩)
              have := (mem2 x).mpr z
              rw [e] at this
              cases this
            · exact k _ _ m (x1.trans xa) hx (.inr ⟨L, mem2, hm⟩)
end
end R
end

-- CoreP
section
set_option Elab.async false
set_option linter.all false
set_option maxRecDepth 100000
set_option maxHeartbeats 4000000
/-! CoreP: what the law asks of cores. -/
namespace CoreX
open MinX
theorem rot_len (c : List Int) (j : Nat) : (rot c j).length = c.length := by
  unfold rot
  rw [List.length_append, List.length_drop, List.length_take]
  omega
theorem rot_split (A B : List Int) : rot (A ++ B) A.length = B ++ A := by
  unfold rot
  rw [List.drop_left, List.take_left]
theorem rot_rot {c : List Int} {j b : Nat} (hj : j ≤ c.length) (hb : b ≤ c.length) : rot (rot c j) b = if j + b ≤ c.length then rot c (j + b) else rot c (j + b - c.length) := by
  obtain ⟨A, B, rfl, rfl⟩ : ∃ A B, c = A ++ B ∧ j = A.length := ⟨c.take j, c.drop j, (List.take_append_drop j c).symm, by rw [List.length_take]; omega⟩
  rw [rot_split]
  rw [List.length_append] at hb ⊢
  by_cases h : A.length + b ≤ A.length + B.length
  · rw [if_pos h]
    have d1 : (B ++ A).drop b = B.drop b ++ A := List.drop_append_of_le_length (by omega)
    have t1 : (B ++ A).take b = B.take b := List.take_append_of_le_length (by omega)
    have d2 : (A ++ B).drop (A.length + b) = B.drop b := by rw [List.drop_append, List.drop_of_length_le (by omega), List.nil_append, show A.length + b - A.length = b by omega]
    have t2 : (A ++ B).take (A.length + b) = A ++ B.take b := by rw [List.take_append, List.take_of_length_le (by omega), show A.length + b - A.length = b by omega]
    unfold rot
    rw [d1, t1, d2, t2, List.append_assoc]
  · rw [if_neg h]
    obtain ⟨k, hk⟩ : ∃ k, b = B.length + k := ⟨b - B.length, by omega⟩
    subst hk
    have d1 : (B ++ A).drop (B.length + k) = A.drop k := by rw [List.drop_append, List.drop_of_length_le (by omega), List.nil_append, show B.length + k - B.length = k by omega]
    have t1 : (B ++ A).take (B.length + k) = B ++ A.take k := by rw [List.take_append, List.take_of_length_le (by omega), show B.length + k - B.length = k by omega]
    have d2 : (A ++ B).drop k = A.drop k ++ B := List.drop_append_of_le_length (by omega)
    have t2 : (A ++ B).take k = A.take k := List.take_append_of_le_length (by omega)
    rw [show A.length + (B.length + k) - (A.length + B.length) = k by omega]
    unfold rot
    rw [d1, t1, d2, t2, List.append_assoc]
theorem trim_len {n : Nat} {st c : List Int} (h : Trim n st c) : c.length % 2 = st.length % 2 := by
  induction h with
  | stop _ => rfl
  | step _ ih => simp only [List.length_cons, List.length_append, List.length_nil]; omega
/-- a row of readings that are read on by odd steps -/
theorem odd_reads {w m x : List Int} (ev : w.length % 2 = 0) (hm : RdW false 0 w m) : (∃ b, b < m.length ∧ b % 2 = 1 ∧ x = rot m b) ↔ RdW false 1 w x := by
  obtain ⟨t, c, tr, j, hj, hp, rfl⟩ := hm
  have hp : (0 + t + j) % 2 = 0 := by
    rcases hp with z | z
    · cases z
    · exact z
  have lc : c.length % 2 = 0 := by rw [trim_len tr, nf_len]; exact ev
  rw [RdW.of tr, rot_len]
  constructor
  · rintro ⟨b, hb, ob, rfl⟩
    rw [rot_rot (by omega) (by omega)]
    by_cases z : j + b < c.length
    · rw [if_pos (by omega)]
      exact ⟨j + b, z, .inr (by omega), rfl⟩
    · by_cases z2 : j + b = c.length
      · rw [if_pos (by omega), z2, rot_all]
        exact ⟨0, by omega, .inr (by omega), (rot_zero c).symm⟩
      · rw [if_neg (by omega)]
        exact ⟨j + b - c.length, by omega, .inr (by omega), rfl⟩
  · rintro ⟨i, hi, hq, rfl⟩
    have hq : (1 + t + i) % 2 = 0 := by
      rcases hq with z | z
      · cases z
      · exact z
    by_cases z : j < i
    · refine ⟨i - j, by omega, by omega, ?_⟩
      rw [rot_rot (by omega) (by omega), if_pos (by omega), show j + (i - j) = i by omega]
    · refine ⟨i + c.length - j, by omega, by omega, ?_⟩
      rw [rot_rot (by omega) (by omega)]
      by_cases z2 : i = 0
      · subst z2
        rw [if_pos (by omega), show j + (0 + c.length - j) = c.length by omega, rot_all, rot_zero]
      · rw [if_neg (by omega), show j + (i + c.length - j) - c.length = i by omega]
theorem rd_ne {odd : Bool} {s : Nat} {w x : List Int} (h : RdW odd s w x) : x ≠ [] := by
  obtain ⟨t, c, _, j, hj, _, rfl⟩ := h
  intro z
  have := rot_len c j
  rw [z] at this
  simp at this
  omega
theorem core_nil {odd : Bool} {s : Nat} {w : List Int} (h : IsCore odd s w []) : ∀ x, ¬ RdW odd s w x := by
  rcases h with ⟨n, _⟩ | ⟨L, hL, l⟩
  · exact n
  · exact absurd rfl (rd_ne ((hL _).mp l.mem))
theorem core_rd {odd : Bool} {s : Nat} {w m : List Int} (h : IsCore odd s w m) (ne : m ≠ []) : RdW odd s w m := by
  rcases h with ⟨_, e⟩ | ⟨L, hL, l⟩
  · exact absurd e ne
  · exact (hL m).mp l.mem
theorem none_odd {w : List Int} (ev : w.length % 2 = 0) (h : ∀ x, ¬ RdW false 0 w x) : ∀ x, ¬ RdW false 1 w x := by
  intro x hx
  obtain ⟨t, c, tr, j, hj, _⟩ := hx
  have lc : c.length % 2 = 0 := by rw [trim_len tr, nf_len]; exact ev
  by_cases z : t % 2 = 0
  · exact h (rot c 0) ⟨t, c, tr, 0, by omega, .inr (by omega), rfl⟩
  · exact h (rot c 1) ⟨t, c, tr, 1, by omega, .inr (by omega), rfl⟩
/-- the row turned, and its core due -/
theorem turned_core {odd : Bool} {w m m' : List Int} {j : Nat} (hj : j ≤ w.length) (ev : odd = true ∨ w.length % 2 = 0) (h : IsCore odd 0 w m) (h' : IsCore odd 0 (rot w j) m') (c : odd = true ∨ j % 2 = 0 ∨ m = []) : m' = m := by
  have r := fun x => RdW.rot (odd := odd) (x := x) j 0 w hj ev
  rcases c with c | c | c
  · subst c
    exact h'.same h fun x => RdW.odd.trans (r x).symm
  · exact h'.same h fun x => (RdW.par (by omega)).trans (r x).symm
  · subst c
    have n := core_nil h
    cases odd with
    | true => exact h'.same h fun x => RdW.odd.trans (r x).symm
    | false =>
      have ev : w.length % 2 = 0 := by
        rcases ev with z | z
        · cases z
        · exact z
      have n1 := none_odd ev n
      have n' : ∀ x, ¬ RdW false 0 (rot w j) x := fun x hx => by
        by_cases z : j % 2 = 0
        · exact n x ((r x).mpr ((RdW.par (by omega)).mp hx))
        · have q := (RdW.rot (odd := false) (x := x) j 1 w hj (.inr ev)).mpr ((RdW.par (by omega)).mp hx)
          exact n1 x q
      rcases h' with ⟨_, e⟩ | ⟨L, hL, l⟩
      · exact e
      · exact absurd ((hL _).mp l.mem) (n' _)
theorem turned_odd {w m m' d : List Int} {L : List (List Int)} {j : Nat} (hj : j ≤ w.length) (ev : w.length % 2 = 0) (oj : j % 2 = 1) (h : IsCore false 0 w m) (ne : m ≠ []) (h' : IsCore false 0 (rot w j) m') (hL : ∀ x, x ∈ L ↔ ∃ b, b < m.length ∧ b % 2 = 1 ∧ x = rot m b) (hd : Least d L) : m' = d := by
  have r := fun x => RdW.rot (odd := false) (x := x) j 1 w hj (.inr ev)
  have hm := core_rd h ne
  have hd' : IsCore false 1 w d := .inr ⟨L, fun x => (hL x).trans (odd_reads ev hm), hd⟩
  exact h'.same hd' fun x => (RdW.par (by omega)).trans (r x).symm
/-- another like pair in a like pair's place -/
theorem other_core {odd : Bool} {w m m' : List Int} {k : Nat} {l : Int} (hk : k + 1 < w.length) (e : w[k + 1] = w[k]) (h : IsCore odd 0 w m) (h' : IsCore odd 0 ((w.set (k + 1) l).set k l) m') : m' = m := by
  have e1 : w = w.take k ++ w[k] :: w[k] :: w.drop (k + 2) := by
    conv => lhs; rw [← List.take_append_drop k w, List.drop_eq_getElem_cons (by omega : k < w.length), List.drop_eq_getElem_cons (by omega : k + 1 < w.length), e]
  have lt : (w.take k).length = k := by rw [List.length_take]; omega
  have e2 : (w.set (k + 1) l).set k l = w.take k ++ l :: l :: w.drop (k + 2) := by
    conv => lhs; rw [e1]
    rw [List.set_append_right _ _ (by omega), List.set_append_right _ _ (by omega), lt, show k + 1 - k = 1 by omega, Nat.sub_self] <;> rfl
  rw [e2] at h'
  refine h'.same h fun x => (RdW.strike _ _ _).trans ?_
  have := RdW.strike (odd := odd) (s := 0) (x := x) (w.take k) (w.drop (k + 2)) w[k]
  rw [← e1] at this
  exact this.symm
theorem other_ends {odd : Bool} {w m m' : List Int} {n : Nat} {l : Int} (hn : w.length = n + 2) (e : w[0] = w[n + 1]) (ev : odd = true ∨ n % 2 = 0) (h : IsCore odd 0 w m) (h' : IsCore odd 0 ((w.set 0 l).set (n + 1) l) m') : m' = m := by
  obtain ⟨a, u, b, rfl⟩ : ∃ a u b, w = a :: (u ++ [b]) := by
    cases w with
    | nil => simp at hn
    | cons a r =>
      rcases List.eq_nil_or_concat r with z | ⟨u, b, z⟩
      · subst z; simp at hn
      · exact ⟨a, u, b, by rw [z, List.concat_eq_append]⟩
  have lu : u.length = n := by simp at hn; omega
  have eb : a = b := by
    simp only [List.getElem_cons_zero, List.getElem_cons_succ] at e
    rw [List.getElem_append_right (by omega)] at e
    simpa using e
  subst eb
  have e2 : ((a :: (u ++ [a])).set 0 l).set (n + 1) l = l :: (u ++ [l]) := by
    rw [List.set_cons_zero, List.set_cons_succ, List.set_append_right _ _ (by omega), lu, Nat.sub_self] <;> rfl
  rw [e2] at h'
  have ev' : odd = true ∨ u.length % 2 = 0 := by
    rcases ev with z | z
    · exact .inl z
    · exact .inr (by omega)
  exact h'.same h fun x => (RdW.ends u l ev').trans (RdW.ends u a ev').symm
end CoreX
end

-- Small
section
set_option Elab.async false
set_option linter.all false
set_option maxRecDepth 100000
set_option maxHeartbeats 4000000
namespace R
open PySem PySem.Spec PyProof.Rows L2 LamX NdefX LamP CoreX TupX MinX BlkX
open GridX (nV)
theorem set_cut {w : List Int} {k : Nat} (m : Int) (h : k < w.length) : w.take k ++ [m] ++ w.drop (k + 1) = w.set k m := by
  rw [List.set_eq_take_append_cons_drop, if_pos h, List.append_assoc] <;> rfl
section
variable {P : Program} {w : World} {K : PySem.W.Frag} {mg : Str → Option Value} {base : Heap}
def spPut (TT : List NTab) : Sp := fun vs H Q _ => ∃ (t : Addr) (ws : List Int) (k : Nat) (m : Int), vs = [.ref t, nV k, .int m] ∧ H t = some (.tup (ws.map V.int)) ∧ k < ws.length ∧ ws.length ≤ 100 ∧ ∀ q H', Ext TT none H H' → H' q = some (.tup ((ws.set k m).map V.int)) → Q (.ref q) H'
theorem ok_put (T : Txt K mg) (TT : List NTab) : FnOk P w K mg base CX0 1 T.a_Lput T.d_Lput ["_law_row", "_law_at", "_law_thing"] (spPut TT) := by
  refine T.F_Lput.ok sc_Lput (fun vs H Q E h => ?_) (fun cdv A outer s H vs Q E hr h => ?_)
  · obtain ⟨t, ws, k, m, rfl, _⟩ := h
    rfl
  · obtain ⟨t, ws, j, m, rfl, ht, hj, hl, k⟩ := h
    refine ⟨_, (pss_one (ps_ret (pe_op (TupX.catAK K) (pe_op (TupX.catAK K) (pe_slice sl_tupA (pv 0) po_none (po_some (pv 1))) (pe_tup (pa_cons (pv 2) pa_nil))) (pe_slice sl_tupA (pv 0) (po_some (pe_op op_add (pv 1) pe_int)) po_none)))), ?_⟩
    refine ⟨_, rfl, ?_⟩
    dsimp only [tNoPart]
    refine ⟨_, rfl, _, rfl, sl_any (TT := TT) ht (fun q1 G1 y1 g1 => ?_)⟩
    rw [cut_to, ← List.map_take] at g1
    refine ⟨_, rfl, (by show 1 ≤ sizeLine; decide), fun p np => ?_⟩
    have g1' : upd G1 p (.tup [.int m]) q1 = some (.tup ((ws.take j).map V.int)) := (upd_ne (ne_of_none g1 np)).trans g1
    refine cat_tup (TT := TT) g1' upd_same (by rw [List.length_map, List.length_take]; exact Nat.le_of_lt (small1000 (by simp only [List.length_cons, List.length_nil]; omega))) (fun q2 G2 y2 g2 => ?_)
    have z2 := (y1.trans (Ext.new (T := TT) (so := none) (o := .tup [.int m]) np)).trans y2
    have ej : (j : Int) + 1 = ((j + 1 : Nat) : Int) := by omega
    refine ⟨_, rfl, _, rfl, _, _, rfl, rfl, _, rfl, ?_⟩
    dsimp only [tNoPart]
    refine sl_any (TT := TT) (z2.tup ht) (fun q3 G3 y3 g3 => ?_)
    rw [ej, cut_from, ← List.map_drop] at g3
    refine cat_tup (TT := TT) (y3.tup g2) g3 (by rw [List.length_append, List.length_map, List.length_take, List.length_map, List.length_drop]; exact Nat.le_of_lt (small1000 (by simp only [List.length_cons, List.length_nil]; omega))) (fun q4 G4 y4 g4 => ?_)
    refine k q4 _ ((z2.trans y3).trans y4) ?_
    rw [g4, ← set_cut m hj, List.map_append, List.map_append] <;> rfl
def spTurned (TT : List NTab) : Sp := fun vs H Q _ => ∃ (t : Addr) (ws : List Int) (k : Nat), vs = [.ref t, nV k] ∧ H t = some (.tup (ws.map V.int)) ∧ ws.length ≤ 100 ∧ ∀ q H', Ext TT none H H' → H' q = some (.tup ((rot ws k).map V.int)) → Q (.ref q) H'
theorem ok_turned (T : Txt K mg) (TT : List NTab) : FnOk P w K mg base CX0 1 T.a_Lturned T.d_Lturned ["_law_row", "_law_by"] (spTurned TT) := by
  refine T.F_Lturned.ok sc_Lturned (fun vs H Q E h => ?_) (fun cdv A outer s H vs Q E hr h => ?_)
  · obtain ⟨t, ws, k, rfl, _⟩ := h
    rfl
  · obtain ⟨t, ws, j, rfl, ht, hl, k⟩ := h
    refine ⟨_, (pss_one (ps_ret (pe_op (TupX.catAK K) (pe_slice sl_tupA (pv 0) (po_some (pv 1)) po_none) (pe_slice sl_tupA (pv 0) po_none (po_some (pv 1)))))), ?_⟩
    refine ⟨_, rfl, _, rfl, _, rfl, ?_⟩
    dsimp only [tNoPart]
    refine sl_any (TT := TT) ht (fun q1 G1 y1 g1 => ?_)
    rw [cut_from, ← List.map_drop] at g1
    refine ⟨_, rfl, _, rfl, _, rfl, sl_any (TT := TT) (y1.tup ht) (fun q2 G2 y2 g2 => ?_)⟩
    rw [cut_to, ← List.map_take] at g2
    refine cat_tup (TT := TT) (y2.tup g1) g2 (by rw [List.length_map, List.length_map, List.length_drop, List.length_take]; exact Nat.le_of_lt (small1000 (by omega))) (fun q3 G3 y3 g3 => ?_)
    rw [← List.map_append] at g3
    exact k q3 _ ((y1.trans y2).trans y3) g3
def spOddR (TT : List NTab) : Sp := fun vs H Q _ => ∃ (t : Addr) (m : List Int), vs = [.ref t] ∧ H t = some (.tup (m.map V.int)) ∧ m.length ≤ 100 ∧ ∀ D H' xs L, Ext TT none H H' → H' D = some (.lst xs) → Tps H' xs (rowsI' L) → (∀ x, x ∈ L ↔ ∃ b, b < m.length ∧ b % 2 = 1 ∧ x = rot m b) → Q (.ref D) H'
theorem ok_odd_readings (T : Txt K mg) (TT : List NTab) : FnOk P w K mg base CX0 2 T.a_Lodd_readings T.d_Lodd_readings ["_law_core"] (spOddR TT) := by
  refine T.F_Lodd_readings.ok sc_Lodd_readings (fun vs H Q E h => ?_) (fun cdv A outer s H vs Q E hr h => ?_)
  · obtain ⟨t, m, rfl, _⟩ := h
    rfl
  · obtain ⟨t, m, rfl, ht, hl, k⟩ := h
    have nd := sc_Lodd_readings.nd
    refine ⟨_, (pss_one (ps_ret (pe_lc (own := [("_law_by", 1)]) (g := gName 1) rfl nd (pi_range1 (by rfl) T.n_range (pa_cons (pe_callB call_len_seq (by rfl) T.n_len PySem.boot_len (pa_cons (pv 0) pa_nil)) pa_nil)) (blkOk_by (own := [("_law_by", 1)]) (N := N_Lodd_readings) (sc := defScope s_Lodd_readings) (by decide +kernel)) (fun _ _ _ _ _ => (pg_name (i := 1) nd rfl (Or.inl rfl))) (fun _ _ _ _ _ => (pts_one (pt_cmpR op_eq (pe_op op_mod (pe_callTy call_int1 (by rfl) T.n_int (by decide +kernel) (pa_cons (pv 1) pa_nil)) pe_int) pe_int (nomark _)))) (fun _ _ _ _ _ => (pe_call (ok_turned T TT) (hr.mono (by decide)) rfl T.g_Lturned T.F_Lturned.kp T.b_Lturned .nil pass0 (pa_cons (pv 0) (pa_cons (pv 1) pa_nil))))))), ?_⟩
    refine ⟨_, rfl, t, _, rfl, .inr (SqT.of ht), (m.length : Int), ?_, by omega, by omega, fun D hD => ?_⟩
    · rw [List.length_map]
    rw [Int.toNat_natCast]
    refine lc_it walk_range (fun j H' => Ext TT none H H' ∧ ∃ vs L, H' D = some (.lst vs) ∧ Tps H' vs (rowsI' L) ∧ vs.length ≤ j ∧ ∀ x, x ∈ L ↔ ∃ b, b < j ∧ b % 2 = 1 ∧ x = rot m b) ⟨Ext.new hD, [], [], upd_same, .nil, Nat.le_refl _, fun x => ⟨(fun z => nomatch z), fun ⟨q, z, _⟩ => absurd z (Nat.not_lt_zero _)⟩⟩ (fun _ _ _ _ => trivial) (fun j x H2 H1 hj e y => ?_) (fun H1 e => ?_)
    · obtain ⟨rfl, rfl⟩ := y
      obtain ⟨x1, vs, L, h1, hvs, lv, mem⟩ := e
      refine ⟨rfl, ?_⟩
      refine ⟨_, rfl, .inl ⟨_, rfl, _, _, rfl, rfl, (by show (0 : Int) < 2; decide), rfl, _, rfl, ?_⟩⟩
      refine iteB (fun g => ?_) (fun g => ?_)
      · have ob : j % 2 = 1 := by
          have g : V.int ((0 + (j : Int)) % 2) = V.int 1 := of_decide_eq_true g
          injection g with g
          omega
        refine ⟨_, rfl, _, rfl, t, m, j, by show [V.ref t, V.int (0 + (j : Int))] = [V.ref t, V.int (j : Int)]; rw [Int.zero_add], x1.tup ht, hl, fun q H3 x3 hq => ?_⟩
        have h3 := x3.lst h1
        refine ⟨vs, h3, small1000 (by omega), (x1.trans x3).mutL hD h3 (fun z => nomatch z), vs ++ [V.ref q], L ++ [rot m j], upd_same, ?_, by rw [List.length_append]; simp only [List.length_cons, List.length_nil]; omega, fun x => ?_⟩
        · rw [rowsI_append]
          refine ((hvs.mono x3.tk).mono (TK.lst h3)).append (.cons ?_ .nil)
          exact (rowI_tp hq).mono (TK.lst h3)
        · rw [List.mem_append, mem x, List.mem_singleton]
          constructor
          · rintro (⟨q, q1, q2, q3⟩ | z)
            · exact ⟨q, by omega, q2, q3⟩
            · exact ⟨j, by omega, ob, z⟩
          · rintro ⟨q, q1, q2, q3⟩
            by_cases z : q = j
            · exact .inr (by rw [q3, z])
            · exact .inl ⟨q, by omega, q2, q3⟩
      · have ob : ¬ j % 2 = 1 := by
          have g : ¬ V.int ((0 + (j : Int)) % 2) = V.int 1 := of_decide_eq_false g
          intro z
          exact g (congrArg V.int (by omega))
        refine ⟨x1, vs, L, h1, hvs, by omega, fun x => ?_⟩
        rw [mem x]
        constructor
        · rintro ⟨q, q1, q2, q3⟩
          exact ⟨q, by omega, q2, q3⟩
        · rintro ⟨q, q1, q2, q3⟩
          refine ⟨q, ?_, q2, q3⟩
          by_cases z : q = j
          · rw [z] at q2; exact absurd q2 ob
          · omega
    · obtain ⟨x1, vs, L, h1, hvs, lv, mem⟩ := e
      exact k D _ vs L x1 h1 hvs mem
end
end R
end

-- Letters
section
set_option Elab.async false
set_option linter.all false
set_option maxRecDepth 100000
set_option maxHeartbeats 4000000
namespace R
open PySem PySem.Spec PyProof.Rows L2 LamX NdefX LamP CoreX TupX MinX BlkX
open GridX (nV)
def Below (c : Nat) (s : List Int) : Prop := ∀ m ∈ s, 0 ≤ m ∧ m < (c : Int)
section
variable {P : Program} {w : World} {K : PySem.W.Frag} {mg : Str → Option Value} {base : Heap}
def spLetters (TT : List NTab) : Sp := fun vs H Q _ => ∃ (so : Addr) (n c : Nat), vs = [.ref so, nV n, nV c] ∧ Src H so ∧ n ≤ 40 ∧ 1 ≤ c ∧ c ≤ 6 ∧ RetS TT so H Q fun v H' => ∃ (l : Addr) (s : List Int), v = .ref l ∧ H' l = some (.lst (s.map V.int)) ∧ l ≠ so ∧ s.length = n ∧ Below c s
theorem ok_letters (T : Txt K mg) (TT : List NTab) : FnOk P w K mg base CX0 2 T.a_Lletters T.d_Lletters ["_law_source", "_law_n", "_law_coats"] (spLetters TT) := by
  refine T.F_Lletters.ok sc_Lletters (fun vs H Q E h => ?_) (fun cdv A outer s H vs Q E hr h => ?_)
  · obtain ⟨so, n, c, rfl, _⟩ := h
    rfl
  · obtain ⟨so, n, c, rfl, hs, hn, hc1, hc2, k⟩ := h
    have nd := sc_Lletters.nd
    refine ⟨_, (pss_cons (ps_setLc (i := 3) (own := [("_law_x", 7)]) (g := gName 7) (tt := tYes) rfl nd rfl rfl (sw_true rfl rfl rfl (by decide +kernel)) (pi_range1 (by rfl) T.n_range (pa_cons (pe_call (ok_take T TT) (hr.mono (by decide)) rfl T.g_Ltake T.F_Ltake.kp T.b_Ltake .nil pass0 (pa_cons (pv 0) (pa_cons (pe_op op_add (pv 1) pe_int) pa_nil))) pa_nil)) (blkOk_by (own := [("_law_x", 7)]) (N := N_Lletters) (sc := defScope s_Lletters) (by decide +kernel)) (fun _ _ _ _ _ => (pg_name (i := 7) nd rfl (Or.inl rfl))) (fun _ _ _ _ _ => pts_nil) (fun _ _ _ _ _ => (pe_call (ok_take T TT) (hr.mono (by decide)) rfl T.g_Ltake T.F_Ltake.kp T.b_Ltake .nil pass0 (pa_cons (pv 0) (pa_cons (pv 2) pa_nil)))))
        (pss_cons (ps_if (pt_cmpR op_eq (pe_op op_mod (pe_callTy call_int1 (by rfl) T.n_int (by decide +kernel) (pa_cons (pe_op op_sub (pv 1) (pe_callB call_len_seq (by rfl) T.n_len PySem.boot_len (pa_cons (pv 3) pa_nil))) pa_nil)) pe_int) pe_int (nomark _)) (pss_one (ps_expr (pe_bm PySem.F.plainAttrs_list PySem.F.slot_list_append PySem.F.type_list_append mt_append (pv 3) (pa_cons (pe_call (ok_take T TT) (hr.mono (by decide)) rfl T.g_Ltake T.F_Ltake.kp T.b_Ltake .nil pass0 (pa_cons (pv 0) (pa_cons (pv 2) pa_nil))) pa_nil)))) pss_nil)
        (pss_cons (ps_for PassesOwn.never rfl (pi_range1 (by rfl) T.n_range (pa_cons (pe_op op_fdiv (pe_op op_sub (pv 1) (pe_callB call_len_seq (by rfl) T.n_len PySem.boot_len (pa_cons (pv 3) pa_nil))) pe_int) pa_nil)) (pg_name (i := 4) nd rfl (Or.inl rfl))
          (pss_cons (ps_par (i := 5) (j := 6) (by rfl) nd rfl rfl (by decide) rfl rfl (pa_cons (pe_call (ok_take T TT) (hr.mono (by decide)) rfl T.g_Ltake T.F_Ltake.kp T.b_Ltake .nil pass0 (pa_cons (pv 0) (pa_cons (pe_op op_add (pe_callB call_len_seq (by rfl) T.n_len PySem.boot_len (pa_cons (pv 3) pa_nil)) pe_int) pa_nil))) (pa_cons (pe_call (ok_take T TT) (hr.mono (by decide)) rfl T.g_Ltake T.F_Ltake.kp T.b_Ltake .nil pass0 (pa_cons (pv 0) (pa_cons (pv 2) pa_nil))) pa_nil)) (by rfl))
        (pss_one (ps_set (i := 3) nd rfl (Or.inl rfl) (pe_op op_cat (pe_op op_cat (pe_slice sl_list (pv 3) po_none (po_some (pv 5))) (pe_lst (pa_cons (pv 6) (pa_cons (pv 6) pa_nil)))) (pe_slice sl_list (pv 3) (po_some (pv 5)) po_none))))))
        (pss_one (ps_ret (pv 3)))))), ?_⟩
    refine ⟨_, rfl, _, rfl, _, _, rfl, rfl, so, (n : Int) + 1, rfl, hs, by omega, by omega, fun v H1 x1 s1 hv => ?_⟩
    obtain ⟨a0, rfl, a1, a2⟩ := hv
    obtain ⟨a, rfl⟩ : ∃ a : Nat, a0 = (a : Int) := ⟨a0.toNat, by omega⟩
    refine ⟨(a : Int), rfl, by omega, by omega, fun D hD => ?_⟩
    have nD : D ≠ so := src_ne s1 hD
    have ns : (some so : Option Addr) ≠ some D := fun z => nD (Option.some.inj z).symm
    have nDH : H D = none := x1.fr D hD
    rw [Int.toNat_natCast]
    refine lc_it walk_range (fun j H' => Ext TT (some so) H H' ∧ Src H' so ∧ ∃ s : List Int, H' D = some (.lst (s.map V.int)) ∧ s.length = j ∧ Below c s) ⟨x1.trans (Ext.new hD), (Ext.new (T := TT) (so := some so) hD).src s1, [], upd_same, rfl, (fun _ z => nomatch z)⟩ (fun _ _ _ _ => trivial) (fun j x H3 H2 hj e y => ?_) (fun H2 e => ?_)
    · obtain ⟨rfl, rfl⟩ := y
      obtain ⟨x2, s2, ss, h2, ls, bs⟩ := e
      refine ⟨rfl, ?_⟩
      dsimp only [tYes]
      refine iteT ?_
      refine ⟨_, rfl, _, rfl, so, (c : Int), rfl, s2, by omega, by omega, fun v H3 x3 s3 hv => ?_⟩
      obtain ⟨m, rfl, m0, m1⟩ := hv
      have h3 := x3.lstS nD h2
      refine ⟨_, h3, by rw [List.length_map]; exact small1000 (by omega), (x2.trans x3).mutL nDH h3 ns, ?_, ss ++ [m], by rw [upd_same, List.map_append] <;> rfl, by rw [List.length_append, ls] <;> rfl, fun q hq => ?_⟩
      · obtain ⟨p, q, e1, e2⟩ := s3
        exact ⟨p, q, (upd_ne (Ne.symm nD)).trans e1, e2⟩
      · rcases List.mem_append.mp hq with z | z
        · exact bs q z
        · rw [List.mem_singleton.mp z]; exact ⟨m0, m1⟩
    · obtain ⟨x2, s2, ss, h2, ls, bs⟩ := e
      dsimp only
      refine seq_cut (fun σ H' => ∃ s : List Int, σ = [some (.ref so), some (nV n), some (nV c), some (.ref D), none, none, none, none] ∧ Ext TT (some so) H H' ∧ Src H' so ∧ H' D = some (.lst (s.map V.int)) ∧ s.length ≤ n ∧ (n - s.length) % 2 = 0 ∧ Below c s) (fun R join => ?_) ?_
      · refine ⟨_, rfl, _, rfl, D, _, rfl, .inl (SqL.of h2), _, _, rfl, rfl, .inl ⟨_, rfl, _, _, rfl, rfl, (by show (0 : Int) < 2; decide), rfl, _, rfl, ?_⟩⟩
        rw [List.length_map]
        refine iteB (fun g => ?_) (fun g => ?_)
        · have g : V.int (((n : Int) - ((ss.length : Nat) : Int)) % 2) = V.int 1 := of_decide_eq_true g
          injection g with g
          refine ⟨_, rfl, Or.inl ⟨rfl, _, SqL.of h2⟩, _, rfl, _, rfl, so, (c : Int), rfl, s2, by omega, by omega, fun v H3 x3 s3 hv => ?_⟩
          obtain ⟨m, rfl, m0, m1⟩ := hv
          have h3 := x3.lstS nD h2
          refine ⟨D, _, _, rfl, rfl, h3, by rw [List.length_map]; exact small1000 (by omega), ?_⟩
          refine join _ _ ⟨ss ++ [m], rfl, (x2.trans x3).mutL nDH h3 ns, ?_, by rw [upd_same, List.map_append] <;> rfl, by rw [List.length_append]; simp only [List.length_cons, List.length_nil]; omega, by rw [List.length_append]; simp only [List.length_cons, List.length_nil]; omega, fun q hq => ?_⟩
          · obtain ⟨p, q, e1, e2⟩ := s3
            exact ⟨p, q, (upd_ne (Ne.symm nD)).trans e1, e2⟩
          · rcases List.mem_append.mp hq with z | z
            · exact bs q z
            · rw [List.mem_singleton.mp z]; exact ⟨m0, m1⟩
        · have g : ¬ V.int (((n : Int) - ((ss.length : Nat) : Int)) % 2) = V.int 1 := of_decide_eq_false g
          refine join _ _ ⟨ss, rfl, x2, s2, h2, by omega, ?_, bs⟩
          by_cases z : (n - ss.length) % 2 = 0
          · exact z
          · exact absurd (congrArg V.int (by omega)) g
      · rintro σ H3 ⟨ss, rfl, x3, s3, h3, ls, ps, bs⟩
        obtain ⟨r, er⟩ : ∃ r, n - ss.length = 2 * r := ⟨(n - ss.length) / 2, by omega⟩
        refine ⟨_, rfl, _, rfl, D, _, rfl, .inl (SqL.of h3), _, _, rfl, rfl, _, _, rfl, rfl, ⟨by decide, by decide⟩, (r : Int), ?_, by omega, by omega, for_range (lo := 0) (n := (r : Int).toNat) (fun i σ H' => ∃ (l : Addr) (s : List Int) (u4 u5 u6 : Option V), σ = [some (.ref so), some (nV n), some (nV c), some (.ref l), u4, u5, u6, none] ∧ Ext TT (some so) H H' ∧ Src H' so ∧ H' l = some (.lst (s.map V.int)) ∧ l ≠ so ∧ s.length = ss.length + 2 * i ∧ Below c s) ⟨D, ss, none, none, none, rfl, x3, s3, h3, nD, rfl, bs⟩ ?_ ?_⟩
        · rw [List.length_map]
          exact congrArg (fun z => [V.int z]) (by omega)
        · rintro i σ H4 hi ⟨l, s4, u4, u5, u6, rfl, x4, q4, h4, nl4, ls4, bs4⟩
          refine ⟨_, rfl, _, rfl, l, _, rfl, .inl (SqL.of h4), _, _, rfl, rfl, so, (s4.length : Int) + 1, by rw [List.length_map] <;> rfl, q4, by omega, by omega, fun v H5 x5 q5 hv => ?_⟩
          obtain ⟨at0, rfl, at1, at2⟩ := hv
          obtain ⟨p, rfl⟩ : ∃ p : Nat, at0 = (p : Int) := ⟨at0.toNat, by omega⟩
          refine ⟨_, rfl, _, rfl, so, (c : Int), rfl, q5, by omega, by omega, fun v H6 x6 q6 hv => ?_⟩
          obtain ⟨m, rfl, m0, m1⟩ := hv
          have h6 := x6.lstS nl4 (x5.lstS nl4 h4)
          have lV : (s4.map V.int).length ≤ 100 := by rw [List.length_map]; omega
          refine ⟨_, _, rfl, ?_⟩
          refine ⟨_, rfl, ?_⟩
          dsimp only [tNoPart]
          refine ⟨_, rfl, _, rfl, l, _, rfl, SqL.of h6, fun a na => ?_⟩
          rw [cut_to, ← List.map_take]
          obtain ⟨x7, h7⟩ := newX (TT := TT) (so := none) (o := .lst ((s4.take p).map V.int)) (Ext.refl _ _ H6) na
          have h67 := x7.lst h6
          generalize upd H6 a (.lst ((s4.take p).map V.int)) = H7 at x7 h7 h67 ⊢
          refine ⟨_, rfl, _, rfl, (by show 2 ≤ sizeLine; decide), fun b nb => ?_⟩
          obtain ⟨x8, h8⟩ := newX (TT := TT) (so := none) (o := .lst [.int m, .int m]) x7 nb
          have h78 : upd H7 b (.lst [.int m, .int m]) a = some (.lst ((s4.take p).map V.int)) := (upd_ne (ne_of_none h7 nb)).trans h7
          generalize upd H7 b (.lst [.int m, .int m]) = H8 at x8 h8 h78 ⊢
          refine ⟨a, b, _, _, rfl, rfl, h78, h8, by rw [List.length_map, List.length_take]; exact Nat.le_of_lt (small1000 (by simp only [List.length_cons, List.length_nil]; omega)), fun d nd2 => ?_⟩
          obtain ⟨x9, h9⟩ := newX (TT := TT) (so := none) (o := .lst ((s4.take p).map V.int ++ [.int m, .int m])) x8 nd2
          generalize upd H8 d (.lst ((s4.take p).map V.int ++ [.int m, .int m])) = H9 at x9 h9 ⊢
          have h69 := x9.lst h6
          refine ⟨_, rfl, _, rfl, _, rfl, ?_⟩
          dsimp only [tNoPart]
          refine ⟨l, _, rfl, SqL.of h69, fun e ne => ?_⟩
          rw [cut_from, ← List.map_drop]
          obtain ⟨x10, h10⟩ := newX (TT := TT) (so := none) (o := .lst ((s4.drop p).map V.int)) x9 ne
          have h9e : upd H9 e (.lst ((s4.drop p).map V.int)) d = some (.lst ((s4.take p).map V.int ++ [.int m, .int m])) := (upd_ne (ne_of_none h9 ne)).trans h9
          generalize upd H9 e (.lst ((s4.drop p).map V.int)) = H10 at x10 h10 h9e ⊢
          refine ⟨d, e, _, _, rfl, rfl, h9e, h10, by rw [List.length_append, List.length_map, List.length_take, List.length_map, List.length_drop]; exact Nat.le_of_lt (small1000 (by simp only [List.length_cons, List.length_nil]; omega)), fun g ng => ?_⟩
          obtain ⟨x11, h11⟩ := newX (TT := TT) (so := none) (o := .lst ((s4.take p).map V.int ++ [.int m, .int m] ++ (s4.drop p).map V.int)) x10 ng
          have q10 : Src H10 so := Ext.src (T := TT) x10.toS q6
          have ng6 : g ≠ so := src_ne q10 ng
          generalize upd H10 g (.lst ((s4.take p).map V.int ++ [.int m, .int m] ++ (s4.drop p).map V.int)) = H11 at x11 h11 ⊢
          refine ⟨g, s4.take p ++ [m, m] ++ s4.drop p, _, _, _, rfl, ((x4.trans x5).trans x6).trans x11.toS, x11.toS.src q6, ?_, ng6, ?_, fun q hq => ?_⟩
          · rw [h11, List.map_append, List.map_append] <;> rfl
          · rw [List.length_append, List.length_append, List.length_take, List.length_drop]
            simp only [List.length_cons, List.length_nil]
            omega
          · rcases List.mem_append.mp hq with z | z
            · rcases List.mem_append.mp z with z | z
              · exact bs4 q (List.mem_of_mem_take z)
              · have : q = m := by simpa using z
                rw [this]; exact ⟨m0, m1⟩
            · exact bs4 q (List.mem_of_mem_drop z)
        · rintro σ H4 ⟨l, s4, u4, u5, u6, rfl, x4, q4, h4, nl4, ls4, bs4⟩
          rw [Int.toNat_natCast] at ls4
          exact ⟨_, rfl, k _ _ x4 q4 ⟨l, s4, rfl, h4, nl4, by omega, bs4⟩⟩
end
end R
end

-- LawL
section
set_option Elab.async false
set_option linter.all false
set_option maxRecDepth 100000
set_option maxHeartbeats 4000000
namespace R
open PySem PySem.Spec PyProof.Rows L2 LamX NdefX LamP CoreX TupX MinX BlkX
open GridX (nV)
theorem shaped_of {d : PyData} (h1 : d.canLay0 = true) (h2 : d.depth ≤ 64) : SeqAt.shaped d = true := by
  show (d.canLay0 && decide (d.depth ≤ 64)) = true
  rw [Bool.and_eq_true]
  exact ⟨h1, decide_eq_true h2⟩
theorem depAll : ∀ s : List Int, PyData.depthAll (s.map PyData.int) ≤ 1
  | [] => by simp [PyData.depthAll]
  | m :: s => by
    have := depAll s
    simp [PyData.depthAll, PyData.depth]
    omega
theorem layI (s : List Int) : (rowI s).canLay0 = true := by simp [rowI, PyData.canLay0, lay_row]
theorem shapedI (s : List Int) : SeqAt.shaped (rowI s) = true := shaped_of (layI s) (by
  have := depAll s
  simp [rowI, PyData.depth]
  omega)
theorem eqvI (s : List Int) : PyData.eqv (rowI s) (rowI s) = true := SeqAt.eqv_refl _ (layI s)
theorem ev_of (n : Nat) : oddB n = true ∨ n % 2 = 0 := by
  unfold oddB
  by_cases h : n % 2 = 0
  · exact .inr h
  · exact .inl (beq_iff_eq.mpr (by omega))
theorem let_all {ws : List Int} {c : Nat} (h : Below c ws) (hc : c ≤ 6) : ∀ j, j < ws.length → Let6 (ws.getD j 0) := fun j hj => by
  rw [getD_at hj]
  have := h _ (List.getElem_mem hj)
  exact ⟨this.1, by omega⟩
section
variable {P : Program} {w : World} {K : PySem.W.Frag} {mg : Str → Option Value} {base : Heap}
def spLaw (K : PySem.W.Frag) (TT : List NTab) : Sp := fun vs H Q _ => ∃ (l : Addr) (ns : List Int), vs = [.ref l] ∧ SqL K H l (ns.map V.int) ∧ (∀ z ∈ ns, Builtin.Int.intBits z ≤ 1048576) ∧ TabsN TT H ∧ ∀ H', Q (.bl true) H'
theorem ok_law (T : Txt K mg) (TT : List NTab) : FnOk P w K mg base CX0 4 T.a_law T.d_law ["_law_script"] (spLaw K TT) := by
  refine T.F_law.ok sc_law (fun vs H Q E h => ?_) (fun cdv A outer s H vs Q E hr h => ?_)
  · obtain ⟨l, ns, rfl, _⟩ := h
    rfl
  · obtain ⟨l0, ns, rfl, hl0, hb, hT, k⟩ := h
    have nd := sc_law.nd
    have px : Passes (L2.CX P w) (cxOf CX0 P w K mg base N_law "law" (defScope s_law) T.a_law cdv A outer s H E).nox (fun _ _ _ => False) := passes_call takes_none5 (fun _ _ _ _ h => h)
    refine ⟨_, (pss_cons (ps_for PassesOwn.never rfl (pi_range1 (by rfl) T.n_range (pa_cons pe_int pa_nil)) (pg_name (i := 1) nd rfl (Or.inl rfl))
          (pss_cons (ps_set (i := 2) nd rfl (Or.inl rfl) (pe_call (ok_pool T TT) (hr.mono (by decide)) rfl T.g_Lpool T.F_Lpool.kp T.b_Lpool .nil pass0 (pa_cons (pv 0) (pa_cons (pv 1) pa_nil))))
        (pss_cons (ps_par (i := 3) (j := 4) (by rfl) nd rfl rfl (by decide) rfl rfl (pa_cons (pe_call (ok_one T TT) (hr.mono (by decide)) rfl T.g_Lone T.F_Lone.kp T.b_Lone .nil pass0 (pa_cons (pv 2) (pa_cons (pe_lst (pa_cons pe_int (pa_cons pe_int (pa_cons pe_int (pa_cons pe_int (pa_cons pe_int (pa_cons pe_int (pa_cons pe_int (pa_cons pe_int (pa_cons pe_int (pa_cons pe_int (pa_cons pe_int pa_nil)))))))))))) pa_nil))) (pa_cons (pe_op op_add pe_int (pe_call (ok_take T TT) (hr.mono (by decide)) rfl T.g_Ltake T.F_Ltake.kp T.b_Ltake .nil pass0 (pa_cons (pv 2) (pa_cons pe_int pa_nil)))) pa_nil)) (by rfl))
        (pss_cons (ps_set (i := 5) nd rfl (Or.inr rfl) (pe_callTy call_tuple_of (by rfl) T.n_tuple (by decide +kernel) (pa_cons (pe_call (ok_letters T TT) (hr.mono (by decide)) rfl T.g_Lletters T.F_Lletters.kp T.b_Lletters .nil pass0 (pa_cons (pv 2) (pa_cons (pv 3) (pa_cons (pv 4) pa_nil)))) pa_nil)))
        (pss_cons (ps_par (i := 6) (j := 7) (by rfl) nd rfl rfl (by decide) rfl rfl (pa_cons (pe_call (ok_core_of T TT) (hr.mono (by decide)) rfl T.g_core_of T.F_core_of.kp T.b_core_of .nil px (pa_cons (pv 5) pa_nil)) (pa_cons (pe_call (ok_take T TT) (hr.mono (by decide)) rfl T.g_Ltake T.F_Ltake.kp T.b_Ltake .nil pass0 (pa_cons (pv 2) (pa_cons (pv 3) pa_nil))) pa_nil)) (by rfl))
        (pss_cons (ps_set (i := 8) nd rfl (Or.inl rfl) (pv 6))
        (pss_cons (ps_if (PW.pt (pw_and (pt_cmpR op_eq (pe_op op_mod (pe_callTy call_int1 (by rfl) T.n_int (by decide +kernel) (pa_cons (pv 3) pa_nil)) pe_int) pe_int (nomark _)) (pw_and (pt_cmpR op_eq (pe_op op_mod (pe_callTy call_int1 (by rfl) T.n_int (by decide +kernel) (pa_cons (pv 7) pa_nil)) pe_int) pe_int (nomark _)) (pw_and1 (pt_cmpR op_gt (pe_callB call_len_seq (by rfl) T.n_len PySem.boot_len (pa_cons (pv 6) pa_nil)) pe_int (nomark _)))))) (pss_one (ps_set (i := 8) nd rfl (Or.inl rfl) (pe_callB (MinX.cr_minT rfl (room65 hr)) (by rfl) T.n_min (by decide +kernel) (pa_cons (pe_call (ok_odd_readings T TT) (hr.mono (by decide)) rfl T.g_Lodd_readings T.F_Lodd_readings.kp T.b_Lodd_readings .nil pass0 (pa_cons (pv 6) pa_nil)) pa_nil)))) pss_nil)
        (pss_cons (ps_if (pt_cmpR (op_neD hr.units) (pe_call (ok_core_of T TT) (hr.mono (by decide)) rfl T.g_core_of T.F_core_of.kp T.b_core_of .nil px (pa_cons (pe_call (ok_turned T TT) (hr.mono (by decide)) rfl T.g_Lturned T.F_Lturned.kp T.b_Lturned .nil pass0 (pa_cons (pv 5) (pa_cons (pv 7) pa_nil))) pa_nil)) (pv 8) (nomark _)) (pss_one (ps_ret pe_bl)) pss_nil)
        (pss_cons (ps_par (i := 9) (j := 10) (by rfl) nd rfl rfl (by decide) rfl rfl (pa_cons (pe_call (ok_take T TT) (hr.mono (by decide)) rfl T.g_Ltake T.F_Ltake.kp T.b_Ltake .nil pass0 (pa_cons (pv 2) (pa_cons (pe_op op_add (pv 3) pe_int) pa_nil))) (pa_cons (pe_call (ok_take T TT) (hr.mono (by decide)) rfl T.g_Ltake T.F_Ltake.kp T.b_Ltake .nil pass0 (pa_cons (pv 2) (pa_cons pe_int pa_nil))) pa_nil)) (by rfl))
        (pss_cons (ps_if (pt_cmpR (op_neD hr.units) (pe_call (ok_core_of T TT) (hr.mono (by decide)) rfl T.g_core_of T.F_core_of.kp T.b_core_of .nil px (pa_cons (pe_op (TupX.catAK K) (pe_op (TupX.catAK K) (pe_slice sl_tupA (pv 5) po_none (po_some (pv 9))) (pe_tup (pa_cons (pv 10) (pa_cons (pv 10) pa_nil)))) (pe_slice sl_tupA (pv 5) (po_some (pv 9)) po_none)) pa_nil)) (pv 6) (nomark _)) (pss_one (ps_ret pe_bl)) pss_nil)
        (pss_cons (ps_setLc (i := 11) (own := [("_law_k", 13)]) (g := gName 13) rfl nd rfl rfl (sw_true rfl rfl rfl (by decide +kernel)) (pi_range1 (by rfl) T.n_range (pa_cons (pv 3) pa_nil)) (blkOk_by (own := [("_law_k", 13)]) (N := N_law) (sc := defScope s_law) (by decide +kernel)) (fun _ _ _ _ _ => (pg_name (i := 13) nd rfl (Or.inl rfl))) (fun _ _ _ _ _ => (pts_one (pt_cmpR op_eq (pe_ix (ixt K) (pv 5) (pv 13) (fun _ _ => rfl)) (pe_ix (ixt K) (pv 5) (pe_op op_sub (pv 13) pe_int) (fun _ _ => rfl)) (nomark _)))) (fun _ _ _ _ _ => (pv 13)))
        (pss_one (ps_if (pt_truth (pv 11) (by intro _; rfl)) (pss_cons (ps_set (i := 9) nd rfl (Or.inl rfl) (pe_call (ok_one T TT) (hr.mono (by decide)) rfl T.g_Lone T.F_Lone.kp T.b_Lone .nil pass0 (pa_cons (pv 2) (pa_cons (pv 11) pa_nil))))
        (pss_cons (ps_set (i := 12) nd rfl (Or.inl rfl) (pe_call (ok_put T TT) (hr.mono (by decide)) rfl T.g_Lput T.F_Lput.kp T.b_Lput .nil pass0 (pa_cons (pe_call (ok_put T TT) (hr.mono (by decide)) rfl T.g_Lput T.F_Lput.kp T.b_Lput .nil pass0 (pa_cons (pv 5) (pa_cons (pv 9) (pa_cons (pv 10) pa_nil)))) (pa_cons (pe_op op_mod (pe_callTy call_int1 (by rfl) T.n_int (by decide +kernel) (pa_cons (pe_op op_sub (pv 9) pe_int) pa_nil)) (pv 3)) (pa_cons (pv 10) pa_nil)))))
        (pss_one (ps_if (pt_cmpR (op_neD hr.units) (pe_call (ok_core_of T TT) (hr.mono (by decide)) rfl T.g_core_of T.F_core_of.kp T.b_core_of .nil px (pa_cons (pv 12) pa_nil)) (pv 6) (nomark _)) (pss_one (ps_ret pe_bl)) pss_nil)))) pss_nil)))))))))))))
        (pss_one (ps_ret pe_bl))), ?_⟩
    refine ⟨4, rfl, by omega, by omega, for_range (lo := 0) (n := (4 : Int).toNat) (fun i σ H' => ∃ u1 u2 u3 u4 u5 u6 u7 u8 u9 u10 u11 u12 : Option V, σ = [some (.ref l0), u1, u2, u3, u4, u5, u6, u7, u8, u9, u10, u11, u12, none] ∧ Ext TT none H H') ⟨none, none, none, none, none, none, none, none, none, none, none, none, rfl, Ext.refl ..⟩ ?_ ?_⟩
    · rintro i σ H1 hi ⟨u1, u2, u3, u4, u5, u6, u7, u8, u9, u10, u11, u12, rfl, x1⟩
      have hi4 : i < 4 := hi
      refine ⟨_, rfl, _, rfl, l0, ns, 0 + (i : Int), rfl, by omega, by omega, SqL.ext hl0 x1, hb, fun v H2 x2 hv => ?_⟩
      obtain ⟨so, rfl, q2, nso⟩ := hv
      have nsoH : H so = none := x1.fr so nso
      have x12 := x1.trans x2
      refine ⟨_, rfl, (by show 11 ≤ sizeLine; decide), fun l nl => ?_⟩
      obtain ⟨x3, h3⟩ := newX (TT := TT) (so := some so) (o := .lst [.int 3, .int 4, .int 5, .int 6, .int 7, .int 8, .int 9, .int 10, .int 12, .int 37, .int 38]) (Ext.refl _ _ H2) nl
      refine ⟨so, l, _, rfl, x3.src q2, h3, src_ne q2 nl, by show 0 < 11; decide, by show 11 < 1000; decide, fun v H4 x4 q4 hv => ?_⟩
      have hn : ∃ n : Nat, v = nV n ∧ 3 ≤ n ∧ n ≤ 38 := by
        simp only [List.mem_cons, List.not_mem_nil, or_false] at hv
        rcases hv with z | z | z | z | z | z | z | z | z | z | z
        · exact ⟨3, z, by omega, by omega⟩
        · exact ⟨4, z, by omega, by omega⟩
        · exact ⟨5, z, by omega, by omega⟩
        · exact ⟨6, z, by omega, by omega⟩
        · exact ⟨7, z, by omega, by omega⟩
        · exact ⟨8, z, by omega, by omega⟩
        · exact ⟨9, z, by omega, by omega⟩
        · exact ⟨10, z, by omega, by omega⟩
        · exact ⟨12, z, by omega, by omega⟩
        · exact ⟨37, z, by omega, by omega⟩
        · exact ⟨38, z, by omega, by omega⟩
      obtain ⟨n, rfl, n3, n38⟩ := hn
      clear hv
      refine ⟨_, rfl, so, 6, rfl, q4, by decide, by decide, fun v H5 x5 q5 hv => ?_⟩
      obtain ⟨c0, rfl, c1, c2⟩ := hv
      obtain ⟨C, hC⟩ : ∃ C : Nat, 1 + c0 = (C : Int) := ⟨(1 + c0).toNat, by omega⟩
      refine ⟨_, _, rfl, rfl, _, _, rfl, ?_⟩
      have x25 := (x3.trans x4).trans x5
      refine ⟨_, rfl, _, rfl, _, rfl, so, n, C, ?_, q5, by omega, by omega, by omega, fun v H6 x6 q6 hv => ?_⟩
      · show [V.ref so, nV n, V.int (1 + c0)] = _
        rw [hC] <;> rfl
      obtain ⟨lw, ws, rfl, hlw, nlw, lws, bws⟩ := hv
      refine ⟨lw, _, rfl, .inl ⟨SqL.of hlw, fun t nt => ?_⟩⟩
      obtain ⟨x7, h7⟩ := newX (TT := TT) (so := some so) (o := .tup (ws.map V.int)) (x25.trans x6) nt
      have q7 : Src (upd H6 t (.tup (ws.map V.int))) so := (Ext.new (T := TT) (so := some so) nt).src q6
      generalize upd H6 t (.tup (ws.map V.int)) = H7 at x7 h7 q7 ⊢
      have l6 := let_all bws (by omega)
      refine ⟨_, rfl, t, ws, rfl, h7, by omega, fun z => absurd ⟨by omega, by omega⟩ z, fun _ _ i _ hi z => absurd (l6 i hi) z, fun _ _ _ cv H8 m x8 hcv hm => ?_⟩
      have q8 := x8.toS.src q7
      have h8 := x8.tup h7
      refine ⟨_, rfl, _, rfl, so, (n : Int), rfl, q8, by omega, by omega, fun v H9 x9 q9 hv => ?_⟩
      obtain ⟨b0, rfl, b1, b2⟩ := hv
      obtain ⟨by_, rfl⟩ : ∃ b : Nat, b0 = (b : Int) := ⟨b0.toNat, by omega⟩
      have h9 := x9.tkS q8 _ _ h8
      have hcv9 := hcv.mono (x9.tkS q8)
      have x29 := (x7.trans x8.toS).trans x9
      refine ⟨_, _, rfl, ?_⟩
      refine ⟨_, rfl, ?_⟩
      clear x9 x8 x7 x6 x5 x4 x3 x25 h8 h7 q8 q7 q6 q5 q4 hcv hlw
      dsimp only
      obtain ⟨od, eod⟩ : ∃ od, od = oddB ws.length := ⟨_, rfl⟩
      have ev : od = true ∨ ws.length % 2 = 0 := by rw [eod]; exact ev_of _
      have eodn : od = oddB n := by rw [eod, lws]
      rw [← eod] at hm
      have bl : by_ ≤ ws.length := by omega
      refine seq_cut (fun σ H' => ∃ (dv : V) (dm : List Int), σ = [some (.ref l0), some (.int (0 + (i : Int))), some (.ref so), some (nV n), some (.int (1 + c0)), some (.ref t), some cv, some (nV by_), some dv, u9, u10, u11, u12, none] ∧ Ext TT none H9 H' ∧ Tp H' dv (rowI dm) ∧ ∀ m', IsCore od 0 (rot ws by_) m' → m' = dm) (fun R join => ?_) ?_
      · have same : (od = true ∨ by_ % 2 = 0 ∨ m = []) → ∀ H', Ext TT none H9 H' → R [some (.ref l0), some (.int (0 + (i : Int))), some (.ref so), some (nV n), some (.int (1 + c0)), some (.ref t), some cv, some (nV by_), some cv, u9, u10, u11, u12, none] H' :=
          fun c H' x => join _ _ ⟨cv, m, rfl, x, hcv9.mono x.tk, fun m' hm' => turned_core bl ev hm hm' c⟩
        refine ⟨_, rfl, .inl ⟨_, rfl, _, _, rfl, rfl, (by show (0 : Int) < 2; decide), rfl, _, rfl, ?_⟩⟩
        refine iteB (fun g => ?_) (fun g => ?_)
        · have en : n % 2 = 0 := by
            have g : V.int ((n : Int) % 2) = V.int 0 := of_decide_eq_true g
            injection g with g
            omega
          refine ⟨_, rfl, .inl ⟨_, rfl, _, _, rfl, rfl, (by show (0 : Int) < 2; decide), rfl, _, rfl, ?_⟩⟩
          refine iteB (fun g2 => ?_) (fun g2 => ?_)
          · have ob : by_ % 2 = 1 := by
              have g2 : V.int ((by_ : Int) % 2) = V.int 1 := of_decide_eq_true g2
              injection g2 with g2
              omega
            obtain ⟨ca, rfl, hca⟩ := rowI_at hcv9
            refine ⟨_, rfl, ca, _, rfl, .inr (SqT.of hca), _, _, rfl, rfl, _, rfl, ?_⟩
            rw [List.length_map]
            refine iteB (fun g3 => ?_) (fun g3 => ?_)
            · have g3 : 0 < m.length := by
                have := of_decide_eq_true g3
                omega
              have ne : m ≠ [] := fun z => by rw [z] at g3; simp at g3
              have odf : od = false := by rw [eodn]; unfold oddB; exact beq_eq_false_iff_ne.mpr (by omega)
              subst odf
              have lm : m.length ≤ 100 := by
                obtain ⟨tt, cc, tr, j, _, _, e⟩ := core_rd hm ne
                rw [e, rot_len]
                have h1 := nf_le ws
                have h2 : ∀ {n st c}, Trim n st c → c.length ≤ st.length := by
                  intro n st c q
                  induction q with
                  | stop _ => exact Nat.le_refl _
                  | step _ ih => simp only [List.length_cons, List.length_append]; omega
                have h3 := h2 tr
                omega
              refine ⟨_, rfl, ca, m, rfl, hca, lm, fun D HA xs L xA hA hxs mem => ?_⟩
              have hm0 := core_rd hm ne
              refine ⟨D, xs, L, rfl, SqL.of hA, hxs, fun e => ?_, fun x dm _ hx hd => ?_⟩
              · have : rot m 1 ∈ L := (mem _).mpr ⟨1, by
                  obtain ⟨tt, cc, tr, j, hj, _, e2⟩ := hm0
                  rw [e2, rot_len]
                  have := trim_len tr
                  rw [nf_len] at this
                  omega, by omega, rfl⟩
                rw [e] at this
                cases this
              · exact join _ _ ⟨x, dm, rfl, xA, hx, fun m' hm' => turned_odd bl (by omega) ob hm ne hm' mem hd⟩
            · have g3 : ¬ 0 < m.length := by
                have := of_decide_eq_false g3
                omega
              exact same (.inr (.inr (List.length_eq_zero_iff.mp (by omega)))) _ (Ext.refl ..)
          · have ob : by_ % 2 = 0 := by
              have g2 : ¬ V.int ((by_ : Int) % 2) = V.int 1 := of_decide_eq_false g2
              by_cases z : by_ % 2 = 0
              · exact z
              · exact absurd (congrArg V.int (by omega)) g2
            exact same (.inr (.inl ob)) _ (Ext.refl ..)
        · have en : od = true := by
            have g : ¬ V.int ((n : Int) % 2) = V.int 0 := of_decide_eq_false g
            rw [eodn]
            unfold oddB
            refine beq_iff_eq.mpr ?_
            by_cases z : n % 2 = 1
            · exact z
            · exact absurd (congrArg V.int (by omega)) g
          exact same (.inl en) _ (Ext.refl ..)
      · rintro σ HB ⟨dv, dm, rfl, xB, hdv, due⟩
        have hB := xB.tup h9
        have hcvB := hcv9.mono xB.tk
        have qB := xB.toS.src q9
        have brot : Below C (rot ws by_) := fun q hq => by
          rcases List.mem_append.mp (show q ∈ ws.drop by_ ++ ws.take by_ from hq) with z | z
          · exact bws q (List.mem_of_mem_drop z)
          · exact bws q (List.mem_of_mem_take z)
        have lrot : (rot ws by_).length = n := by rw [rot_len, lws]
        refine ⟨_, rfl, _, rfl, t, ws, by_, rfl, hB, by omega, fun q HC xC hq => ?_⟩
        refine ⟨q, rot ws by_, rfl, hq, by omega, fun z => absurd ⟨by omega, by omega⟩ z, fun _ _ i _ hi z => absurd (let_all brot (by omega) i hi) z, fun _ _ _ v2 HD m2 xD hv2 hm2 => ?_⟩
        rw [lrot, ← eodn] at hm2
        have em2 := due m2 hm2
        subst em2
        have xBD := xC.trans xD
        refine ⟨_, rfl, _, _, hv2.dp, (hdv.mono xBD.tk).dp, shapedI _, shapedI _, _, rfl, ?_⟩
        rw [eqvI]
        refine iteF ?_
        clear due hv2 hdv hm2 hq
        have hD := xBD.tup hB
        have hcvD := hcvB.mono xBD.tk
        have qD := xBD.toS.src qB
        refine ⟨_, rfl, _, rfl, _, _, rfl, rfl, so, (n : Int) + 1, rfl, qD, by omega, by omega, fun v HE xE qE hv => ?_⟩
        obtain ⟨p0, rfl, p1, p2⟩ := hv
        obtain ⟨p, rfl⟩ : ∃ p : Nat, p0 = (p : Int) := ⟨p0.toNat, by omega⟩
        refine ⟨_, rfl, so, 6, rfl, qE, by decide, by decide, fun v HF xF qF hv => ?_⟩
        obtain ⟨le, rfl, le0, le1⟩ := hv
        have hF := xF.tkS qE _ _ (xE.tkS qD _ _ hD)
        have hcvF := (hcvD.mono (xE.tkS qD)).mono (xF.tkS qE)
        refine ⟨_, _, rfl, ?_⟩
        have lV : (ws.map V.int).length ≤ 40 := by rw [List.length_map]; omega
        refine ⟨_, rfl, ?_⟩
        dsimp only [tNoPart]
        refine ⟨_, rfl, _, rfl, sl_any (TT := TT) hF (fun a1 G1 y1 g1 => ?_)⟩
        rw [cut_to, ← List.map_take] at g1
        refine ⟨_, rfl, _, rfl, (by show 2 ≤ sizeLine; decide), fun pp np => ?_⟩
        have g1' : upd G1 pp (.tup [.int le, .int le]) a1 = some (.tup ((ws.take p).map V.int)) := (upd_ne (ne_of_none g1 np)).trans g1
        refine cat_tup (TT := TT) g1' upd_same (by rw [List.length_map, List.length_take]; exact Nat.le_of_lt (small1000 (by simp only [List.length_cons, List.length_nil]; omega))) (fun a2 G2 y2 g2 => ?_)
        have z2 := (y1.trans (Ext.new (T := TT) (so := none) (o := .tup [.int le, .int le]) np)).trans y2
        refine ⟨_, rfl, _, rfl, _, rfl, ?_⟩
        dsimp only [tNoPart]
        refine sl_any (TT := TT) (z2.tup hF) (fun a3 G3 y3 g3 => ?_)
        rw [cut_from, ← List.map_drop] at g3
        refine cat_tup (TT := TT) (y3.tup g2) g3 (by rw [List.length_append, List.length_map, List.length_take, List.length_map, List.length_drop]; exact Nat.le_of_lt (small1000 (by simp only [List.length_cons, List.length_nil]; omega))) (fun a4 G4 y4 g4 => ?_)
        have g5 : G4 a4 = some (.tup ((ws.take p ++ le :: le :: ws.drop p).map V.int)) := by rw [g4, List.map_append, List.append_assoc] <;> rfl
        have z4 := (z2.trans y3).trans y4
        have lin : (ws.take p ++ le :: le :: ws.drop p).length = n + 2 := by
          rw [List.length_append, List.length_take]
          simp only [List.length_cons, List.length_drop]
          omega
        have bin : ∀ j, j < (ws.take p ++ le :: le :: ws.drop p).length → Let6 ((ws.take p ++ le :: le :: ws.drop p).getD j 0) := fun j hj => by
          rw [getD_at hj]
          have hmem := List.getElem_mem hj
          have all : ∀ q ∈ ws.take p ++ le :: le :: ws.drop p, Let6 q := fun q hq => by
            rcases List.mem_append.mp hq with z | z
            · have := bws q (List.mem_of_mem_take z)
              exact ⟨this.1, by omega⟩
            · rcases List.mem_cons.mp z with z | z
              · rw [z]; exact ⟨le0, le1⟩
              · rcases List.mem_cons.mp z with z | z
                · rw [z]; exact ⟨le0, le1⟩
                · have := bws q (List.mem_of_mem_drop z)
                  exact ⟨this.1, by omega⟩
          exact all _ hmem
        refine ⟨a4, _, rfl, g5, by omega, fun z => absurd ⟨by omega, by omega⟩ z, fun _ _ i _ hi z => absurd (bin i hi) z, fun _ _ _ v3 HG m3 xG hv3 hm3 => ?_⟩
        have eod3 : oddB (ws.take p ++ le :: le :: ws.drop p).length = od := by
          rw [lin, eodn]
          unfold oddB
          rw [show (n + 2) % 2 = n % 2 by omega]
        rw [eod3] at hm3
        have em3 : m3 = m := hm3.same hm fun x => by
          have := RdW.strike (odd := od) (s := 0) (x := x) (ws.take p) (ws.drop p) le
          rwa [List.take_append_drop] at this
        subst em3
        have xFG := z4.trans xG
        have hcvG := hcvF.mono xFG.tk
        refine ⟨_, rfl, _, _, hv3.dp, hcvG.dp, shapedI _, shapedI _, _, rfl, ?_⟩
        rw [eqvI]
        refine iteF ?_
        have hG := xFG.tup hF
        have qG := xFG.toS.src qF
        have x2G : Ext TT (some so) H2 HG := (((((x29.trans xB.toS).trans xBD.toS).trans xE).trans xF).trans xFG.toS)
        clear hv3 hm3 g5 g4 g3 g2 g1 g1' y4 y3 z4 z2 y2 y1 xFG hcvF hF xF qF xE qE hcvD hD qD xBD xC xD hB hcvB qB xB bin lin eod3 x29 hcv9 h9 q9
        dsimp only [tNext]
        refine seq_cut (fun σ H' => ∃ (lk : Addr) (ks : List Nat), σ = [some (.ref l0), some (.int (0 + (i : Int))), some (.ref so), some (nV n), some (.int (1 + c0)), some (.ref t), some cv, some (nV by_), some dv, some (nV p), some (.int le), some (.ref lk), u12, none] ∧ Ext TT none HG H' ∧ HG lk = none ∧ H' lk = some (.lst (ks.map nV)) ∧ ks.length ≤ 40 ∧ ∀ q ∈ ks, q < n ∧ ws.getD q 0 = ws.getD (if q = 0 then n - 1 else q - 1) 0) (fun R join => ?_) ?_
        · refine ⟨_, rfl, (n : Int), rfl, by omega, by omega, fun D hD => ?_⟩
          rw [Int.toNat_natCast]
          refine lc_it walk_range (fun j H' => Ext TT none HG H' ∧ ∃ ks : List Nat, H' D = some (.lst (ks.map nV)) ∧ ks.length ≤ j ∧ ∀ q ∈ ks, q < n ∧ ws.getD q 0 = ws.getD (if q = 0 then n - 1 else q - 1) 0) ⟨Ext.new hD, [], upd_same, Nat.le_refl _, (fun _ z => nomatch z)⟩ (fun _ _ _ _ => trivial) (fun j x HI HH hj e y => ?_) (fun HH e => ?_)
          · obtain ⟨rfl, rfl⟩ := y
            obtain ⟨xH, ks, hk, lk, ak⟩ := e
            refine ⟨rfl, ?_⟩
            have tH := xH.tup hG
            have a1 : atI (ws.map V.int) (0 + (j : Int)) = some (.int (ws.getD j 0)) := by rw [Int.zero_add]; exact at_row (by omega)
            have a2 : atI (ws.map V.int) (0 + (j : Int) - 1) = some (.int (ws.getD (if j = 0 then n - 1 else j - 1) 0)) := by
              by_cases z : j = 0
              · subst z
                rw [if_pos rfl]
                obtain ⟨A, b, eA⟩ : ∃ A b, ws = A ++ [b] := by
                  rcases List.eq_nil_or_concat ws with z | ⟨A, b, z⟩
                  · rw [z] at lws; simp at lws; omega
                  · exact ⟨A, b, by rw [z, List.concat_eq_append]⟩
                have : ws.getD (n - 1) 0 = b := by
                  have lA : A.length = n - 1 := by rw [eA, List.length_append] at lws; simp only [List.length_cons, List.length_nil] at lws; omega
                  rw [eA, ← lA, List.getD_eq_getElem?_getD, List.getElem?_append_right (Nat.le_refl _), Nat.sub_self] <;> rfl
                rw [this, eA, List.map_append]
                exact at_last _ _
              · rw [if_neg z, show 0 + (j : Int) - 1 = ((j - 1 : Nat) : Int) by omega]
                exact at_row (by omega)
            refine ⟨_, rfl, _, rfl, t, _, _, _, rfl, rfl, SqT.of tH, a1, ?_⟩
            refine ⟨_, rfl, _, rfl, _, _, rfl, rfl, t, _, _, _, rfl, rfl, SqT.of tH, a2, rfl, _, rfl, ?_⟩
            refine iteB (fun g => ?_) (fun g => ?_)
            · have g : ws.getD j 0 = ws.getD (if j = 0 then n - 1 else j - 1) 0 := by
                have g : V.int (ws.getD j 0) = V.int (ws.getD (if j = 0 then n - 1 else j - 1) 0) := of_decide_eq_true g
                injection g
              refine ⟨_, rfl, _, hk, by rw [List.length_map]; exact small1000 (by omega), xH.mutL hD hk (fun z => nomatch z), ks ++ [j], ?_, by rw [List.length_append]; simp only [List.length_cons, List.length_nil]; omega, fun q hq => ?_⟩
              · rw [upd_same, List.map_append]
                show some (HO.lst (ks.map nV ++ [V.int (0 + (j : Int))])) = _
                rw [Int.zero_add] <;> rfl
              · rcases List.mem_append.mp hq with z | z
                · exact ak q z
                · rw [List.mem_singleton.mp z]; exact ⟨by omega, g⟩
            · exact ⟨xH, ks, hk, by omega, ak⟩
          · obtain ⟨xH, ks, hk, lk, ak⟩ := e
            exact join _ _ ⟨D, ks, rfl, xH, hD, hk, by omega, ak⟩
        · rintro σ HH ⟨lk, ks, rfl, xH, nlk, hk, lks, ak⟩
          have hH := xH.tup hG
          have hcvH := hcvG.mono xH.tk
          have qH := xH.toS.src qG
          have fin : ∀ {HZ}, Ext TT (some so) H2 HZ → Ext TT none H HZ := fun x => x12.dropS nsoH x
          have x2H := x2G.trans xH.toS
          have nlkso : lk ≠ so := src_ne qG nlk
          refine ⟨_, rfl, _, .inl ⟨_, SqL.of hk, rfl⟩, ?_⟩
          cases ks with
          | nil =>
            refine iteF' rfl ?_
            exact ⟨_, _, _, _, _, _, _, _, _, _, _, _, rfl, fin x2H⟩
          | cons k1 kr =>
            refine iteT' rfl ?_
            refine ⟨_, rfl, _, rfl, so, lk, _, rfl, qH, hk, nlkso, by rw [List.length_map, List.length_cons]; omega, by rw [List.length_map]; omega, fun v HJ xJ qJ hv => ?_⟩
            obtain ⟨q, hq, rfl⟩ := List.mem_map.mp hv
            obtain ⟨qn, qe⟩ := ak q hq
            have hJ := xJ.tkS qH _ _ hH
            have hcvJ := hcvH.mono (xJ.tkS qH)
            refine ⟨_, rfl, _, rfl, _, rfl, t, ws, q, le, rfl, hJ, by omega, by omega, fun r1 HK xK hr1 => ?_⟩
            obtain ⟨o, eo, on, oe⟩ : ∃ o : Nat, (((q : Int) - 1) % (n : Int)) = (o : Int) ∧ o < n ∧ o = (if q = 0 then n - 1 else q - 1) := by
              by_cases z : q = 0
              · subst z
                refine ⟨n - 1, ?_, by omega, by rw [if_pos rfl]⟩
                have h : (((0 : Nat) : Int) - 1 + (n : Int)) % (n : Int) = (((0 : Nat) : Int) - 1) % (n : Int) := by simp
                rw [← h, Int.emod_eq_of_lt (by omega) (by omega)]
                omega
              · refine ⟨q - 1, ?_, by omega, by rw [if_neg z]⟩
                rw [Int.emod_eq_of_lt (by omega) (by omega)]
                omega
            refine ⟨_, rfl, _, _, rfl, rfl, .inl ⟨_, rfl, _, rfl, _, _, rfl, rfl, by omega, ?_⟩⟩
            refine ⟨_, rfl, r1, ws.set q le, o, le, ?_, hr1, by rw [List.length_set]; omega, by rw [List.length_set]; omega, fun r2 HL xL hr2 => ?_⟩
            · show [V.ref r1, V.int (((q : Int) - 1) % (n : Int)), V.int le] = _
              rw [eo] <;> rfl
            have lo2 : ((ws.set q le).set o le).length = n := by rw [List.length_set, List.length_set, lws]
            have b2 : ∀ j, j < ((ws.set q le).set o le).length → Let6 (((ws.set q le).set o le).getD j 0) := fun j hj => by
              rw [getD_at hj]
              have hmem := List.getElem_mem hj
              have one : ∀ (u : List Int) (a : Nat), (∀ z ∈ u, Let6 z) → ∀ z ∈ u.set a le, Let6 z := fun u a hu z hz => by
                rcases List.mem_or_eq_of_mem_set hz with y | y
                · exact hu z y
                · rw [y]; exact ⟨le0, le1⟩
              exact one _ _ (one _ _ fun z hz => by
                have := bws z hz
                exact ⟨this.1, by omega⟩) _ hmem
            refine ⟨_, rfl, r2, _, rfl, hr2, by omega, fun z => absurd ⟨by omega, by omega⟩ z, fun _ _ i _ hi z => absurd (b2 i hi) z, fun _ _ _ v4 HM m4 xM hv4 hm4 => ?_⟩
            have eod4 : oddB ((ws.set q le).set o le).length = od := by rw [lo2, eodn]
            rw [eod4] at hm4
            have xJM := (xK.trans xL).trans xM
            have em4 : m4 = m3 := by
              rw [getD_at (by omega)] at qe
              by_cases z : q = 0
              · rw [if_pos z] at oe qe
                subst z
                subst oe
                rw [getD_at (by omega)] at qe
                obtain ⟨n2, en2⟩ : ∃ n2, n = n2 + 2 := ⟨n - 2, by omega⟩
                have e1 : n - 1 = n2 + 1 := by omega
                simp only [e1] at qe hm4
                refine other_ends (by omega) qe ?_ hm hm4
                rcases ev with z | z
                · exact .inl z
                · exact .inr (by omega)
              · rw [if_neg z] at oe qe
                subst oe
                rw [getD_at (by omega)] at qe
                obtain ⟨k, ek⟩ : ∃ k, q = k + 1 := ⟨q - 1, by omega⟩
                subst ek
                simp only [Nat.add_sub_cancel] at qe hm4
                exact other_core (by omega) qe hm hm4
            subst em4
            refine ⟨_, rfl, _, _, hv4.dp, (hcvJ.mono xJM.tk).dp, shapedI _, shapedI _, _, rfl, ?_⟩
            rw [eqvI]
            refine iteF ?_
            exact ⟨_, _, _, _, _, _, _, _, _, _, _, _, rfl, fin ((x2H.trans xJ).trans xJM.toS)⟩
    · rintro σ H1 ⟨u1, u2, u3, u4, u5, u6, u7, u8, u9, u10, u11, u12, rfl, x1⟩
      exact k _
end
end R
end

-- EndMk
section
set_option Elab.async false
set_option linter.all false
set_option maxRecDepth 100000
set_option maxHeartbeats 4000000
namespace R
open PySem PySem.Spec PyProof.Rows L2 LamX NdefX LamP
theorem exm_by {K : PySem.W.Frag} {S F : Addr} {b : Bool} (h1 : PySem.W.subIn K (.ref F) (.type "BaseException") = some true) (h2 : PySem.W.isClsIn K F = true) (h3 : PySem.W.typeIn K (.ref F) = some (.type "type")) (h4 : PySem.W.subIn K (.ref S) (.ref F) = some b) : PySem.W.exmOne K (.ref S) (.ref F) = some b := by
  have a1 : (PySem.W.subIn K (.ref F) (.type "BaseException") == some true) = true := by rw [h1] <;> rfl
  have a2 : ((PySem.W.clsIn K F).isSome && PySem.W.typeIn K (.ref F) == some (.type "type")) = true := by
    rw [show (PySem.W.clsIn K F).isSome = true from h2, h3] <;> rfl
  unfold PySem.W.exmOne
  first
    | rw [if_pos a1, if_pos a2, h4]
    | (show (if _ = true then (if _ = true then _ else _) else _) = _; rw [if_pos a1, if_pos a2, h4])
theorem law_at {l : PySem.W.OpenLaw} {w : World} {K : PySem.W.Frag} {h : Heap} {mg : Str → Option Value} {fa : Addr} (X : K.In h) (T : Txt K mg) (hfa : mg "law" = some (.ref fa))
    (hb : ∀ (s : Shared) (u : Value), BindsTo s T.d_law ⟨[u], []⟩ [("_law_script", u)]) : LawAtS l w K CX0 4 63 "_law_script" mg fa h := by
  have e := hfa.symm.trans T.g_law
  cases e
  refine ⟨T.d_law, [], spLaw K [], ?_, ?_, ?_, hb, ?_, ?_⟩
  · intro p hp
    cases hp
  · intro p hp
    cases hp
  · intro p hp
    cases hp
  · intro H a ns _ hbits htab hS
    refine ⟨a, ns, rfl, hS, hbits, ?_, fun _ => rfl⟩
    intro p hp
    cases hp
  · intro base _ _ TB
    exact ok_law T []
theorem all_mk {l : PySem.W.OpenLaw} {w : World} {K : PySem.W.Frag} {h : Heap} {mg : Str → Option Value} {fa : Addr} (X : K.In h) (G : h.Ns mainGlobals mg) (hfa : mg "law" = some (.ref fa))
    {C_Refused N_Refused : Addr} {nm_Refused q_Refused : Str} {bs_Refused bm_Refused sub_Refused : List Value} {sn_Refused : List Str} {ab_Refused : Bool} {col_Refused : Option Bool} {dd_Refused : Option Addr} {m0_Refused m1_Refused m2_Refused m3_Refused m5_Refused : Option Value}
    {C_BadSize N_BadSize : Addr} {nm_BadSize q_BadSize : Str} {bs_BadSize bm_BadSize sub_BadSize : List Value} {sn_BadSize : List Str} {ab_BadSize : Bool} {col_BadSize : Option Bool} {dd_BadSize : Option Addr} {m0_BadSize m1_BadSize m2_BadSize m3_BadSize m5_BadSize : Option Value}
    {C_BadCoat N_BadCoat : Addr} {nm_BadCoat q_BadCoat : Str} {bs_BadCoat bm_BadCoat sub_BadCoat : List Value} {sn_BadCoat : List Str} {ab_BadCoat : Bool} {col_BadCoat : Option Bool} {dd_BadCoat : Option Addr} {m0_BadCoat m1_BadCoat m2_BadCoat m3_BadCoat m5_BadCoat : Option Value}
    {a_Refused_init : Addr} {od_Refused_init an_Refused_init : Option Addr} {sl_Refused_init : Array (Option Value)} {oc_Refused_init kV_Refused_init dc_Refused_init pm_Refused_init ct_Refused_init : Value} {cd_Refused_init : Value}
    {a_is_number : Addr} {od_is_number an_is_number : Option Addr} {sl_is_number : Array (Option Value)} {oc_is_number kV_is_number dc_is_number pm_is_number ct_is_number : Value} {cd_is_number : Value}
    {a_is_below : Addr} {od_is_below an_is_below : Option Addr} {sl_is_below : Array (Option Value)} {oc_is_below kV_is_below dc_is_below pm_is_below ct_is_below : Value} {cd_is_below : Value}
    {a_core_of : Addr} {od_core_of an_core_of : Option Addr} {sl_core_of : Array (Option Value)} {oc_core_of kV_core_of dc_core_of pm_core_of ct_core_of : Value} {cd_core_of : Value}
    {a_places_left : Addr} {od_places_left an_places_left : Option Addr} {sl_places_left : Array (Option Value)} {oc_places_left kV_places_left dc_places_left pm_places_left ct_places_left : Value} {cd_places_left : Value}
    {a_Lpool : Addr} {od_Lpool an_Lpool : Option Addr} {sl_Lpool : Array (Option Value)} {oc_Lpool kV_Lpool dc_Lpool pm_Lpool ct_Lpool : Value} {cd_Lpool : Value}
    {a_Ltake : Addr} {od_Ltake an_Ltake : Option Addr} {sl_Ltake : Array (Option Value)} {oc_Ltake kV_Ltake dc_Ltake pm_Ltake ct_Ltake : Value} {cd_Ltake : Value}
    {a_Lone : Addr} {od_Lone an_Lone : Option Addr} {sl_Lone : Array (Option Value)} {oc_Lone kV_Lone dc_Lone pm_Lone ct_Lone : Value} {cd_Lone : Value}
    {a_Lput : Addr} {od_Lput an_Lput : Option Addr} {sl_Lput : Array (Option Value)} {oc_Lput kV_Lput dc_Lput pm_Lput ct_Lput : Value} {cd_Lput : Value}
    {a_Lletters : Addr} {od_Lletters an_Lletters : Option Addr} {sl_Lletters : Array (Option Value)} {oc_Lletters kV_Lletters dc_Lletters pm_Lletters ct_Lletters : Value} {cd_Lletters : Value}
    {a_Lturned : Addr} {od_Lturned an_Lturned : Option Addr} {sl_Lturned : Array (Option Value)} {oc_Lturned kV_Lturned dc_Lturned pm_Lturned ct_Lturned : Value} {cd_Lturned : Value}
    {a_Lodd_readings : Addr} {od_Lodd_readings an_Lodd_readings : Option Addr} {sl_Lodd_readings : Array (Option Value)} {oc_Lodd_readings kV_Lodd_readings dc_Lodd_readings pm_Lodd_readings ct_Lodd_readings : Value} {cd_Lodd_readings : Value}
    {a_law : Addr} {od_law an_law : Option Addr} {sl_law : Array (Option Value)} {oc_law kV_law dc_law pm_law ct_law : Value} {cd_law : Value}
    {t_MOST_COATS : Tok}
    {t_SHORTEST_ROW : Tok}
    {t_LONGEST_ROW : Tok}
    (aC_Refused : PySem.W.nsIn K mainGlobals "Refused" = some (some (.ref C_Refused)))
    (xL_Refused : K.lookup C_Refused = some (excClassObj nm_Refused q_Refused C_Refused N_Refused bs_Refused bm_Refused true sn_Refused sub_Refused ab_Refused col_Refused dd_Refused m0_Refused m1_Refused m2_Refused m3_Refused m5_Refused "ValueError.__new__"))
    (rV_Refused : PySem.HandSPX.refsVE bm_Refused = true)
    (sa_Refused : PySem.W.findIn K (.ref C_Refused) "__setattr__" = some (some (.builtin "object.__setattr__")))
    (ex_Refused : PySem.W.subIn K (.ref C_Refused) (.type "BaseException") = some true)
    (ty_Refused : PySem.W.typeIn K (.ref C_Refused) = some (.type "type"))
    (kC_Refused : PySem.W.keepIn K (.ref C_Refused) = true)
    (ga_Refused : PySem.W.findIn K (.ref C_Refused) "__getattribute__" = some (some (.builtin "BaseException.__getattribute__")))
    (gg_Refused : PySem.W.findIn K (.ref C_Refused) "__getattr__" = some none)
    (hd_Refused : PySem.W.hasDictIn K C_Refused = true)
    (is_Refused : PySem.W.isClsIn K C_Refused = true)
    (iC_Refused : PySem.W.findIn K (.ref C_Refused) "__init__" = some (some (.ref a_Refused_init)))
    (nw_Refused : PySem.W.findIn K (.ref C_Refused) "what" = some none)
    (aC_BadSize : PySem.W.nsIn K mainGlobals "BadSize" = some (some (.ref C_BadSize)))
    (xL_BadSize : K.lookup C_BadSize = some (excClassObj nm_BadSize q_BadSize C_BadSize N_BadSize bs_BadSize bm_BadSize true sn_BadSize sub_BadSize ab_BadSize col_BadSize dd_BadSize m0_BadSize m1_BadSize m2_BadSize m3_BadSize m5_BadSize "ValueError.__new__"))
    (rV_BadSize : PySem.HandSPX.refsVE bm_BadSize = true)
    (sa_BadSize : PySem.W.findIn K (.ref C_BadSize) "__setattr__" = some (some (.builtin "object.__setattr__")))
    (ex_BadSize : PySem.W.subIn K (.ref C_BadSize) (.type "BaseException") = some true)
    (ty_BadSize : PySem.W.typeIn K (.ref C_BadSize) = some (.type "type"))
    (kC_BadSize : PySem.W.keepIn K (.ref C_BadSize) = true)
    (ga_BadSize : PySem.W.findIn K (.ref C_BadSize) "__getattribute__" = some (some (.builtin "BaseException.__getattribute__")))
    (gg_BadSize : PySem.W.findIn K (.ref C_BadSize) "__getattr__" = some none)
    (hd_BadSize : PySem.W.hasDictIn K C_BadSize = true)
    (is_BadSize : PySem.W.isClsIn K C_BadSize = true)
    (iC_BadSize : PySem.W.findIn K (.ref C_BadSize) "__init__" = some (some (.ref a_Refused_init)))
    (nw_BadSize : PySem.W.findIn K (.ref C_BadSize) "what" = some none)
    (aC_BadCoat : PySem.W.nsIn K mainGlobals "BadCoat" = some (some (.ref C_BadCoat)))
    (xL_BadCoat : K.lookup C_BadCoat = some (excClassObj nm_BadCoat q_BadCoat C_BadCoat N_BadCoat bs_BadCoat bm_BadCoat true sn_BadCoat sub_BadCoat ab_BadCoat col_BadCoat dd_BadCoat m0_BadCoat m1_BadCoat m2_BadCoat m3_BadCoat m5_BadCoat "ValueError.__new__"))
    (rV_BadCoat : PySem.HandSPX.refsVE bm_BadCoat = true)
    (sa_BadCoat : PySem.W.findIn K (.ref C_BadCoat) "__setattr__" = some (some (.builtin "object.__setattr__")))
    (ex_BadCoat : PySem.W.subIn K (.ref C_BadCoat) (.type "BaseException") = some true)
    (ty_BadCoat : PySem.W.typeIn K (.ref C_BadCoat) = some (.type "type"))
    (kC_BadCoat : PySem.W.keepIn K (.ref C_BadCoat) = true)
    (ga_BadCoat : PySem.W.findIn K (.ref C_BadCoat) "__getattribute__" = some (some (.builtin "BaseException.__getattribute__")))
    (gg_BadCoat : PySem.W.findIn K (.ref C_BadCoat) "__getattr__" = some none)
    (hd_BadCoat : PySem.W.hasDictIn K C_BadCoat = true)
    (is_BadCoat : PySem.W.isClsIn K C_BadCoat = true)
    (iC_BadCoat : PySem.W.findIn K (.ref C_BadCoat) "__init__" = some (some (.ref a_Refused_init)))
    (nw_BadCoat : PySem.W.findIn K (.ref C_BadCoat) "what" = some none)
    (s_Refused_Refused : PySem.W.subIn K (.ref C_Refused) (.ref C_Refused) = some true)
    (s_Refused_BadSize : PySem.W.subIn K (.ref C_Refused) (.ref C_BadSize) = some false)
    (s_Refused_BadCoat : PySem.W.subIn K (.ref C_Refused) (.ref C_BadCoat) = some false)
    (s_BadSize_Refused : PySem.W.subIn K (.ref C_BadSize) (.ref C_Refused) = some true)
    (s_BadSize_BadSize : PySem.W.subIn K (.ref C_BadSize) (.ref C_BadSize) = some true)
    (s_BadSize_BadCoat : PySem.W.subIn K (.ref C_BadSize) (.ref C_BadCoat) = some false)
    (s_BadCoat_Refused : PySem.W.subIn K (.ref C_BadCoat) (.ref C_Refused) = some true)
    (s_BadCoat_BadSize : PySem.W.subIn K (.ref C_BadCoat) (.ref C_BadSize) = some false)
    (s_BadCoat_BadCoat : PySem.W.subIn K (.ref C_BadCoat) (.ref C_BadCoat) = some true)
    (l_Refused_init : K.lookup a_Refused_init = some ⟨oc_Refused_init, od_Refused_init, .func (PySem.W.fnOf "__init__" "Refused.__init__" (defArgs s_Refused_init) (defBody s_Refused_init) (defScope s_Refused_init) .none kV_Refused_init dc_Refused_init pm_Refused_init an_Refused_init cd_Refused_init ct_Refused_init), sl_Refused_init⟩)
    (co_Refused_init : PySem.W.codeIn K cd_Refused_init "Refused.__init__" = true)
    (k_Refused_init : PySem.W.keepIn K (.ref a_Refused_init) = true)
    (g_is_number : PySem.W.nsIn K mainGlobals "is_number" = some (some (.ref a_is_number)))
    (l_is_number : K.lookup a_is_number = some ⟨oc_is_number, od_is_number, .func (PySem.W.fnOf "is_number" "is_number" (defArgs s_is_number) (defBody s_is_number) (defScope s_is_number) .none kV_is_number dc_is_number pm_is_number an_is_number cd_is_number ct_is_number), sl_is_number⟩)
    (co_is_number : PySem.W.codeIn K cd_is_number "is_number" = true)
    (k_is_number : PySem.W.keepIn K (.ref a_is_number) = true)
    (g_is_below : PySem.W.nsIn K mainGlobals "is_below" = some (some (.ref a_is_below)))
    (l_is_below : K.lookup a_is_below = some ⟨oc_is_below, od_is_below, .func (PySem.W.fnOf "is_below" "is_below" (defArgs s_is_below) (defBody s_is_below) (defScope s_is_below) .none kV_is_below dc_is_below pm_is_below an_is_below cd_is_below ct_is_below), sl_is_below⟩)
    (co_is_below : PySem.W.codeIn K cd_is_below "is_below" = true)
    (k_is_below : PySem.W.keepIn K (.ref a_is_below) = true)
    (g_core_of : PySem.W.nsIn K mainGlobals "core_of" = some (some (.ref a_core_of)))
    (l_core_of : K.lookup a_core_of = some ⟨oc_core_of, od_core_of, .func (PySem.W.fnOf "core_of" "core_of" (defArgs s_core_of) (defBody s_core_of) (defScope s_core_of) .none kV_core_of dc_core_of pm_core_of an_core_of cd_core_of ct_core_of), sl_core_of⟩)
    (co_core_of : PySem.W.codeIn K cd_core_of "core_of" = true)
    (k_core_of : PySem.W.keepIn K (.ref a_core_of) = true)
    (g_places_left : PySem.W.nsIn K mainGlobals "places_left" = some (some (.ref a_places_left)))
    (l_places_left : K.lookup a_places_left = some ⟨oc_places_left, od_places_left, .func (PySem.W.fnOf "places_left" "places_left" (defArgs s_places_left) (defBody s_places_left) (defScope s_places_left) .none kV_places_left dc_places_left pm_places_left an_places_left cd_places_left ct_places_left), sl_places_left⟩)
    (co_places_left : PySem.W.codeIn K cd_places_left "places_left" = true)
    (k_places_left : PySem.W.keepIn K (.ref a_places_left) = true)
    (g_Lpool : PySem.W.nsIn K mainGlobals "_law_pool" = some (some (.ref a_Lpool)))
    (l_Lpool : K.lookup a_Lpool = some ⟨oc_Lpool, od_Lpool, .func (PySem.W.fnOf "_law_pool" "_law_pool" (defArgs s_Lpool) (defBody s_Lpool) (defScope s_Lpool) .none kV_Lpool dc_Lpool pm_Lpool an_Lpool cd_Lpool ct_Lpool), sl_Lpool⟩)
    (co_Lpool : PySem.W.codeIn K cd_Lpool "_law_pool" = true)
    (k_Lpool : PySem.W.keepIn K (.ref a_Lpool) = true)
    (g_Ltake : PySem.W.nsIn K mainGlobals "_law_take" = some (some (.ref a_Ltake)))
    (l_Ltake : K.lookup a_Ltake = some ⟨oc_Ltake, od_Ltake, .func (PySem.W.fnOf "_law_take" "_law_take" (defArgs s_Ltake) (defBody s_Ltake) (defScope s_Ltake) .none kV_Ltake dc_Ltake pm_Ltake an_Ltake cd_Ltake ct_Ltake), sl_Ltake⟩)
    (co_Ltake : PySem.W.codeIn K cd_Ltake "_law_take" = true)
    (k_Ltake : PySem.W.keepIn K (.ref a_Ltake) = true)
    (g_Lone : PySem.W.nsIn K mainGlobals "_law_one" = some (some (.ref a_Lone)))
    (l_Lone : K.lookup a_Lone = some ⟨oc_Lone, od_Lone, .func (PySem.W.fnOf "_law_one" "_law_one" (defArgs s_Lone) (defBody s_Lone) (defScope s_Lone) .none kV_Lone dc_Lone pm_Lone an_Lone cd_Lone ct_Lone), sl_Lone⟩)
    (co_Lone : PySem.W.codeIn K cd_Lone "_law_one" = true)
    (k_Lone : PySem.W.keepIn K (.ref a_Lone) = true)
    (g_Lput : PySem.W.nsIn K mainGlobals "_law_put" = some (some (.ref a_Lput)))
    (l_Lput : K.lookup a_Lput = some ⟨oc_Lput, od_Lput, .func (PySem.W.fnOf "_law_put" "_law_put" (defArgs s_Lput) (defBody s_Lput) (defScope s_Lput) .none kV_Lput dc_Lput pm_Lput an_Lput cd_Lput ct_Lput), sl_Lput⟩)
    (co_Lput : PySem.W.codeIn K cd_Lput "_law_put" = true)
    (k_Lput : PySem.W.keepIn K (.ref a_Lput) = true)
    (g_Lletters : PySem.W.nsIn K mainGlobals "_law_letters" = some (some (.ref a_Lletters)))
    (l_Lletters : K.lookup a_Lletters = some ⟨oc_Lletters, od_Lletters, .func (PySem.W.fnOf "_law_letters" "_law_letters" (defArgs s_Lletters) (defBody s_Lletters) (defScope s_Lletters) .none kV_Lletters dc_Lletters pm_Lletters an_Lletters cd_Lletters ct_Lletters), sl_Lletters⟩)
    (co_Lletters : PySem.W.codeIn K cd_Lletters "_law_letters" = true)
    (k_Lletters : PySem.W.keepIn K (.ref a_Lletters) = true)
    (g_Lturned : PySem.W.nsIn K mainGlobals "_law_turned" = some (some (.ref a_Lturned)))
    (l_Lturned : K.lookup a_Lturned = some ⟨oc_Lturned, od_Lturned, .func (PySem.W.fnOf "_law_turned" "_law_turned" (defArgs s_Lturned) (defBody s_Lturned) (defScope s_Lturned) .none kV_Lturned dc_Lturned pm_Lturned an_Lturned cd_Lturned ct_Lturned), sl_Lturned⟩)
    (co_Lturned : PySem.W.codeIn K cd_Lturned "_law_turned" = true)
    (k_Lturned : PySem.W.keepIn K (.ref a_Lturned) = true)
    (g_Lodd_readings : PySem.W.nsIn K mainGlobals "_law_odd_readings" = some (some (.ref a_Lodd_readings)))
    (l_Lodd_readings : K.lookup a_Lodd_readings = some ⟨oc_Lodd_readings, od_Lodd_readings, .func (PySem.W.fnOf "_law_odd_readings" "_law_odd_readings" (defArgs s_Lodd_readings) (defBody s_Lodd_readings) (defScope s_Lodd_readings) .none kV_Lodd_readings dc_Lodd_readings pm_Lodd_readings an_Lodd_readings cd_Lodd_readings ct_Lodd_readings), sl_Lodd_readings⟩)
    (co_Lodd_readings : PySem.W.codeIn K cd_Lodd_readings "_law_odd_readings" = true)
    (k_Lodd_readings : PySem.W.keepIn K (.ref a_Lodd_readings) = true)
    (g_law : PySem.W.nsIn K mainGlobals "law" = some (some (.ref a_law)))
    (l_law : K.lookup a_law = some ⟨oc_law, od_law, .func (PySem.W.fnOf "law" "law" (defArgs s_law) (defBody s_law) (defScope s_law) .none kV_law dc_law pm_law an_law cd_law ct_law), sl_law⟩)
    (co_law : PySem.W.codeIn K cd_law "law" = true)
    (k_law : PySem.W.keepIn K (.ref a_law) = true)
    (tI : PySem.W.typeIn K (.ref a_Refused_init) = some (.type "function"))
    (c_MOST_COATS : PySem.W.nsIn K mainGlobals "MOST_COATS" = some (some (.int 6 t_MOST_COATS)))
    (c_SHORTEST_ROW : PySem.W.nsIn K mainGlobals "SHORTEST_ROW" = some (some (.int 3 t_SHORTEST_ROW)))
    (c_LONGEST_ROW : PySem.W.nsIn K mainGlobals "LONGEST_ROW" = some (some (.int 40 t_LONGEST_ROW)))
    (n_bool : PySem.W.nsIn K mainGlobals "bool" = some (none))
    (n_enumerate : PySem.W.nsIn K mainGlobals "enumerate" = some (none))
    (n_int : PySem.W.nsIn K mainGlobals "int" = some (none))
    (n_isinstance : PySem.W.nsIn K mainGlobals "isinstance" = some (none))
    (n_len : PySem.W.nsIn K mainGlobals "len" = some (none))
    (n_max : PySem.W.nsIn K mainGlobals "max" = some (none))
    (n_min : PySem.W.nsIn K mainGlobals "min" = some (none))
    (n_range : PySem.W.nsIn K mainGlobals "range" = some (none))
    (n_tuple : PySem.W.nsIn K mainGlobals "tuple" = some (none)) : LawAtS l w K CX0 4 63 "_law_script" mg fa h :=
  law_at X {
    C_Refused := C_Refused,
    e_Refused := ⟨PySem.W.mg_of X G aC_Refused, ⟨⟨_, _, _, _, _, _, _, _, _, _, _, _, _, _, _, xL_Refused, rV_Refused⟩, sa_Refused, ex_Refused, ty_Refused, kC_Refused⟩, ⟨ga_Refused, gg_Refused, ex_Refused, hd_Refused⟩, iC_Refused, nw_Refused⟩,
    C_BadSize := C_BadSize,
    e_BadSize := ⟨PySem.W.mg_of X G aC_BadSize, ⟨⟨_, _, _, _, _, _, _, _, _, _, _, _, _, _, _, xL_BadSize, rV_BadSize⟩, sa_BadSize, ex_BadSize, ty_BadSize, kC_BadSize⟩, ⟨ga_BadSize, gg_BadSize, ex_BadSize, hd_BadSize⟩, iC_BadSize, nw_BadSize⟩,
    C_BadCoat := C_BadCoat,
    e_BadCoat := ⟨PySem.W.mg_of X G aC_BadCoat, ⟨⟨_, _, _, _, _, _, _, _, _, _, _, _, _, _, _, xL_BadCoat, rV_BadCoat⟩, sa_BadCoat, ex_BadCoat, ty_BadCoat, kC_BadCoat⟩, ⟨ga_BadCoat, gg_BadCoat, ex_BadCoat, hd_BadCoat⟩, iC_BadCoat, nw_BadCoat⟩,
    x_Refused_Refused := exm_by ex_Refused is_Refused ty_Refused s_Refused_Refused,
    x_Refused_BadSize := exm_by ex_BadSize is_BadSize ty_BadSize s_Refused_BadSize,
    x_Refused_BadCoat := exm_by ex_BadCoat is_BadCoat ty_BadCoat s_Refused_BadCoat,
    x_BadSize_Refused := exm_by ex_Refused is_Refused ty_Refused s_BadSize_Refused,
    x_BadSize_BadSize := exm_by ex_BadSize is_BadSize ty_BadSize s_BadSize_BadSize,
    x_BadSize_BadCoat := exm_by ex_BadCoat is_BadCoat ty_BadCoat s_BadSize_BadCoat,
    x_BadCoat_Refused := exm_by ex_Refused is_Refused ty_Refused s_BadCoat_Refused,
    x_BadCoat_BadSize := exm_by ex_BadSize is_BadSize ty_BadSize s_BadCoat_BadSize,
    x_BadCoat_BadCoat := exm_by ex_BadCoat is_BadCoat ty_BadCoat s_BadCoat_BadCoat,
    a_Refused_init := a_Refused_init,
    d_Refused_init := (PySem.W.fnOf "__init__" "Refused.__init__" (defArgs s_Refused_init) (defBody s_Refused_init) (defScope s_Refused_init) .none kV_Refused_init dc_Refused_init pm_Refused_init an_Refused_init cd_Refused_init ct_Refused_init),
    F_Refused_init := fun_mk l_Refused_init co_Refused_init k_Refused_init,
    b_Refused_init := (fun_mk (st := s_Refused_init) l_Refused_init co_Refused_init k_Refused_init).binds (ps := ["self", "what"]) (fun _ _ _ _ _ _ us hl => match us, hl with | [_, _], _ => rfl),
    g_is_number := PySem.W.mg_of X G g_is_number,
    a_is_number := a_is_number,
    d_is_number := (PySem.W.fnOf "is_number" "is_number" (defArgs s_is_number) (defBody s_is_number) (defScope s_is_number) .none kV_is_number dc_is_number pm_is_number an_is_number cd_is_number ct_is_number),
    F_is_number := fun_mk l_is_number co_is_number k_is_number,
    b_is_number := (fun_mk (st := s_is_number) l_is_number co_is_number k_is_number).binds (ps := ["value"]) (fun _ _ _ _ _ _ us hl => match us, hl with | [_], _ => rfl),
    g_is_below := PySem.W.mg_of X G g_is_below,
    a_is_below := a_is_below,
    d_is_below := (PySem.W.fnOf "is_below" "is_below" (defArgs s_is_below) (defBody s_is_below) (defScope s_is_below) .none kV_is_below dc_is_below pm_is_below an_is_below cd_is_below ct_is_below),
    F_is_below := fun_mk l_is_below co_is_below k_is_below,
    b_is_below := (fun_mk (st := s_is_below) l_is_below co_is_below k_is_below).binds (ps := ["value", "limit"]) (fun _ _ _ _ _ _ us hl => match us, hl with | [_, _], _ => rfl),
    g_core_of := PySem.W.mg_of X G g_core_of,
    a_core_of := a_core_of,
    d_core_of := (PySem.W.fnOf "core_of" "core_of" (defArgs s_core_of) (defBody s_core_of) (defScope s_core_of) .none kV_core_of dc_core_of pm_core_of an_core_of cd_core_of ct_core_of),
    F_core_of := fun_mk l_core_of co_core_of k_core_of,
    b_core_of := (fun_mk (st := s_core_of) l_core_of co_core_of k_core_of).binds (ps := ["row"]) (fun _ _ _ _ _ _ us hl => match us, hl with | [_], _ => rfl),
    g_places_left := PySem.W.mg_of X G g_places_left,
    a_places_left := a_places_left,
    d_places_left := (PySem.W.fnOf "places_left" "places_left" (defArgs s_places_left) (defBody s_places_left) (defScope s_places_left) .none kV_places_left dc_places_left pm_places_left an_places_left cd_places_left ct_places_left),
    F_places_left := fun_mk l_places_left co_places_left k_places_left,
    b_places_left := (fun_mk (st := s_places_left) l_places_left co_places_left k_places_left).binds (ps := ["row"]) (fun _ _ _ _ _ _ us hl => match us, hl with | [_], _ => rfl),
    g_Lpool := PySem.W.mg_of X G g_Lpool,
    a_Lpool := a_Lpool,
    d_Lpool := (PySem.W.fnOf "_law_pool" "_law_pool" (defArgs s_Lpool) (defBody s_Lpool) (defScope s_Lpool) .none kV_Lpool dc_Lpool pm_Lpool an_Lpool cd_Lpool ct_Lpool),
    F_Lpool := fun_mk l_Lpool co_Lpool k_Lpool,
    b_Lpool := (fun_mk (st := s_Lpool) l_Lpool co_Lpool k_Lpool).binds (ps := ["_law_script", "_law_k"]) (fun _ _ _ _ _ _ us hl => match us, hl with | [_, _], _ => rfl),
    g_Ltake := PySem.W.mg_of X G g_Ltake,
    a_Ltake := a_Ltake,
    d_Ltake := (PySem.W.fnOf "_law_take" "_law_take" (defArgs s_Ltake) (defBody s_Ltake) (defScope s_Ltake) .none kV_Ltake dc_Ltake pm_Ltake an_Ltake cd_Ltake ct_Ltake),
    F_Ltake := fun_mk l_Ltake co_Ltake k_Ltake,
    b_Ltake := (fun_mk (st := s_Ltake) l_Ltake co_Ltake k_Ltake).binds (ps := ["_law_source", "_law_top"]) (fun _ _ _ _ _ _ us hl => match us, hl with | [_, _], _ => rfl),
    g_Lone := PySem.W.mg_of X G g_Lone,
    a_Lone := a_Lone,
    d_Lone := (PySem.W.fnOf "_law_one" "_law_one" (defArgs s_Lone) (defBody s_Lone) (defScope s_Lone) .none kV_Lone dc_Lone pm_Lone an_Lone cd_Lone ct_Lone),
    F_Lone := fun_mk l_Lone co_Lone k_Lone,
    b_Lone := (fun_mk (st := s_Lone) l_Lone co_Lone k_Lone).binds (ps := ["_law_source", "_law_things"]) (fun _ _ _ _ _ _ us hl => match us, hl with | [_, _], _ => rfl),
    g_Lput := PySem.W.mg_of X G g_Lput,
    a_Lput := a_Lput,
    d_Lput := (PySem.W.fnOf "_law_put" "_law_put" (defArgs s_Lput) (defBody s_Lput) (defScope s_Lput) .none kV_Lput dc_Lput pm_Lput an_Lput cd_Lput ct_Lput),
    F_Lput := fun_mk l_Lput co_Lput k_Lput,
    b_Lput := (fun_mk (st := s_Lput) l_Lput co_Lput k_Lput).binds (ps := ["_law_row", "_law_at", "_law_thing"]) (fun _ _ _ _ _ _ us hl => match us, hl with | [_, _, _], _ => rfl),
    g_Lletters := PySem.W.mg_of X G g_Lletters,
    a_Lletters := a_Lletters,
    d_Lletters := (PySem.W.fnOf "_law_letters" "_law_letters" (defArgs s_Lletters) (defBody s_Lletters) (defScope s_Lletters) .none kV_Lletters dc_Lletters pm_Lletters an_Lletters cd_Lletters ct_Lletters),
    F_Lletters := fun_mk l_Lletters co_Lletters k_Lletters,
    b_Lletters := (fun_mk (st := s_Lletters) l_Lletters co_Lletters k_Lletters).binds (ps := ["_law_source", "_law_n", "_law_coats"]) (fun _ _ _ _ _ _ us hl => match us, hl with | [_, _, _], _ => rfl),
    g_Lturned := PySem.W.mg_of X G g_Lturned,
    a_Lturned := a_Lturned,
    d_Lturned := (PySem.W.fnOf "_law_turned" "_law_turned" (defArgs s_Lturned) (defBody s_Lturned) (defScope s_Lturned) .none kV_Lturned dc_Lturned pm_Lturned an_Lturned cd_Lturned ct_Lturned),
    F_Lturned := fun_mk l_Lturned co_Lturned k_Lturned,
    b_Lturned := (fun_mk (st := s_Lturned) l_Lturned co_Lturned k_Lturned).binds (ps := ["_law_row", "_law_by"]) (fun _ _ _ _ _ _ us hl => match us, hl with | [_, _], _ => rfl),
    g_Lodd_readings := PySem.W.mg_of X G g_Lodd_readings,
    a_Lodd_readings := a_Lodd_readings,
    d_Lodd_readings := (PySem.W.fnOf "_law_odd_readings" "_law_odd_readings" (defArgs s_Lodd_readings) (defBody s_Lodd_readings) (defScope s_Lodd_readings) .none kV_Lodd_readings dc_Lodd_readings pm_Lodd_readings an_Lodd_readings cd_Lodd_readings ct_Lodd_readings),
    F_Lodd_readings := fun_mk l_Lodd_readings co_Lodd_readings k_Lodd_readings,
    b_Lodd_readings := (fun_mk (st := s_Lodd_readings) l_Lodd_readings co_Lodd_readings k_Lodd_readings).binds (ps := ["_law_core"]) (fun _ _ _ _ _ _ us hl => match us, hl with | [_], _ => rfl),
    g_law := PySem.W.mg_of X G g_law,
    a_law := a_law,
    d_law := (PySem.W.fnOf "law" "law" (defArgs s_law) (defBody s_law) (defScope s_law) .none kV_law dc_law pm_law an_law cd_law ct_law),
    F_law := fun_mk l_law co_law k_law,
    b_law := (fun_mk (st := s_law) l_law co_law k_law).binds (ps := ["_law_script"]) (fun _ _ _ _ _ _ us hl => match us, hl with | [_], _ => rfl),
    tI := tI,
    t_MOST_COATS := t_MOST_COATS,
    c_MOST_COATS := PySem.W.mg_of X G c_MOST_COATS,
    t_SHORTEST_ROW := t_SHORTEST_ROW,
    c_SHORTEST_ROW := PySem.W.mg_of X G c_SHORTEST_ROW,
    t_LONGEST_ROW := t_LONGEST_ROW,
    c_LONGEST_ROW := PySem.W.mg_of X G c_LONGEST_ROW,
    n_bool := PySem.W.mg_none_of X G n_bool,
    n_enumerate := PySem.W.mg_none_of X G n_enumerate,
    n_int := PySem.W.mg_none_of X G n_int,
    n_isinstance := PySem.W.mg_none_of X G n_isinstance,
    n_len := PySem.W.mg_none_of X G n_len,
    n_max := PySem.W.mg_none_of X G n_max,
    n_min := PySem.W.mg_none_of X G n_min,
    n_range := PySem.W.mg_none_of X G n_range,
    n_tuple := PySem.W.mg_none_of X G n_tuple } hfa fun s u => .of_eq rfl
end R
end

-- Final
section
open PySem PySem.W PyProof.Rows
set_option Elab.async false
set_option maxRecDepth 100000 in
set_option maxHeartbeats 0 in
theorem PySem.Challenge.cw_pairfloors_k32_cores_of_turned_rows_holds : PySem.Challenge.rw_pairfloors_k32_cores_of_turned_rows.Holds := by
  w_on; o_law; k_head; (case hw => w_witness2)
  k_fill
  refine LamX.walk_ofTs (l := PySem.Challenge.rw_pairfloors_k32_cores_of_turned_rows) (n := 63) (k := 4) (CX := fun _ => L2.CX0) (x := "_law_script") rfl (by decide) rfl ⟨rfl, by decide, by decide⟩ (fun w h Y => PySem.W.kIn_of Y) ?F (fun _ _ _ _ _ z => z)
  case F =>
    intro w mg fa h Y KX G hmg
    refine' R.all_mk KX G hmg ?aC_Refused ?xL_Refused ?rV_Refused ?sa_Refused ?ex_Refused ?ty_Refused ?kC_Refused ?ga_Refused ?gg_Refused ?hd_Refused ?is_Refused ?iC_Refused ?nw_Refused ?aC_BadSize ?xL_BadSize ?rV_BadSize ?sa_BadSize ?ex_BadSize ?ty_BadSize ?kC_BadSize ?ga_BadSize ?gg_BadSize ?hd_BadSize ?is_BadSize ?iC_BadSize ?nw_BadSize ?aC_BadCoat ?xL_BadCoat ?rV_BadCoat ?sa_BadCoat ?ex_BadCoat ?ty_BadCoat ?kC_BadCoat ?ga_BadCoat ?gg_BadCoat ?hd_BadCoat ?is_BadCoat ?iC_BadCoat ?nw_BadCoat ?s_Refused_Refused ?s_Refused_BadSize ?s_Refused_BadCoat ?s_BadSize_Refused ?s_BadSize_BadSize ?s_BadSize_BadCoat ?s_BadCoat_Refused ?s_BadCoat_BadSize ?s_BadCoat_BadCoat ?l_Refused_init ?co_Refused_init ?k_Refused_init ?g_is_number ?l_is_number ?co_is_number ?k_is_number ?g_is_below ?l_is_below ?co_is_below ?k_is_below ?g_core_of ?l_core_of ?co_core_of ?k_core_of ?g_places_left ?l_places_left ?co_places_left ?k_places_left ?g_Lpool ?l_Lpool ?co_Lpool ?k_Lpool ?g_Ltake ?l_Ltake ?co_Ltake ?k_Ltake ?g_Lone ?l_Lone ?co_Lone ?k_Lone ?g_Lput ?l_Lput ?co_Lput ?k_Lput ?g_Lletters ?l_Lletters ?co_Lletters ?k_Lletters ?g_Lturned ?l_Lturned ?co_Lturned ?k_Lturned ?g_Lodd_readings ?l_Lodd_readings ?co_Lodd_readings ?k_Lodd_readings ?g_law ?l_law ?co_law ?k_law ?tI ?c_MOST_COATS ?c_SHORTEST_ROW ?c_LONGEST_ROW ?n_bool ?n_enumerate ?n_int ?n_isinstance ?n_len ?n_max ?n_min ?n_range ?n_tuple
    case aC_Refused => k_is
    case xL_Refused => k_is
    case rV_Refused => first | rfl | decide +kernel | k_is
    case sa_Refused => k_is
    case ex_Refused => k_is
    case ty_Refused => k_is
    case kC_Refused => k_is
    case ga_Refused => k_is
    case gg_Refused => k_is
    case hd_Refused => k_is
    case is_Refused => k_is
    case iC_Refused => k_is
    case nw_Refused => k_is
    case aC_BadSize => k_is
    case xL_BadSize => k_is
    case rV_BadSize => first | rfl | decide +kernel | k_is
    case sa_BadSize => k_is
    case ex_BadSize => k_is
    case ty_BadSize => k_is
    case kC_BadSize => k_is
    case ga_BadSize => k_is
    case gg_BadSize => k_is
    case hd_BadSize => k_is
    case is_BadSize => k_is
    case iC_BadSize => k_is
    case nw_BadSize => k_is
    case aC_BadCoat => k_is
    case xL_BadCoat => k_is
    case rV_BadCoat => first | rfl | decide +kernel | k_is
    case sa_BadCoat => k_is
    case ex_BadCoat => k_is
    case ty_BadCoat => k_is
    case kC_BadCoat => k_is
    case ga_BadCoat => k_is
    case gg_BadCoat => k_is
    case hd_BadCoat => k_is
    case is_BadCoat => k_is
    case iC_BadCoat => k_is
    case nw_BadCoat => k_is
    case s_Refused_Refused => first | rfl | k_is | decide +kernel
    case s_Refused_BadSize => first | rfl | k_is | decide +kernel
    case s_Refused_BadCoat => first | rfl | k_is | decide +kernel
    case s_BadSize_Refused => first | rfl | k_is | decide +kernel
    case s_BadSize_BadSize => first | rfl | k_is | decide +kernel
    case s_BadSize_BadCoat => first | rfl | k_is | decide +kernel
    case s_BadCoat_Refused => first | rfl | k_is | decide +kernel
    case s_BadCoat_BadSize => first | rfl | k_is | decide +kernel
    case s_BadCoat_BadCoat => first | rfl | k_is | decide +kernel
    case l_Refused_init => k_is
    case co_Refused_init => k_is
    case k_Refused_init => k_is
    case g_is_number => k_is
    case l_is_number => k_is
    case co_is_number => k_is
    case k_is_number => k_is
    case g_is_below => k_is
    case l_is_below => k_is
    case co_is_below => k_is
    case k_is_below => k_is
    case g_core_of => k_is
    case l_core_of => k_is
    case co_core_of => k_is
    case k_core_of => k_is
    case g_places_left => k_is
    case l_places_left => k_is
    case co_places_left => k_is
    case k_places_left => k_is
    case g_Lpool => k_is
    case l_Lpool => k_is
    case co_Lpool => k_is
    case k_Lpool => k_is
    case g_Ltake => k_is
    case l_Ltake => k_is
    case co_Ltake => k_is
    case k_Ltake => k_is
    case g_Lone => k_is
    case l_Lone => k_is
    case co_Lone => k_is
    case k_Lone => k_is
    case g_Lput => k_is
    case l_Lput => k_is
    case co_Lput => k_is
    case k_Lput => k_is
    case g_Lletters => k_is
    case l_Lletters => k_is
    case co_Lletters => k_is
    case k_Lletters => k_is
    case g_Lturned => k_is
    case l_Lturned => k_is
    case co_Lturned => k_is
    case k_Lturned => k_is
    case g_Lodd_readings => k_is
    case l_Lodd_readings => k_is
    case co_Lodd_readings => k_is
    case k_Lodd_readings => k_is
    case g_law => k_is
    case l_law => k_is
    case co_law => k_is
    case k_law => k_is
    case tI => k_is
    case c_MOST_COATS => k_is
    case c_SHORTEST_ROW => k_is
    case c_LONGEST_ROW => k_is
    case n_bool => k_is
    case n_enumerate => k_is
    case n_int => k_is
    case n_isinstance => k_is
    case n_len => k_is
    case n_max => k_is
    case n_min => k_is
    case n_range => k_is
    case n_tuple => k_is
end
