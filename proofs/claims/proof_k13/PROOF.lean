import PyProof.Rows.All
import Wide.All
import OpenK.AllK
import Wide.FinOn
import HandS.ForMost
import HandS.Exc
import HandS.ExcOwn
import HandS.ExcInit
import HandS.ExcField
import HandS.TryMany
import HandS.WordsExc
import HandS.Nested
import HandS.Walk
import HandS.IsInst
import HandS.TupLe
import HandS.TupAny
import HandS.Wide
import HandS.Deep
import HandS.SortRule
import HandS.DictComp
import HandS.Conv
import HandS.Lambda
import KE.GoesMore
import KE.GoesEnum
import KE.KNestM
import PySem.Challenge.RW_pairfloors_k13_links_and_cells_put_and_t
import PyProof.TupleOfSeq
import HandS.ExcValue
import HandS.WideMore
import HandS.SortInts
import HandS.EndTab
import KE.KLam
-- Lam
section
set_option Elab.async false
set_option linter.all false
set_option maxRecDepth 100000
set_option maxHeartbeats 4000000
/-! Lam: a lambda with parameters is made in a def, handed to a second def and called there. -/
namespace LamP
open PySem PySem.Spec PyProof.Rows L2 LamX NdefX
/-- at f stands what `lambda ..: b` makes -/
def LamIs (h : Heap) (f : Addr) (F : NF) (b : Expr) : Prop :=
  ∃ od sl pm ctv, h.get? f = some { cls := .type "function", dict := od, data := .func (PySem.W.kla_fn "<lambda>" F.qual F.params b F.scope F.cl pm (.ref F.c) ctv), slots := sl }
def LamO (f : Addr) (F : NF) (b : Expr) : HO := .ext fun h => LamIs h f F b
theorem lamO_ne {f : Addr} {F : NF} {b : Expr} (ps : Array Value) : LamO f F b ≠ .tbl ps := by
  unfold LamO
  exact fun z => HO.noConfusion z
theorem lam_is {P : Program} {w : World} {H : Hp} {h : Heap} {f : Addr} {F : NF} {b : Expr} (hok : HOk P w H h) (e : H f = some (LamO f F b)) : LamIs h f F b :=
  (show LamIs h f F b ∧ _ ∧ _ from hok f _ e).1
section
variable {T : List NTab} {H : Hp} {P c' : Addr} {ps : Array Value} {pos : Pos} {q : Str}
/-- the table at P has a new row, for the code object at c' -/
def grow (H : Hp) (P : Addr) (ps : Array Value) (pos : Pos) (c' : Addr) (q : Str) : Hp := upd (upd H P (.tbl (ps ++ #[rawInt pos.line, rawInt pos.col, .ref c']))) c' (CodeO c' q)
theorem grow_other {b : Addr} (h1 : b ≠ P) (h2 : b ≠ c') : grow H P ps pos c' q b = H b := (upd_ne h2).trans (upd_ne h1)
theorem grow_kept (hP : H P = some (.tbl ps)) (nC : H c' = none) : ExtN H (grow H P ps pos c' q) := by
  intro b o e plain
  refine (grow_other (fun z => ?_) (ne_of_none e nC)).trans e
  subst z
  exact plain ps (Option.some.inj (e.symm.trans hP))
theorem grow_none {b : Addr} (e : grow H P ps pos c' q b = none) : H b = none := upd_none (upd_none e)
theorem grow_tabs (hT : TabsN T H) (hP : H P = some (.tbl ps)) (well : TriplesOk ps.toList) (only : ∀ p ∈ T, p.1 = P → p.2 = fun _ _ => q) (nC : H c' = none) : TabsN T (grow H P ps pos c' q) := by
  intro p hp
  obtain ⟨qs, at_, ok, rows⟩ := hT p hp
  have keep := grow_kept (pos := pos) (q := q) hP nC
  by_cases here : p.1 = P
  · have same : qs = ps := by
      rw [here, hP] at at_
      cases at_
      rfl
    subst same
    refine ⟨qs ++ #[rawInt pos.line, rawInt pos.col, .ref c'], ?_, ?_, fun pos2 cv found => ?_⟩
    · rw [here]
      exact (upd_ne (ne_of_none hP nC)).trans upd_same
    · rw [Array.toList_append]
      exact PySem.TriplesOk_snoc _ _ _ _ ok
    · rw [Array.toList_append] at found
      rcases among_app2 _ ok found with old | ⟨new, _⟩
      · obtain ⟨c0, e1, e2⟩ := rows pos2 cv old
        exact ⟨c0, e1, keep _ _ e2 codeO_ne⟩
      · exact ⟨c', new, by rw [only p hp here]; exact upd_same⟩
  · refine ⟨qs, ?_, ok, fun pos2 cv found => ?_⟩
    · exact (grow_other here (ne_of_none at_ nC)).trans at_
    · exact (rows pos2 cv found).imp fun _ z => ⟨z.1, keep _ _ z.2 codeO_ne⟩
end
/-- a lambda made: F its data but for the code object's place -/
structure Made (T : List NTab) (F : Addr → NF) (b : Expr) (H H1 : Hp) (f c' : Addr) : Prop where
  kept : ExtN H H1
  back : ∀ a, H1 a = none → H a = none
  tabs : TabsN T H1
  new : H f = none
  lam : H1 f = some (LamO f (F c') b)
  code : H1 c' = some (CodeO c' (F c').qual)
theorem made_of {T : List NTab} {F : Addr → NF} {b : Expr} {H H1 : Hp} {f c' : Addr} (kept : ExtN H H1) (back : ∀ a, H1 a = none → H a = none) (tabs : TabsN T H1) (n1 : H1 f = none) (code : H1 c' = some (CodeO c' (F c').qual)) : Made T F b H (upd H1 f (LamO f (F c') b)) f c' :=
  have step : ∀ a o, H1 a = some o → upd H1 f (LamO f (F c') b) a = some o := fun a o e => (upd_ne (ne_of_none e n1)).trans e
  ⟨fun a o e p => step a o (kept a o e p), fun a e => back a (upd_none e), tabs.ext step, back f n1, upd_same, step c' _ code⟩
section
variable {X : Cx} {pins : List (Addr × Obj)} {σ : L2.St} {H : Hp} {s : Shared}
/-- its function object laid on top of the heap -/
theorem inv_lam {F : NF} {b : Expr} {tk : Nat} {pm ctv : Value} (I : Inv X pins σ H s) :
    Inv X pins σ (upd H s.heap.objs.size (LamO s.heap.objs.size F b)) { s with heap := s.heap.push (PySem.W.kla_obj "<lambda>" F.qual F.params b F.scope F.cl pm F.c ctv), toks := tk } := by
  have top := Heap.get?_push_size s.heap (o := PySem.W.kla_obj "<lambda>" F.qual F.params b F.scope F.cl pm F.c ctv) rfl
  refine I.laid (fun _ _ e => Heap.get?_push_of_some _ e) (Nat.le_refl _) ⟨⟨_, _, _, _, top⟩, ⟨_, top⟩, fun _ _ is st => ?_⟩
  exact is.imp fun _ y => y.imp fun _ y => y.imp fun _ y => y.imp fun _ e => st _ e
def mkLam (X : Cx) (params : Arguments) (scope : Scope) (c' : Addr) : NF := ⟨"<lambda>", X.env.qual ++ "<lambda>", params, [], scope, cloFrom X.env.cells scope.names [], c'⟩
/-- the reading of a lambda: a new function object -/
def tLamE (T : List NTab) (mk : Addr → NF) (b : Expr) : TE := fun σ H Q => TabsN T H ∧ ∀ (f c' : Addr) (H1 : Hp), Made T mk b H H1 f c' → Q (.ref f) H1
theorem pe_lam {T : List NTab} {c P : Addr} {params : Arguments} {body : Expr} {scope : Scope} {pos : Pos} (TB : TabB X.base X.mg c P) (hcode : X.env.code = .ref c) (mem : (P, fun _ _ => X.env.qual ++ "<lambda>") ∈ T)
    (only : ∀ p ∈ T, p.1 = P → p.2 = fun _ _ => X.env.qual ++ "<lambda>") (hdef : defaultsOf params X.env = ([], []))
    (hfree : ∀ y ∈ scope.names, y.2 = .free → X.env.scope.names.lookup y.1 = some .cell ∨ X.env.scope.names.lookup y.1 = some .free) : PE X (.Lambda params body scope pos) (tLamE T (mkLam X params scope) body) := by
  constructor
  rintro pins s σ H Q I ⟨hT, h⟩
  have clo := closure_ok (scope := scope) (env := X.env) fun y hy e => I.ok.has _ (hfree y hy e)
  obtain ⟨ps, hP, well, rows⟩ := (hT _ mem : TabN H P fun _ _ => X.env.qual ++ "<lambda>")
  have inP : s.heap.get? P = some (PySem.W.tabObj ps) := I.hok P _ hP
  have ends : ∀ {g : Heap} {tk : Nat} {H1 : Hp} {c1 : Addr} (ctv : Value), Inv X pins σ H1 { s with heap := g, toks := tk } → ExtN H H1 → (∀ a, H1 a = none → H a = none) → TabsN T H1 → H1 c1 = some (CodeO c1 (X.env.qual ++ "<lambda>")) →
      EP X pins σ Q (.ref g.objs.size) { s with heap := g.push (PySem.W.kla_obj "<lambda>" (X.env.qual ++ "<lambda>") params body scope (cloFrom X.env.cells scope.names []) ((X.mg "__name__").getD .none) c1 ctv), toks := tk } := fun ctv J kept back tabs code =>
    ⟨.ref _, _, inv_lam (F := mkLam X params scope _) J, rfl, h _ _ _ (made_of kept back tabs (J.hok.fresh (Nat.le_refl _)) code)⟩
  refine PySem.W.kla_eval hdef ?_
  rcases known : codeAmong pos ps.toList with _ | cv
  · refine PySem.W.kla_makeFunction clo I.ok.glob (I.mod.glob.keeps I.bk) hcode (TB.code.keeps I.bk) inP well known TB.gP (TB.bm.keeps I.bk) fun c1 ctv g tk but new _ rec row => ?_
    obtain ⟨_, oc, vs, t, same, hoc, hd, hv⟩ := rec
    cases same
    have nC := I.hok.fresh new
    have J : Inv X pins σ (grow H P ps pos c1 (X.env.qual ++ "<lambda>")) { s with heap := g, toks := tk } := inv_table I hP (fun b o hb e => but b o hb e) row new ⟨oc, vs, t, hoc, hd, hv⟩
    exact ends ctv J (grow_kept hP nC) (fun _ => grow_none) (grow_tabs hT hP well only nC) upd_same
  · obtain ⟨c1, rfl, code⟩ := rows pos cv known
    exact PySem.W.kla_makeFunctionHit clo I.ok.glob (I.mod.glob.keeps I.bk) hcode (TB.code.keeps I.bk) inP well known (TB.bm.keeps I.bk) fun ctv g tk kept _ =>
      ends ctv (I.kept kept) (ExtN.refl H) (fun _ e => e) hT code
end
/-! ### the lambda called -/
/-- the lambda F at f keeps sp, called at a room of k -/
structure LOk (P : Program) (w : World) (K : PySem.W.Frag) (mg : Str → Option Value) (base : Heap) (CX : CXT) (k : Nat) (f : Addr) (F : NF) (b : Expr) (ps fr : List Str) (sp : List (Option V) → Sp) : Prop where
  len : ∀ ws vs H Q E, sp ws vs H Q E → vs.length = ps.length
  run : ∀ A outer s H us vs ws Q E, Room k A → Env0 P w K mg base A outer s H → H f = some (LamO f F b) ∧ H F.c = some (CodeO F.c F.qual) → CellsAt F.cl fr ws s.heap H → Vals vs us → sp ws vs H Q E → codeAny (model P w) A (.call (.ref f) ⟨us, []⟩) (CR CX outer P w H s Q E) s
theorem lok_of {CX : CXT} {P : Program} {w : World} {K : PySem.W.Frag} {mg : Str → Option Value} {base : Heap} {N ps fr : List Str} {F : NF} {b : Expr} {f : Addr} {k : Nat} {sp : List (Option V) → Sp}
    (S : NScope N ps fr F.scope) (binds : ∀ (pm ctv : Value) (us : List Value), us.length = ps.length → bindArgs (PySem.W.kla_fn "<lambda>" F.qual F.params b F.scope F.cl pm (.ref F.c) ctv) ⟨us, []⟩ = pure (ps.zip us)) (len : ∀ ws vs H Q E, sp ws vs H Q E → vs.length = ps.length)
    (body : ∀ A outer s H vs ws Q E, Room k (A.deeper (envF F f s.heap.objs.size)) → H f = some (LamO f F b) → H F.c = some (CodeO F.c F.qual) → ws.length = fr.length → sp ws vs H Q E → ∃ t, PE (ncx CX P w K mg base N F f A outer s H E) b t ∧ t (startF N vs ws) H Q) :
    LOk P w K mg base CX (k + 1) f F b ps fr sp := by
  refine ⟨len, ?_⟩
  rintro A outer s H us vs ws Q E room e0 ⟨lam, code⟩ cells rel pre
  have n := len _ _ _ _ _ pre
  obtain ⟨od, sl, pm, ctv, at_⟩ := lam_is e0.hok lam
  have noLimit := e0.mod.nolimit.keeps fun b o e => (e0.bs b o e).1
  apply PySem.W.kla_callFunE room.depth at_ rfl S.co S.gen rfl (codeO_at e0.hok code)
  rw [binds pm ctv us (rel.length ▸ n)]
  refine wpAny_pure (wpAny_newFunctionEnv S.nocell (fun y hy => S.par y.1 (List.of_mem_zip hy).1) (fun g frame but => ⟨noLimit.fresh _ but, ?_⟩) S.kind)
  obtain ⟨t, reads, goal⟩ := body A outer s H vs ws Q E (room.deeper _) lam code cells.len pre
  have start := inv_startN (CX := CX) (E := E) (f := f) (tk := s.toks + (ps.zip us).length) S room.hd e0 n rel cells frame fun b o e => but.extBut b o (Nat.ne_of_lt (Heap.lt_size e)) (Heap.get?_push_of_some _ e)
  exact PySem.W.kla_codeExpr (wpAny_mono (reads.run [] _ _ H Q start goal) (fun v s' out => out.elim fun w' z => z.elim fun H' ⟨J, rv, q⟩ => ⟨w', H', J.os, J.bare, J.base, J.hok, rv, q⟩) fun _ _ z => z)
/-- the captured cells, as they were when the running def began: it has no way to them but this lambda -/
theorem cells_later {X : Cx} {pins : List (Addr × Obj)} {σ : L2.St} {H : Hp} {s : Shared} {cl : List (Str × Addr)} {fr : List Str} {ws : List (Option V)} (C : CellsAt cl fr ws X.s_0.heap X.H_0) (none_ : X.ex = []) (I : Inv X pins σ H s) : CellsAt cl fr ws s.heap H := by
  have out : ∀ c : Addr, c ∉ X.ex := by simp [none_]
  have stays : ∀ {y c}, cl.lookup y = some c → ∀ {v}, X.s_0.heap.IsCell c v → s.heap.IsCell c v := by
    rintro y c e v ⟨o, at_, d⟩
    exact (I.base.any at_ (C.all y c e).1 (out c)).elim fun sl z => ⟨_, z, d⟩
  constructor
  · exact C.len
  · intro y c e
    have ⟨un, v, cell⟩ := C.all y c e
    exact ⟨cell.elim fun o z => I.base.free c o z.1 un (out c), v, stays e cell⟩
  · exact C.inj
  · intro i y e
    have ⟨c, at_, holds⟩ := C.has i y e
    exact ⟨c, at_, fun v ev => (holds v ev).imp fun u z => ⟨z.1, stays at_ z.2⟩⟩
/-- a call's end, read by its caller -/
theorem call_ends {X : Cx} {CX : CXT} {pins : List (Addr × Obj)} {σ : L2.St} {H : Hp} {s : Shared} {Q : VK} {E : XK} {v : Value} {us : List Value} (hx : Passes CX X E) (I : Inv X pins σ H s) (h : codeAny (model X.prog X.w) X.A (.call v ⟨us, []⟩) (CR CX X.stack X.prog X.w H s Q E) s) :
    wpAny (model X.prog X.w) X.A (call v us) (EP X pins σ Q) X.xe s := by
  refine wpAny_call (codeAny_mono h ?_)
  rintro (e | fl) s' z
  · exact hx pins σ H s e s' I z
  · match fl, z with
    | .ret u, z => exact I.after z
/-- g(..), g the name i of the running def that was handed the lambda F; ws: what its cells hold -/
def tCallF (f : Addr) (F : NF) (b : Expr) (i : Nat) (ws : List (Option V)) (sp : List (Option V) → Sp) (E : XK) (t : TA) : TE := fun σ H Q => σ[i]? = some (some (.ref f)) ∧ H f = some (LamO f F b) ∧
  t σ H fun vs H1 => (H1 f = some (LamO f F b) ∧ H1 F.c = some (CodeO F.c F.qual)) ∧ sp ws vs H1 Q E
theorem pe_callF {X : Cx} {CX : CXT} {f : Addr} {F : NF} {b : Expr} {ps fr : List Str} {ws : List (Option V)} {i j k : Nat} {x : Str} {sp : List (Option V) → Sp} {E : XK} {t : TA} {e : Expr} {es : List Expr} {p pos : Pos}
    (Fn : LOk X.prog X.w X.K X.mg X.base CX k f F b ps fr sp) (C : CellsAt F.cl fr ws X.s_0.heap X.H_0) (hex : X.ex = []) (hr : Room j X.A) (hk : k ≤ j) (hx : Passes CX X E) (hN : X.N[i]? = some x) (hv : Vis X.env.scope x) (ha : PA X (e :: es) t)
    (hd : (x == ("__debug__" : Str)) = false := by decide) (hcd : (x == ("__classdict__" : Str)) = false := by decide)
    (he : starEach (e :: es) X.env = (false, eval e X.env) :: starEach es X.env := by rfl) (hpl : (backTo pos (starEach es X.env)).any (·.1) = false := by rfl) :
    PE X (.Call (.Name x p) (e :: es) [] pos) (tCallF f F b i ws sp E t) := by
  constructor
  rintro pins s σ H Q I ⟨var, lam, args⟩
  have fn : ∀ {σ H s}, Inv X pins σ H s → H f = some (LamO f F b) → PySem.W.FnAt f s.heap := fun I e => (lam_is I.hok e).elim fun od z => z.elim fun sl z => z.elim fun _ z => z.elim fun _ z => ⟨_, od, _, sl, z⟩
  have name := (pe_var (pos := p) hN hv hd hcd).run pins s σ H (fun v H1 => v = .ref f ∧ H1 = H) I ⟨.ref f, var, rfl, rfl⟩
  refine wpAny_Call_Name_kw (thn name ?_)
  rintro u s1 ⟨_, _, I1, ru, rfl, rfl⟩
  cases ru
  refine PySem.W.callWith_F (first := []) (fn I1 lam) (thn (ha.run pos pins s1 σ _ _ I1 args) ?_) he hpl
  rintro us s2 ⟨vs, H2, I2, r, both, pre⟩
  exact ⟨fn I2 both.1, call_ends hx I2 (Fn.run X.A X.stack s2 H2 us vs ws Q E (hr.mono hk) I2.env0 both (cells_later C hex I2) r pre)⟩
/-! ### a def that is handed a lambda -/
/-- a def of the top, called while the cells cl stand -/
structure FnOkC (P : Program) (w : World) (K : PySem.W.Frag) (mg : Str → Option Value) (base : Heap) (CX : CXT) (k : Nat) (f : Addr) (fd : FuncData) (ps : List Str) (cl : List (Str × Addr)) (fr : List Str) (ws : List (Option V)) (sp : Sp) : Prop where
  len : ∀ vs H Q E, sp vs H Q E → vs.length = ps.length
  run : ∀ A outer s H args us vs Q E, Room k A → Env0 P w K mg base A outer s H → CellsAt cl fr ws s.heap H → BindsTo s fd args (ps.zip us) → Vals vs us → sp vs H Q E → codeAny (model P w) A (.call (.ref f) args) (CR CX outer P w H s Q E) s
theorem okC {P : Program} {w : World} {K : PySem.W.Frag} {mg : Str → Option Value} {base : Heap} {x qual : Str} {st : Stmt} {f : Addr} {fd : FuncData} {N ps : List Str} {k : Nat} {cl : List (Str × Addr)} {fr : List Str} {ws : List (Option V)} {sp : Sp}
    (F : Fun K x qual st f fd) (S : FnScope N ps (defScope st)) (len : ∀ vs H Q E, sp vs H Q E → vs.length = ps.length)
    (body : ∀ (cdv : Value) (A : Around) (outer : List Env) (s : Shared) (H : Hp) (vs : List V) (Q : VK) (E : XK), Room k (A.deeper (envOfC qual (defScope st) s.heap.objs.size f cdv)) → CellsAt cl fr ws s.heap H → sp vs H Q E →
      ∃ t, PSs (cxOf CX0 P w K mg base N qual (defScope st) f cdv A outer s H E).nox (defBody st) t ∧ t { nx := fun _ H' => Q .non H', rt := Q } (L2.start N vs) H) : FnOkC P w K mg base CX0 (k + 1) f fd ps cl fr ws sp := by
  have ⟨_, _, _, _, _, _, cdv, _, _, is, look, code⟩ := F.ex
  subst is
  refine ⟨len, fun A outer s H args us vs Q E room e0 cells bound rel pre => run_ofS look code S room e0 bound rel (len _ _ _ _ pre) fun deeper => ?_⟩
  exact (body cdv A outer s H vs Q E deeper cells pre).imp fun t z => ⟨z.1.nox, z.2⟩
def tCallC (js : List Nat) (sp : List (Option V) → Sp) (E : XK) (t : TA) : TE := fun σ H Q => t σ H fun vs H1 => sp (js.map (slotAt σ)) vs H1 Q E
theorem pe_callC {X : Cx} {CX : CXT} {g : Addr} {fd : FuncData} {cl : List (Str × Addr)} {ps fr : List Str} {js : List Nat} {k : Nat} {x : Str} {sp : List (Option V) → Sp} {E : XK} {t : TA} {e : Expr} {es : List Expr} {p pos : Pos}
    (G : ∀ ws, FnOkC X.prog X.w X.K X.mg X.base CX k g fd ps cl fr ws (sp ws)) (cp : X.Ok → Caps X cl fr js) (hr : Room k X.A) (hg : Gl X x) (hm : X.mg x = some (.ref g)) (hk : PySem.W.keepIn X.K (.ref g) = true) (hb : L2.Binds X.K fd ps []) (hx : Passes CX X E) (ha : PA X (e :: es) t)
    (hdb : (x == ("__debug__" : Str)) = false := by decide)
    (he : starEach (e :: es) X.env = (false, eval e X.env) :: starEach es X.env := by rfl) (hpl : (backTo pos (starEach es X.env)).any (·.1) = false := by rfl) :
    PE X (.Call (.Name x p) (e :: es) [] pos) (tCallC js sp E t) := by
  constructor
  intro pins s σ H Q I pre
  refine wpAny_Call_Name_kw (ld_glob I hg hm (PySem.W.callWith_K I.ok.mod.kin hk (thn (ha.run pos pins s σ H _ I pre) ?_) he hpl) hdb)
  rintro us s1 ⟨vs, H1, I1, r, goal⟩
  refine ⟨I1.kIn, call_ends hx I1 ((G _).run X.A X.stack s1 H1 _ us vs Q E hr I1.env0 (cells_of I1 (cp I1.ok)) ?_ r goal)⟩
  have n : us.length = ps.length := r.length ▸ (G _).len _ _ _ _ goal
  simpa using hb s1 us I1.kIn (by simpa using n)
end LamP
end

-- EnumT
section
set_option Elab.async false
set_option linter.all false
set_option maxRecDepth 100000
set_option maxHeartbeats 4000000
/-! EnumT: for i, x in enumerate(t), t a tuple (enumerate with one argument, over whatever begins). -/
namespace EnT
open PySem PySem.Spec PyProof.Rows
open Sem (wp)
/-- the two objects of enumerate(v) in a heap of n places: v's iterator o at n, the enumerate object at n + 1 -/
def two (h : Heap) (o : Obj) : Heap := (h.push o).push { cls := .type "enumerate", data := .fields #[.none, .bool false, .ref h.objs.size, rawInt 0, .none, .none] }
theorem new1 {v : Value} {o : Obj} {H : Heap → Prop} (B : Begins v o H) :
    Meets (Builtin.«enumerate.__new__» ⟨[.type "enumerate", v], []⟩) (fun _ R s => H s.heap ∧ R (.ok (.ret (.ref (s.heap.push o).objs.size))) { s with heap := two s.heap o }) := by
  refine .of_wp fun prog w A R s h => ?_
  rcases s with ⟨hp, g, d, tk, os⟩
  rcases h with ⟨ready, h⟩
  have start : ∀ {A' : Around} {E : Value → Shared → Prop} {Q : Value → Shared → Prop}, Q (.ref hp.objs.size) ⟨hp.push o, g, d, tk, os⟩ → wpAny (model prog w) A' (pyIter v) Q E ⟨hp, g, d, tk, os⟩ := fun q => B.iter _ _ _ _ _ _ ready q
  have sub := sub_enumerate
  wp_walk using start
  refine wpAny_stack_any fun _ => wpAny_pure ?_
  split
  · rename_i c _ _ _ _ _
    cases (c == Value.type "enumerate") <;> (wp_walk using start; exact ⟨_, rfl, h⟩)
  · wp_walk using start
    exact ⟨_, rfl, h⟩
/-- what is known of them -/
structure Two (h h' : Heap) (o : Obj) : Prop where
  en : IsEnum h' (h.objs.size + 1) h.objs.size 0 .none
  it : h'.get? h.objs.size = some o
  old : ∀ b ob, h.get? b = some ob → h'.get? b = some ob
theorem two_is {h : Heap} {o : Obj} (free : o.isFreed = false) : Two h (two h o) o := by
  have n : (h.push o).objs.size = h.objs.size + 1 := Heap.size_push ..
  have top := Heap.get?_push_size (h.push o) (o := { cls := .type "enumerate", data := .fields #[.none, .bool false, .ref h.objs.size, rawInt 0, .none, .none] }) rfl
  exact ⟨n ▸ top, Heap.get?_push_of_some _ (Heap.get?_push_size _ free), fun b ob q => Heap.get?_push_of_some _ (Heap.get?_push_of_some _ q)⟩
theorem begin1 {prog : Program} {w : World} {A : Around} {E : Value → Shared → Prop} {s : Shared} {v : Value} {o : Obj} {H : Heap → Prop} {Q : Value → Shared → Prop} (B : Begins v o H) (ready : H s.heap)
    (h : Two s.heap (two s.heap o) o → Q (.ref (s.heap.objs.size + 1)) { s with heap := two s.heap o }) : wpAny (model prog w) A (call (.type "enumerate") [v]) Q E s := by
  have T := two_is (h := s.heap) B.free
  have n : (s.heap.push o).objs.size = s.heap.objs.size + 1 := Heap.size_push ..
  refine callType_new F.called_enumerate (by decide) (F.typeCall_enumerate_1 _) (F.newCall_enumerate_1 _) (fun obj => F.args_object_init_2 obj _) F.entry_enumerate_new (new1 B) ⟨ready, ?_⟩
  show _ ∧ _
  rw [n]
  exact ⟨⟨_, T.en, rfl⟩, h T⟩
end EnT
namespace L2
open PySem PySem.Spec PyProof.Rows
/-- the tuple at a, each of its items in a new pair behind its place -/
def IteT (K : PySem.W.Frag) (a : Addr) : It where
  go i H := ∃ (xs : List V) (x : V), SqT K H a xs ∧ xs[i]? = some x
  yld i H v H' := ∃ q x, v = .ref q ∧ H q = none ∧ H' = upd H q (.tup [.int (i : Nat), x]) ∧ ∀ xs, SqT K H a xs → xs[i]? = some x
  stop i H := ∃ xs : List V, SqT K H a xs ∧ i = xs.length
/-- e enumerates by the iterator it of the tuple at a, of which i items are drawn -/
structure EnSt (a e it : Addr) (i : Nat) (h : Heap) : Prop where
  en : ∃ old, IsEnum h e it (i : Int) old
  it_ : h.IsTupleIter it a i
  ne : e ≠ it
  nai : a ≠ it
  nae : a ≠ e
theorem EnSt.lt_e {a e it : Addr} {i : Nat} {h : Heap} (S : EnSt a e it i h) : e < h.objs.size := S.en.elim fun _ q => Heap.lt_size q
theorem EnSt.lt_it {a e it : Addr} {i : Nat} {h : Heap} (S : EnSt a e it i h) : it < h.objs.size := S.it_.elim fun _ q => Heap.lt_size q.1
theorem EnSt.lt {a e it : Addr} {i : Nat} {h : Heap} (S : EnSt a e it i h) : ∀ b ∈ [e, it], b < h.objs.size := by
  simpa using And.intro S.lt_e S.lt_it
theorem two_mem {e it b : Addr} (h : b ∉ [e, it]) : b ≠ e ∧ b ≠ it := by simpa using h
section
variable {X : Cx} {pins : List (Addr × Obj)} {σ : L2.St} {H : Hp} {s : Shared}
/-- the new pair of an index and an item -/
theorem pair_ok {P : Program} {w : World} {q : Addr} {i : Nat} {t : Tok} {x : V} {u : Value} {g : Heap} (r : RelV x u) (at_ : g.get? q = some { cls := .type "tuple", data := .seq #[.int i t, u] }) : ObjOk P w (upd H q (.tup [.int (i : Nat), x])) g q (.tup [.int (i : Nat), x]) :=
  ⟨by show 2 ≤ sizeLine; decide, [.int i t, u], .cons ⟨t, rfl⟩ (.cons r .nil), _, at_, rfl, 0, rfl⟩
end
theorem turn_enumT {P : Program} {w : World} {K : PySem.W.Frag} {elts : List Expr} {kk : Nat} {tpos : Pos} (a e it : Addr) : Turn P w K (.Tuple elts kk tpos) (IteT K a) [e, it] e (EnSt a e it) where
  mem := List.mem_cons_self
  obj i h S b m := by
    rcases List.mem_cons.mp m with z | z
    · rw [z]
      exact S.en.elim fun _ q => ⟨_, q, fun _ y => nomatch y⟩
    · obtain ⟨o, q, _, d⟩ := S.it_
      exact ⟨o, List.mem_singleton.mp z ▸ q, fun _ y => by rw [d] at y; cases y⟩
  keep i h h' S k := ⟨S.en.imp fun _ q => k e (List.mem_cons_self ..) _ q, S.it_.at fun o q => k it (by simp) o q, S.ne, S.nai, S.nae⟩
  self A i s Q E S h := S.en.elim fun _ q => wpAny_pyIter_enum q h
  item := by
    intro X hP hw hK hc i pins s σ H E I own S go
    subst hP hw hK
    obtain ⟨old, en⟩ := S.en
    obtain ⟨xs, x, seq, hx⟩ := go
    obtain ⟨items, rel, tup, small⟩ := I.tuple seq
    obtain ⟨u, hu, ru⟩ := rel.get hx
    have lo := S.lt
    have draws := Draws.tuple (prog := X.prog) (w := X.w) (A := X.A.in1) (I.ok.hd hc) it a S.nai items.toArray
    refine wpAny_pyNext_enum_itemD draws en ⟨S.it_, tup⟩ (by simpa using (List.getElem?_eq_some_iff.mp hu).1) S.ne (by simp [S.ne, Ne.symm S.nae]) fun y g tk drawn out next at_ _ kept => ?_
    obtain rfl : u = y := Option.some.inj (hu.symm.trans (by simpa using drawn))
    refine ⟨_, rfl, wpAny_letOwnedTupleGo_enum (s := { s with heap := g, toks := tk + 1 }) out fun g2 en2 same => ?_⟩
    have here := (same.2 _ (Nat.ne_of_gt S.lt_e)).trans at_
    have all : ∀ b ob, b ∉ [e, it] → s.heap.get? b = some ob → g2.get? b = some ob := fun b ob nb q => (same.2 b (two_mem nb).1).trans (kept b ob (two_mem nb).1 (two_mem nb).2 q)
    refine ⟨.ref s.heap.objs.size, _, I.turnedNew (t' := tk + 1) all own (Nat.le_refl _) (pair_ok ru here), rfl, ⟨_, x, rfl, I.hok.fresh (Nat.le_refl _), rfl, fun ys q => I.tuple_inj q seq ▸ hx⟩, ⟨⟨u, ?_⟩, next.1.at fun o q => (same.2 it S.ne.symm).trans q, S.ne, S.nai, S.nae⟩, fun b m => ?_⟩
    · rw [show ((i + 1 : Nat) : Int) = (i : Int) + 1 by omega]
      exact en2
    · exact (upd_ne (Nat.ne_of_lt (lo b m))).trans (own b m).1
  done := by
    intro X hP hw hK hc i pins s σ H E I own S stop
    subst hP hw hK
    obtain ⟨old, en⟩ := S.en
    obtain ⟨xs, seq, rfl⟩ := stop
    obtain ⟨items, rel, tup, small⟩ := I.tuple seq
    have ⟨_, f1, _, f3, f4, f5⟩ := own it (by simp)
    have draws := Draws.tuple (prog := X.prog) (w := X.w) (A := X.A.in1) (I.ok.hd hc) it a S.nai items.toArray
    have len : xs.length = items.toArray.size := by rw [List.size_toArray]; exact rel.length
    refine wpAny_pyNext_enum_endD draws en ⟨len ▸ S.it_, tup⟩ fun g kept => ?_
    exact ⟨rfl, I.turned (t' := s.toks) (fun b o nb q => kept b o nb q) (own it (by simp)).1 f1 f3 f4 f5⟩
def iEnumT (K : PySem.W.Frag) (ta : TA) : TI := fun σ H R => ta σ H fun vs H1 => ∃ a xs, vs = [.ref a] ∧ SqT K H1 a xs ∧ R (IteT K a) H1
theorem pi_enumT {X : Cx} {e : Expr} {ta : TA} {p pos tpos : Pos} {elts : List Expr} {kk : Nat} (hg : Gl X "enumerate") (hm : X.mg "enumerate" = none) (ha : PA X [e] ta) (hs : starEach [e] X.env = [(false, eval e X.env)] := by rfl) :
    PI X (.Tuple elts kk tpos) (.Call (.Name "enumerate" p) [e] [] pos) (iEnumT X.K ta) := by
  refine ⟨fun pins s σ H R I h => ?_⟩
  refine Call_ (ld_blt I hg hm boot_enumerate (callWith_type1 (thn (ha.run pos pins s σ H _ I h) fun us s1 done => ?_) hs rfl))
  obtain ⟨vs, H1, I1, r1, q⟩ := done
  obtain ⟨a, xs, ev, seq, q⟩ := q
  subst ev
  match us, r1 with
  | [_], .cons rfl .nil =>
    obtain ⟨items, _, tup, _⟩ := I1.tuple seq
    have la : a < s1.heap.objs.size := tup.elim fun _ q => Heap.lt_size q.1
    refine EnT.begin1 (begins_tuple a items.toArray) tup fun T => wpAny_pyIter_enum T.en ?_
    refine ⟨_, [_, _], _, _, H1, rfl, I1.kept (t' := s1.toks) T.old, turn_enumT a _ _, ⟨⟨_, T.en⟩, ⟨_, T.it, rfl, rfl⟩, Nat.succ_ne_self _, Nat.ne_of_lt la, Nat.ne_of_lt (Nat.lt_succ_of_lt la)⟩, fun b m => ?_, q⟩
    have big : s1.heap.objs.size ≤ b := by
      rcases List.mem_cons.mp m with z | z
      · exact z ▸ Nat.le_succ _
      · exact Nat.le_of_eq (List.mem_singleton.mp z).symm
    exact I1.fpOk big (I1.hok.fresh big)
theorem walk_enumT {K : PySem.W.Frag} {a : Addr} {xs : List V} : Walk (IteT K a) xs.length (fun H => SqT K H a xs) (YPair (fun i => some (.int (i : Nat))) (fun i => xs[i]?)) where
  goes i _ lt q := ⟨xs, xs[i], q, List.getElem?_eq_getElem lt⟩
  stops _ q := ⟨xs, q, rfl⟩
  yields i H v H' _ q y := y.elim fun T z => z.elim fun x ⟨h1, h2, h3, h4⟩ => ⟨T, _, x, h1, h2, h3, rfl, h4 xs q⟩
end L2
end

-- Rel
section
set_option Elab.async false
set_option linter.all false
set_option maxRecDepth 100000
set_option maxHeartbeats 4000000
/-! Rel: what a def leaves of the heap; data of tuples; the drawn source. -/
namespace R
open PySem PySem.Spec PyProof.Rows L2 LamX NdefX
/-! ### data that stands in tuples -/
mutual
inductive Tp (H : Hp) : V → PyData → Prop
  | non : Tp H .non .none
  | bl (b : Bool) : Tp H (.bl b) (.bool b)
  | int (i : Int) : Tp H (.int i) (.int i)
  | str (x : Str) : Tp H (.str x) (.str x)
  | tup {a : Addr} {xs : List V} {ds : List PyData} : H a = some (.tup xs) → Tps H xs ds → Tp H (.ref a) (.tuple ds)
inductive Tps (H : Hp) : List V → List PyData → Prop
  | nil : Tps H [] []
  | cons {v : V} {vs : List V} {d : PyData} {ds : List PyData} : Tp H v d → Tps H vs ds → Tps H (v :: vs) (d :: ds)
end
def TK (H H' : Hp) : Prop := ∀ a xs, H a = some (.tup xs) → H' a = some (.tup xs)
theorem TK.refl (H : Hp) : TK H H := fun _ _ h => h
theorem TK.trans {H H1 H2 : Hp} (a : TK H H1) (b : TK H1 H2) : TK H H2 := fun c xs h => b c xs (a c xs h)
theorem TK.new {H : Hp} {p : Addr} {o : HO} (h : H p = none) : TK H (upd H p o) := fun a xs e => by
  rw [upd_ne (ne_of_none e h)]
  exact e
theorem TK.lst {H : Hp} {p : Addr} {xs : List V} {o : HO} (h : H p = some (.lst xs)) : TK H (upd H p o) := fun a ys e => by
  rw [upd_ne (ne_of e h (by intro z; cases z))]
  exact e
mutual
theorem Tp.mono {H H' : Hp} (k : TK H H') : ∀ {v : V} {d : PyData}, Tp H v d → Tp H' v d
  | _, _, .non => .non
  | _, _, .bl b => .bl b
  | _, _, .int i => .int i
  | _, _, .str x => .str x
  | _, _, .tup h t => .tup (k _ _ h) (Tps.mono k t)
theorem Tps.mono {H H' : Hp} (k : TK H H') : ∀ {vs : List V} {ds : List PyData}, Tps H vs ds → Tps H' vs ds
  | _, _, .nil => .nil
  | _, _, .cons h t => .cons (Tp.mono k h) (Tps.mono k t)
end
mutual
theorem Tp.dp {K : PySem.W.Frag} {H : Hp} : ∀ {v : V} {d : PyData}, Tp H v d → Dp K H v d
  | _, _, .non => .non
  | _, _, .bl b => .bl b
  | _, _, .int i => .int i
  | _, _, .str x => .str x
  | _, _, .tup h t => .tup (SqT.of h) (Tps.dp t)
theorem Tps.dp {K : PySem.W.Frag} {H : Hp} : ∀ {vs : List V} {ds : List PyData}, Tps H vs ds → DpAll K H vs ds
  | _, _, .nil => .nil
  | _, _, .cons h t => .cons (Tp.dp h) (Tps.dp t)
end
theorem Tps.length {H : Hp} : ∀ {vs : List V} {ds : List PyData}, Tps H vs ds → vs.length = ds.length
  | _, _, .nil => rfl
  | _, _, .cons _ t => by
    rw [List.length_cons, List.length_cons, Tps.length t]
theorem Tps.get {H : Hp} : ∀ {vs : List V} {ds : List PyData} {i : Nat} {v : V}, Tps H vs ds → vs[i]? = some v → ∃ d, ds[i]? = some d ∧ Tp H v d
  | _, _, _, _, .nil, e => by simp at e
  | _, _, 0, _, .cons h _, e => by simp at e; subst e; exact ⟨_, rfl, h⟩
  | _, _, i + 1, v, .cons _ t, e => by
    obtain ⟨d, h1, h2⟩ := Tps.get (i := i) (v := v) t (by simpa using e)
    exact ⟨d, by simpa using h1, h2⟩
theorem Tps.getD {H : Hp} : ∀ {vs : List V} {ds : List PyData} {i : Nat} {d : PyData}, Tps H vs ds → ds[i]? = some d → ∃ v, vs[i]? = some v ∧ Tp H v d
  | _, _, _, _, .nil, e => by simp at e
  | _, _, 0, _, .cons h _, e => by simp at e; subst e; exact ⟨_, rfl, h⟩
  | _, _, i + 1, v, .cons _ t, e => by
    obtain ⟨d, h1, h2⟩ := Tps.getD (i := i) (d := v) t (by simpa using e)
    exact ⟨d, by simpa using h1, h2⟩
theorem Tps.append {H : Hp} : ∀ {vs ws : List V} {ds es : List PyData}, Tps H vs ds → Tps H ws es → Tps H (vs ++ ws) (ds ++ es)
  | _, _, _, _, .nil, t => t
  | _, _, _, _, .cons h t, u => .cons h (Tps.append t u)
theorem Tps.erase {H : Hp} : ∀ {vs : List V} {ds : List PyData} (i : Nat), Tps H vs ds → Tps H (vs.eraseIdx i) (ds.eraseIdx i)
  | _, _, _, .nil => .nil
  | _, _, 0, .cons _ t => t
  | _, _, i + 1, .cons h t => .cons h (Tps.erase i t)
theorem Tps.ints {H : Hp} : ∀ (ns : List Int), Tps H (ns.map V.int) (ns.map PyData.int)
  | [] => .nil
  | n :: r => .cons (.int n) (Tps.ints r)
theorem Tps.ints_of {H : Hp} : ∀ {vs : List V} {ns : List Int}, Tps H vs (ns.map PyData.int) → vs = ns.map V.int
  | _, [], h => by cases h; rfl
  | _, n :: r, h => by
    cases h with
    | cons h1 h2 =>
      cases h1
      rw [Tps.ints_of h2] <;> rfl
/-! ### pairs of numbers -/
def prD (p : Int × Int) : PyData := .tuple [.int p.1, .int p.2]
def lkD (ps : List (Int × Int)) : List PyData := ps.map prD
theorem tp_pr {H : Hp} {v : V} {p : Int × Int} (h : Tp H v (prD p)) : ∃ a, v = .ref a ∧ H a = some (.tup [.int p.1, .int p.2]) := by
  cases h with
  | tup h t => exact ⟨_, rfl, by rw [Tps.ints_of (ns := [p.1, p.2]) t] at h; exact h⟩
theorem pr_tp {H : Hp} {a : Addr} {i j : Int} (h : H a = some (.tup [.int i, .int j])) : Tp H (.ref a) (prD (i, j)) := .tup h (.cons (.int i) (.cons (.int j) .nil))
/-! ### the drawn source: a list of two numbers -/
def BIG : Nat := 1048600
def Src (H : Hp) (a : Addr) : Prop := ∃ x y : Int, H a = some (.lst [.int x, .int y]) ∧ 0 ≤ x ∧ x.natAbs < 2 ^ BIG ∧ 0 ≤ y ∧ y < 2147483647
/-! ### what is left as it was -/
structure Ext (T : List NTab) (so : Option Addr) (H H' : Hp) : Prop where
  kp : ∀ b o, some b ≠ so → (∀ ps, o ≠ .tbl ps) → H b = some o → H' b = some o
  tb : TabsN T H → TabsN T H'
  sr : ∀ a, so = some a → Src H a → Src H' a
  fr : ∀ b, H' b = none → H b = none
section
variable {T : List NTab} {so : Option Addr} {H H1 H2 : Hp} {a : Addr}
theorem Ext.refl (T : List NTab) (so : Option Addr) (H : Hp) : Ext T so H H := ⟨fun _ _ _ _ h => h, fun h => h, fun _ _ h => h, fun _ h => h⟩
theorem Ext.trans (x : Ext T so H H1) (y : Ext T so H1 H2) : Ext T so H H2 := ⟨fun b o n t h => y.kp b o n t (x.kp b o n t h), fun h => y.tb (x.tb h), fun b e h => y.sr b e (x.sr b e h), fun b h => x.fr b (y.fr b h)⟩
theorem upd_none' {H : Hp} {a b : Addr} {o : HO} (e : upd H a o b = none) : H b = none := by
  unfold upd at e
  split at e
  · cases e
  · exact e
theorem tabs_new {H : Hp} {p : Addr} {o : HO} (n : H p = none) (h : TabsN T H) : TabsN T (upd H p o) := h.ext fun b u e => by
  rw [upd_ne (ne_of_none e n)]
  exact e
/-- a new object -/
theorem Ext.new {p : Addr} {o : HO} (n : H p = none) : Ext T so H (upd H p o) :=
  ⟨fun b u _ _ e => by rw [upd_ne (ne_of_none e n)]; exact e, tabs_new n, fun b e ⟨x, y, h, r⟩ => ⟨x, y, by rw [upd_ne (ne_of_none h n)]; exact h, r⟩, fun b e => upd_none' e⟩
/-- an object that the beginning does not know is changed -/
theorem Ext.mut {p : Addr} {o u : HO} (x : Ext T so H H1) (n : H p = none) (h1 : H1 p = some u) (nt : ∀ ps, u ≠ .tbl ps) (nc : ∀ c q, u ≠ CodeO c q) (ns : so ≠ some p) : Ext T so H (upd H1 p o) :=
  ⟨fun b w a b' e => by rw [upd_ne (ne_of_none e n)]; exact x.kp b w a b' e, fun h => by
    have q := x.tb h
    intro t ht
    obtain ⟨ps, a1, a2, a3⟩ := q t ht
    refine ⟨ps, by rw [upd_ne (ne_of a1 h1 (Ne.symm (nt ps)))]; exact a1, a2, fun pos cv hc => ?_⟩
    obtain ⟨c, e1, e2⟩ := a3 pos cv hc
    exact ⟨c, e1, by rw [upd_ne (ne_of e2 h1 (Ne.symm (nc c _)))]; exact e2⟩,
   fun b e q => by
    obtain ⟨x', y', h', r⟩ := x.sr b e q
    exact ⟨x', y', by rw [upd_ne (fun z => ns (by rw [e, z]))]; exact h', r⟩, fun b e => x.fr b (upd_none' e)⟩
theorem lst_nt {xs : List V} (ps : Array Value) : (HO.lst xs) ≠ .tbl ps := fun z => by cases z
theorem lst_nc {xs : List V} (c : Addr) (q : Str) : (HO.lst xs) ≠ CodeO c q := fun z => by
  unfold CodeO at z
  cases z
theorem tup_nt {xs : List V} (ps : Array Value) : (HO.tup xs) ≠ .tbl ps := fun z => by cases z
theorem ins_nt {C d : Addr} {fs : List (Str × V)} (ps : Array Value) : (HO.ins C d fs) ≠ .tbl ps := fun z => by cases z
theorem ins_nc {C d : Addr} {fs : List (Str × V)} (c : Addr) (q : Str) : (HO.ins C d fs) ≠ CodeO c q := fun z => by
  unfold CodeO at z
  cases z
theorem own_nt {x : Addr} (ps : Array Value) : (HO.own x) ≠ .tbl ps := fun z => by cases z
theorem frz_nt {o : Obj} {u : HO} (ps : Array Value) : (HO.frz o u) ≠ .tbl ps := fun z => by cases z
theorem Ext.mutL {p : Addr} {o : HO} {xs : List V} (x : Ext T so H H1) (n : H p = none) (h1 : H1 p = some (.lst xs)) (ns : so ≠ some p) : Ext T so H (upd H1 p o) := x.mut n h1 lst_nt lst_nc ns
/-- nothing but new objects: so the source is left too -/
theorem Ext.toS (x : Ext T none H H1) : Ext T so H H1 := ⟨fun b o _ t h => x.kp b o (fun z => nomatch z) t h, x.tb, fun b _ ⟨i, j, h, r⟩ => ⟨i, j, x.kp b _ (fun z => nomatch z) lst_nt h, r⟩, x.fr⟩
theorem Ext.tup {xs : List V} (x : Ext T none H H1) (h : H a = some (.tup xs)) : H1 a = some (.tup xs) := x.kp a _ (fun z => nomatch z) tup_nt h
theorem Ext.lst {xs : List V} (x : Ext T none H H1) (h : H a = some (.lst xs)) : H1 a = some (.lst xs) := x.kp a _ (fun z => nomatch z) lst_nt h
theorem Ext.ins {C d : Addr} {fs : List (Str × V)} (x : Ext T none H H1) (h : H a = some (.ins C d fs)) : H1 a = some (.ins C d fs) := x.kp a _ (fun z => nomatch z) ins_nt h
theorem Ext.tk (x : Ext T none H H1) : TK H H1 := fun _ _ h => x.tup h
/-- with the source: it is a list -/
theorem Ext.tkS {s : Addr} (x : Ext T (some s) H H1) (q : Src H s) : TK H H1 := fun a xs h => x.kp a _ (fun z => by
  obtain ⟨i, j, e, _⟩ := q
  rw [Option.some.inj z, e] at h
  cases h) tup_nt h
theorem Ext.insS {s C d : Addr} {fs : List (Str × V)} (x : Ext T (some s) H H1) (q : Src H s) (h : H a = some (.ins C d fs)) : H1 a = some (.ins C d fs) := x.kp a _ (fun z => by
  obtain ⟨i, j, e, _⟩ := q
  rw [Option.some.inj z, e] at h
  cases h) ins_nt h
theorem Ext.lstS {s : Addr} {xs : List V} (x : Ext T (some s) H H1) (n : a ≠ s) (h : H a = some (.lst xs)) : H1 a = some (.lst xs) := x.kp a _ (fun z => n (Option.some.inj z)) lst_nt h
theorem Ext.src {s : Addr} (x : Ext T (some s) H H1) (q : Src H s) : Src H1 s := x.sr s rfl q
theorem Ext.same (x : Same H H1) (fr : ∀ b, H1 b = none → H b = none) : Ext T so H H1 := ⟨fun b o _ _ h => x b o h, fun h => h.ext x, fun b _ ⟨i, j, h, r⟩ => ⟨i, j, x b _ h, r⟩, fr⟩
theorem new_ne {b : Addr} (n : H b = none) {o : HO} (h : H a = some o) : a ≠ b := ne_of_none h n
end
/-! ### three comparisons in a row -/
def tChain3 (r r' r'' : R2) (ta tb tc td : TE) : TE := fun σ H Q => ta σ H fun x H1 => tb σ H1 fun y H2 => r x y H2 fun z H3 => ∃ k, z = .bl k ∧
  (if k = true then tc σ H3 fun w H4 => r' y w H4 fun z' H5 => ∃ k', z' = .bl k' ∧ (if k' = true then td σ H5 fun u H6 => r'' w u H6 Q else Q (.bl false) H5) else Q (.bl false) H3)
theorem pe_chain3 {X : Cx} {a b c d : Expr} {ta tb tc td : TE} {pos : Pos} {op op' op'' : CmpOp} {r r' r'' : R2} (ho : OpR X (compareOp op) r) (ho' : OpR X (compareOp op') r') (ho'' : OpR X (compareOp op'') r'') (ha : PE X a ta) (hb : PE X b tb) (hc : PE X c tc) (hd : PE X d td)
    (hm : lastMarks [op, op', op''] [b, c, d] = false := by with_unfolding_all rfl) : PE X (.Compare a [op, op', op''] [b, c, d] pos) (tChain3 r r' r'' ta tb tc td) := by
  refine ⟨fun pins s σ H Q I h => ?_⟩
  refine Compare_chain (thn (ha.run pins s σ H _ I h) fun v s1 ⟨x, H1, I1, r1, q1⟩ => chain_link (thn (hb.run pins s1 σ H1 _ I1 q1) fun u s2 ⟨y, H2, I2, r2, q2⟩ =>
    thn (ho pins s2 σ H2 x y v u _ I2 r1 r2 q2) fun d s3 ⟨z, H3, I3, r3, k, e, q3⟩ => ?_)) hm
  subst e
  cases r3
  refine wpAny_truthy_bool ?_
  cases k with
  | false => exact ite_ff ⟨.bl false, H3, I3, rfl, q3⟩
  | true =>
    refine ite_tt (chain_link (thn (hc.run pins s3 σ H3 _ I3 q3) fun w' s4 ⟨z', H4, I4, r4, q4⟩ => thn (ho' pins s4 σ H4 y z' u w' _ I4 r2 r4 q4) fun d2 s5 ⟨z2, H5, I5, r5, k2, e2, q5⟩ => ?_))
    subst e2
    cases r5
    refine wpAny_truthy_bool ?_
    cases k2 with
    | false => exact ite_ff ⟨.bl false, H5, I5, rfl, q5⟩
    | true => exact ite_tt (chain_last (thn (hd.run pins s5 σ H5 _ I5 q5) fun w2 s6 ⟨z3, H6, I6, r6, q6⟩ => ho'' pins s6 σ H6 z' z3 w' w2 Q I6 r4 r6 q6))
/-! ### where a def of the text stands -/
structure DefAt (K : PySem.W.Frag) (mg : Str → Option Value) (x qual : Str) (st : Stmt) (ps : List Str) (f : Addr) (fd : FuncData) : Prop where
  fn : Fun K x qual st f fd
  bd : L2.Binds K fd ps []
theorem iteB {c : Bool} {A B : Prop} (h1 : c = true → A) (h2 : c = false → B) : if c = true then A else B := by
  cases c with
  | true => exact iteT (h1 rfl)
  | false => exact iteF (h2 rfl)
end R
end

-- Text
section
set_option Elab.async false
set_option linter.all false
set_option maxRecDepth 100000
set_option maxHeartbeats 4000000
/-! Text: the program's text by places, what its top leaves. -/
namespace R
open PySem PySem.Spec PyProof.Rows L2 LamX NdefX LamP
/-! ### the text by places -/
def top (i : Nat) : Stmt := PySem.Challenge.pw_pairfloors_k13_links_and_cells_put_and_t.main.body.getD i (.Pass ⟨0, 0, 0, 0⟩)
abbrev s_Refused_init : Stmt := inClass (top 1) 0
abbrev s_is_number : Stmt := top 8
abbrev s_is_below : Stmt := top 9
abbrev s_are_numbers : Stmt := top 10
abbrev s_is_rising_pair : Stmt := top 11
abbrev s_first_fault : Stmt := top 12
abbrev s_check_cell : Stmt := top 13
abbrev s_Web_init : Stmt := inClass (top 17) 0
abbrev s_Web_near : Stmt := inClass (top 17) 1
abbrev s_Web_linked : Stmt := inClass (top 17) 2
abbrev s_check_links : Stmt := top 18
abbrev s_near_rows : Stmt := top 19
abbrev s_web_within : Stmt := top 20
abbrev s_rising : Stmt := top 21
abbrev s_with_link : Stmt := top 23
abbrev s_without_link : Stmt := top 24
abbrev s_without_cell : Stmt := top 25
abbrev s_Lpool : Stmt := top 27
abbrev s_Ltake : Stmt := top 28
abbrev s_Lone : Stmt := top 29
abbrev s_Llink : Stmt := top 30
abbrev s_Lany : Stmt := top 31
abbrev s_Lfull : Stmt := top 32
abbrev s_Lcell : Stmt := top 33
abbrev s_Ldue : Stmt := top 34
abbrev s_Lchanged : Stmt := top 35
abbrev s_Ltold : Stmt := top 36
abbrev s_Lnear_right : Stmt := top 37
abbrev s_law : Stmt := top 38
abbrev N_Refused_init : List Str := ["self", "what"]
theorem sc_Refused_init : FnScope N_Refused_init ["self", "what"] (defScope s_Refused_init) := ⟨rfl, rfl, rfl, by decide +kernel, rfl, by decide +kernel, by decide +kernel⟩
abbrev N_is_number : List Str := ["value"]
theorem sc_is_number : FnScope N_is_number ["value"] (defScope s_is_number) := ⟨rfl, rfl, rfl, by decide +kernel, rfl, by decide +kernel, by decide +kernel⟩
abbrev N_is_below : List Str := ["value", "limit"]
theorem sc_is_below : FnScope N_is_below ["value", "limit"] (defScope s_is_below) := ⟨rfl, rfl, rfl, by decide +kernel, rfl, by decide +kernel, by decide +kernel⟩
abbrev N_are_numbers : List Str := ["value", "many", "entry"]
theorem sc_are_numbers : FnScope N_are_numbers ["value", "many"] (defScope s_are_numbers) := ⟨rfl, rfl, rfl, by decide +kernel, rfl, by decide +kernel, by decide +kernel⟩
abbrev N_is_rising_pair : List Str := ["value", "limit"]
theorem sc_is_rising_pair : FnScope N_is_rising_pair ["value", "limit"] (defScope s_is_rising_pair) := ⟨rfl, rfl, rfl, by decide +kernel, rfl, by decide +kernel, by decide +kernel⟩
abbrev N_first_fault : List Str := ["things", "fits", "at", "thing"]
theorem sc_first_fault : FnScope N_first_fault ["things", "fits"] (defScope s_first_fault) := ⟨rfl, rfl, rfl, by decide +kernel, rfl, by decide +kernel, by decide +kernel⟩
abbrev N_check_cell : List Str := ["web", "x"]
theorem sc_check_cell : FnScope N_check_cell ["web", "x"] (defScope s_check_cell) := ⟨rfl, rfl, rfl, by decide +kernel, rfl, by decide +kernel, by decide +kernel⟩
abbrev N_Web_init : List Str := ["self", "size", "links"]
theorem sc_Web_init : FnScope N_Web_init ["self", "size", "links"] (defScope s_Web_init) := ⟨rfl, rfl, rfl, by decide +kernel, rfl, by decide +kernel, by decide +kernel⟩
abbrev N_Web_near : List Str := ["self", "x"]
theorem sc_Web_near : FnScope N_Web_near ["self", "x"] (defScope s_Web_near) := ⟨rfl, rfl, rfl, by decide +kernel, rfl, by decide +kernel, by decide +kernel⟩
abbrev N_Web_linked : List Str := ["self", "x", "y"]
theorem sc_Web_linked : FnScope N_Web_linked ["self", "x", "y"] (defScope s_Web_linked) := ⟨rfl, rfl, rfl, by decide +kernel, rfl, by decide +kernel, by decide +kernel⟩
abbrev N_check_links : List Str := ["size", "links", "at"]
theorem sc_check_links : FnScope N_check_links ["size", "links"] (defScope s_check_links) := ⟨rfl, rfl, rfl, by decide +kernel, rfl, by decide +kernel, by decide +kernel⟩
abbrev N_near_rows : List Str := ["many", "pairs", "rows", "a", "b", "_", "row"]
theorem sc_near_rows : FnScope N_near_rows ["many", "pairs"] (defScope s_near_rows) := ⟨rfl, rfl, rfl, by decide +kernel, rfl, by decide +kernel, by decide +kernel⟩
abbrev N_web_within : List Str := ["web", "cells", "number", "links", "x", "at", "a", "b"]
theorem sc_web_within : FnScope N_web_within ["web", "cells"] (defScope s_web_within) := ⟨rfl, rfl, rfl, by decide +kernel, rfl, by decide +kernel, by decide +kernel⟩
abbrev N_rising : List Str := ["a", "b"]
theorem sc_rising : FnScope N_rising ["a", "b"] (defScope s_rising) := ⟨rfl, rfl, rfl, by decide +kernel, rfl, by decide +kernel, by decide +kernel⟩
abbrev N_with_link : List Str := ["web", "a", "b"]
theorem sc_with_link : FnScope N_with_link ["web", "a", "b"] (defScope s_with_link) := ⟨rfl, rfl, rfl, by decide +kernel, rfl, by decide +kernel, by decide +kernel⟩
abbrev N_without_link : List Str := ["web", "a", "b", "link"]
theorem sc_without_link : FnScope N_without_link ["web", "a", "b"] (defScope s_without_link) := ⟨rfl, rfl, rfl, by decide +kernel, rfl, by decide +kernel, by decide +kernel⟩
abbrev N_without_cell : List Str := ["web", "x", "y"]
theorem sc_without_cell : FnScope N_without_cell ["web", "x"] (defScope s_without_cell) := ⟨rfl, rfl, rfl, by decide +kernel, rfl, by decide +kernel, by decide +kernel⟩
abbrev N_Lpool : List Str := ["_law_script", "_law_k", "_law_cell_here", "_law_big", "_law_mixed"]
theorem sc_Lpool : FnScope N_Lpool ["_law_script", "_law_k"] (defScope s_Lpool) := ⟨rfl, rfl, rfl, by decide +kernel, rfl, by decide +kernel, by decide +kernel⟩
abbrev N_Ltake : List Str := ["_law_source", "_law_top", "_law_drawn"]
theorem sc_Ltake : FnScope N_Ltake ["_law_source", "_law_top"] (defScope s_Ltake) := ⟨rfl, rfl, rfl, by decide +kernel, rfl, by decide +kernel, by decide +kernel⟩
abbrev N_Lone : List Str := ["_law_source", "_law_things"]
theorem sc_Lone : FnScope N_Lone ["_law_source", "_law_things"] (defScope s_Lone) := ⟨rfl, rfl, rfl, by decide +kernel, rfl, by decide +kernel, by decide +kernel⟩
abbrev N_Llink : List Str := ["_law_a", "_law_b"]
theorem sc_Llink : FnScope N_Llink ["_law_a", "_law_b"] (defScope s_Llink) := ⟨rfl, rfl, rfl, by decide +kernel, rfl, by decide +kernel, by decide +kernel⟩
abbrev N_Lany : List Str := ["_law_source", "_law_count", "_law_links", "_law_b", "_law_a"]
theorem sc_Lany : FnScope N_Lany ["_law_source", "_law_count"] (defScope s_Lany) := ⟨rfl, rfl, rfl, by decide +kernel, rfl, by decide +kernel, by decide +kernel⟩
abbrev N_Lfull : List Str := ["_law_source", "_law_links", "_law_a", "_law_k", "_law_b"]
theorem sc_Lfull : FnScope N_Lfull ["_law_source"] (defScope s_Lfull) := ⟨rfl, rfl, rfl, by decide +kernel, rfl, by decide +kernel, by decide +kernel⟩
abbrev N_Lcell : List Str := ["_law_source", "_law_size", "_law_kind"]
theorem sc_Lcell : FnScope N_Lcell ["_law_source", "_law_size"] (defScope s_Lcell) := ⟨rfl, rfl, rfl, by decide +kernel, rfl, by decide +kernel, by decide +kernel⟩
abbrev N_Ldue : List Str := ["_law_which", "_law_size", "_law_links", "_law_a", "_law_b", "_law_kept", "_law_p", "_law_r", "_law_link_here"]
theorem sc_Ldue : FnScope N_Ldue ["_law_which", "_law_size", "_law_links", "_law_a", "_law_b"] (defScope s_Ldue) := ⟨rfl, rfl, rfl, by decide +kernel, rfl, by decide +kernel, by decide +kernel⟩
abbrev N_Lchanged : List Str := ["_law_which", "_law_web", "_law_a", "_law_b"]
theorem sc_Lchanged : FnScope N_Lchanged ["_law_which", "_law_web", "_law_a", "_law_b"] (defScope s_Lchanged) := ⟨rfl, rfl, rfl, by decide +kernel, rfl, by decide +kernel, by decide +kernel⟩
abbrev N_Ltold : List Str := ["_law_which", "_law_web", "_law_a", "_law_b", "_law_told_here", "e"]
theorem sc_Ltold : FnScope N_Ltold ["_law_which", "_law_web", "_law_a", "_law_b"] (defScope s_Ltold) := ⟨rfl, rfl, rfl, by decide +kernel, rfl, by decide +kernel, by decide +kernel⟩
abbrev N_Lnear_right : List Str := ["_law_web", "_law_links", "_law_x", "_law_due_here", "_law_a", "_law_b"]
theorem sc_Lnear_right : FnScope N_Lnear_right ["_law_web", "_law_links", "_law_x"] (defScope s_Lnear_right) := ⟨rfl, rfl, rfl, by decide +kernel, rfl, by decide +kernel, by decide +kernel⟩
abbrev N_law : List Str := ["_law_script", "_law_source", "_law_size", "_law_links", "_law_turn", "_law_web", "_law_which", "_law_a", "_law_b", "_law_due_here", "_law_back"]
theorem sc_law : FnScope N_law ["_law_script"] (defScope s_law) := ⟨rfl, rfl, rfl, by decide +kernel, rfl, by decide +kernel, by decide +kernel⟩
/-! ### what the top leaves -/
structure FunC (K : PySem.W.Frag) (x qual : Str) (st : Stmt) (f : Addr) (fd : FuncData) (c : Addr) : Prop where
  ex : ∃ (oc : Value) (od : Option Addr) (kV doc pm : Value) (an : Option Addr) (ct : Value) (osl : Array (Option Value)), fd = PySem.W.fnOf x qual (defArgs st) (defBody st) (defScope st) .none kV doc pm an (.ref c) ct ∧ K.lookup f = some ⟨oc, od, .func fd, osl⟩ ∧ PySem.W.codeIn K (.ref c) qual = true
structure ErrC (K : PySem.W.Frag) (mg : Str → Option Value) (x : Str) (fI C : Addr) : Prop where
  gC : mg x = some (.ref C)
  ox : OexC K C
  xf : XfC K C
  iC : PySem.W.findIn K (.ref C) "__init__" = some (some (.ref fI))
  nw : PySem.W.findIn K (.ref C) "what" = some none
structure Txt (K : PySem.W.Frag) (mg : Str → Option Value) : Type where
  a_Refused_init : Addr
  d_Refused_init : FuncData
  F_Refused_init : Fun K "__init__" "Refused.__init__" s_Refused_init a_Refused_init d_Refused_init
  b_Refused_init : L2.Binds K d_Refused_init ["self", "what"] []
  a_is_number : Addr
  d_is_number : FuncData
  F_is_number : Fun K "is_number" "is_number" s_is_number a_is_number d_is_number
  b_is_number : L2.Binds K d_is_number ["value"] []
  g_is_number : mg "is_number" = some (.ref a_is_number)
  a_is_below : Addr
  d_is_below : FuncData
  F_is_below : Fun K "is_below" "is_below" s_is_below a_is_below d_is_below
  b_is_below : L2.Binds K d_is_below ["value", "limit"] []
  g_is_below : mg "is_below" = some (.ref a_is_below)
  a_are_numbers : Addr
  d_are_numbers : FuncData
  F_are_numbers : Fun K "are_numbers" "are_numbers" s_are_numbers a_are_numbers d_are_numbers
  b_are_numbers : L2.Binds K d_are_numbers ["value", "many"] []
  g_are_numbers : mg "are_numbers" = some (.ref a_are_numbers)
  a_is_rising_pair : Addr
  d_is_rising_pair : FuncData
  F_is_rising_pair : Fun K "is_rising_pair" "is_rising_pair" s_is_rising_pair a_is_rising_pair d_is_rising_pair
  b_is_rising_pair : L2.Binds K d_is_rising_pair ["value", "limit"] []
  g_is_rising_pair : mg "is_rising_pair" = some (.ref a_is_rising_pair)
  a_first_fault : Addr
  d_first_fault : FuncData
  F_first_fault : Fun K "first_fault" "first_fault" s_first_fault a_first_fault d_first_fault
  b_first_fault : L2.Binds K d_first_fault ["things", "fits"] []
  g_first_fault : mg "first_fault" = some (.ref a_first_fault)
  a_check_cell : Addr
  d_check_cell : FuncData
  F_check_cell : Fun K "check_cell" "check_cell" s_check_cell a_check_cell d_check_cell
  b_check_cell : L2.Binds K d_check_cell ["web", "x"] []
  g_check_cell : mg "check_cell" = some (.ref a_check_cell)
  a_Web_init : Addr
  d_Web_init : FuncData
  F_Web_init : Fun K "__init__" "Web.__init__" s_Web_init a_Web_init d_Web_init
  b_Web_init : L2.Binds K d_Web_init ["self", "size", "links"] []
  a_Web_near : Addr
  d_Web_near : FuncData
  F_Web_near : Fun K "near" "Web.near" s_Web_near a_Web_near d_Web_near
  b_Web_near : L2.Binds K d_Web_near ["self", "x"] []
  a_Web_linked : Addr
  d_Web_linked : FuncData
  F_Web_linked : Fun K "linked" "Web.linked" s_Web_linked a_Web_linked d_Web_linked
  b_Web_linked : L2.Binds K d_Web_linked ["self", "x", "y"] []
  a_check_links : Addr
  d_check_links : FuncData
  F_check_links : Fun K "check_links" "check_links" s_check_links a_check_links d_check_links
  b_check_links : L2.Binds K d_check_links ["size", "links"] []
  c_check_links : Addr
  P_check_links : Addr
  FC_check_links : FunC K "check_links" "check_links" s_check_links a_check_links d_check_links c_check_links
  ch_check_links : PySem.W.codeHdIn K c_check_links P_check_links = true
  nl_check_links : K.lookup P_check_links = none
  g_check_links : mg "check_links" = some (.ref a_check_links)
  a_near_rows : Addr
  d_near_rows : FuncData
  F_near_rows : Fun K "near_rows" "near_rows" s_near_rows a_near_rows d_near_rows
  b_near_rows : L2.Binds K d_near_rows ["many", "pairs"] []
  g_near_rows : mg "near_rows" = some (.ref a_near_rows)
  a_web_within : Addr
  d_web_within : FuncData
  F_web_within : Fun K "web_within" "web_within" s_web_within a_web_within d_web_within
  b_web_within : L2.Binds K d_web_within ["web", "cells"] []
  g_web_within : mg "web_within" = some (.ref a_web_within)
  a_rising : Addr
  d_rising : FuncData
  F_rising : Fun K "rising" "rising" s_rising a_rising d_rising
  b_rising : L2.Binds K d_rising ["a", "b"] []
  g_rising : mg "rising" = some (.ref a_rising)
  a_with_link : Addr
  d_with_link : FuncData
  F_with_link : Fun K "with_link" "with_link" s_with_link a_with_link d_with_link
  b_with_link : L2.Binds K d_with_link ["web", "a", "b"] []
  g_with_link : mg "with_link" = some (.ref a_with_link)
  a_without_link : Addr
  d_without_link : FuncData
  F_without_link : Fun K "without_link" "without_link" s_without_link a_without_link d_without_link
  b_without_link : L2.Binds K d_without_link ["web", "a", "b"] []
  g_without_link : mg "without_link" = some (.ref a_without_link)
  a_without_cell : Addr
  d_without_cell : FuncData
  F_without_cell : Fun K "without_cell" "without_cell" s_without_cell a_without_cell d_without_cell
  b_without_cell : L2.Binds K d_without_cell ["web", "x"] []
  g_without_cell : mg "without_cell" = some (.ref a_without_cell)
  a_Lpool : Addr
  d_Lpool : FuncData
  F_Lpool : Fun K "_law_pool" "_law_pool" s_Lpool a_Lpool d_Lpool
  b_Lpool : L2.Binds K d_Lpool ["_law_script", "_law_k"] []
  g_Lpool : mg "_law_pool" = some (.ref a_Lpool)
  a_Ltake : Addr
  d_Ltake : FuncData
  F_Ltake : Fun K "_law_take" "_law_take" s_Ltake a_Ltake d_Ltake
  b_Ltake : L2.Binds K d_Ltake ["_law_source", "_law_top"] []
  g_Ltake : mg "_law_take" = some (.ref a_Ltake)
  a_Lone : Addr
  d_Lone : FuncData
  F_Lone : Fun K "_law_one" "_law_one" s_Lone a_Lone d_Lone
  b_Lone : L2.Binds K d_Lone ["_law_source", "_law_things"] []
  g_Lone : mg "_law_one" = some (.ref a_Lone)
  a_Llink : Addr
  d_Llink : FuncData
  F_Llink : Fun K "_law_link" "_law_link" s_Llink a_Llink d_Llink
  b_Llink : L2.Binds K d_Llink ["_law_a", "_law_b"] []
  g_Llink : mg "_law_link" = some (.ref a_Llink)
  a_Lany : Addr
  d_Lany : FuncData
  F_Lany : Fun K "_law_any" "_law_any" s_Lany a_Lany d_Lany
  b_Lany : L2.Binds K d_Lany ["_law_source", "_law_count"] []
  g_Lany : mg "_law_any" = some (.ref a_Lany)
  a_Lfull : Addr
  d_Lfull : FuncData
  F_Lfull : Fun K "_law_full" "_law_full" s_Lfull a_Lfull d_Lfull
  b_Lfull : L2.Binds K d_Lfull ["_law_source"] []
  g_Lfull : mg "_law_full" = some (.ref a_Lfull)
  a_Lcell : Addr
  d_Lcell : FuncData
  F_Lcell : Fun K "_law_cell" "_law_cell" s_Lcell a_Lcell d_Lcell
  b_Lcell : L2.Binds K d_Lcell ["_law_source", "_law_size"] []
  g_Lcell : mg "_law_cell" = some (.ref a_Lcell)
  a_Ldue : Addr
  d_Ldue : FuncData
  F_Ldue : Fun K "_law_due" "_law_due" s_Ldue a_Ldue d_Ldue
  b_Ldue : L2.Binds K d_Ldue ["_law_which", "_law_size", "_law_links", "_law_a", "_law_b"] []
  g_Ldue : mg "_law_due" = some (.ref a_Ldue)
  a_Lchanged : Addr
  d_Lchanged : FuncData
  F_Lchanged : Fun K "_law_changed" "_law_changed" s_Lchanged a_Lchanged d_Lchanged
  b_Lchanged : L2.Binds K d_Lchanged ["_law_which", "_law_web", "_law_a", "_law_b"] []
  g_Lchanged : mg "_law_changed" = some (.ref a_Lchanged)
  a_Ltold : Addr
  d_Ltold : FuncData
  F_Ltold : Fun K "_law_told" "_law_told" s_Ltold a_Ltold d_Ltold
  b_Ltold : L2.Binds K d_Ltold ["_law_which", "_law_web", "_law_a", "_law_b"] []
  g_Ltold : mg "_law_told" = some (.ref a_Ltold)
  a_Lnear_right : Addr
  d_Lnear_right : FuncData
  F_Lnear_right : Fun K "_law_near_right" "_law_near_right" s_Lnear_right a_Lnear_right d_Lnear_right
  b_Lnear_right : L2.Binds K d_Lnear_right ["_law_web", "_law_links", "_law_x"] []
  g_Lnear_right : mg "_law_near_right" = some (.ref a_Lnear_right)
  a_law : Addr
  d_law : FuncData
  F_law : Fun K "law" "law" s_law a_law d_law
  b_law : L2.Binds K d_law ["_law_script"] []
  g_law : mg "law" = some (.ref a_law)
  C_Web : Addr
  cl_Web : Cls K C_Web
  mg_Web : mg "Web" = some (.ref C_Web)
  na_Web__rows : NoAttr K C_Web "_rows"
  na_Web_links : NoAttr K C_Web "links"
  na_Web_size : NoAttr K C_Web "size"
  mk_Web : Mk K C_Web a_Web_init
  mt_Web_near : Meth K C_Web "near" a_Web_near
  mt_Web_linked : Meth K C_Web "linked" a_Web_linked
  C_Refused : Addr
  e_Refused : ErrC K mg "Refused" a_Refused_init C_Refused
  C_BadSize : Addr
  e_BadSize : ErrC K mg "BadSize" a_Refused_init C_BadSize
  C_BadLink : Addr
  e_BadLink : ErrC K mg "BadLink" a_Refused_init C_BadLink
  C_TooMany : Addr
  e_TooMany : ErrC K mg "TooMany" a_Refused_init C_TooMany
  C_BadCell : Addr
  e_BadCell : ErrC K mg "BadCell" a_Refused_init C_BadCell
  C_BadPair : Addr
  e_BadPair : ErrC K mg "BadPair" a_Refused_init C_BadPair
  tI : PySem.W.typeIn K (.ref a_Refused_init) = some (.type "function")
  x_BadSize_BadSize : PySem.W.exmOne K (.ref C_BadSize) (.ref C_BadSize) = some true
  x_BadSize_BadCell : PySem.W.exmOne K (.ref C_BadSize) (.ref C_BadCell) = some false
  x_BadSize_BadPair : PySem.W.exmOne K (.ref C_BadSize) (.ref C_BadPair) = some false
  x_TooMany_BadSize : PySem.W.exmOne K (.ref C_TooMany) (.ref C_BadSize) = some false
  x_TooMany_TooMany : PySem.W.exmOne K (.ref C_TooMany) (.ref C_TooMany) = some true
  x_TooMany_BadCell : PySem.W.exmOne K (.ref C_TooMany) (.ref C_BadCell) = some false
  x_TooMany_BadPair : PySem.W.exmOne K (.ref C_TooMany) (.ref C_BadPair) = some false
  x_BadCell_BadCell : PySem.W.exmOne K (.ref C_BadCell) (.ref C_BadCell) = some true
  x_BadPair_BadCell : PySem.W.exmOne K (.ref C_BadPair) (.ref C_BadCell) = some false
  x_BadPair_BadPair : PySem.W.exmOne K (.ref C_BadPair) (.ref C_BadPair) = some true
  t_MOST_CELLS : Tok
  c_MOST_CELLS : mg "MOST_CELLS" = some (.int 40 t_MOST_CELLS)
  t_MOST_LINKS : Tok
  c_MOST_LINKS : mg "MOST_LINKS" = some (.int 160 t_MOST_LINKS)
  n_all : mg "all" = none
  n_bool : mg "bool" = none
  n_enumerate : mg "enumerate" = none
  n_int : mg "int" = none
  n_isinstance : mg "isinstance" = none
  n_len : mg "len" = none
  n_list : mg "list" = none
  n_max : mg "max" = none
  n_min : mg "min" = none
  n_range : mg "range" = none
  n_sorted : mg "sorted" = none
  n_tuple : mg "tuple" = none
end R
end

-- FormsA
section
set_option Elab.async false
set_option linter.all false
set_option maxRecDepth 100000
set_option maxHeartbeats 4000000
namespace R
open PySem PySem.Spec PyProof.Rows L2 LamX NdefX LamP
/-! ### promises -/
def spIsNumber : Sp := fun vs H Q _ => ∃ n : Int, vs = [.int n] ∧ Q (.bl true) H
def spIsBelow : Sp := fun vs H Q _ => ∃ n m : Int, vs = [.int n, .int m] ∧ Q (.bl (decide (0 ≤ n) && decide (n < m))) H
section
variable {P : Program} {w : World} {K : PySem.W.Frag} {mg : Str → Option Value} {base : Heap}
theorem ok_is_number (T : Txt K mg) : FnOk P w K mg base CX0 1 T.a_is_number T.d_is_number ["value"] spIsNumber := by
  refine T.F_is_number.ok sc_is_number (fun vs H Q E h => ?_) (fun cdv A outer s H vs Q E hr h => ?_)
  · obtain ⟨n, rfl, _⟩ := h
    rfl
  · obtain ⟨n, rfl, k⟩ := h
    refine ⟨_, pss_one (ps_ret (pe_and (pe_callB call_isi (by rfl) T.n_isinstance (by decide +kernel) (pa_cons (pv 0) (pa_cons (pe_bltn (v := .ty "int") (u := Value.type "int") (by rfl) T.n_int (by decide +kernel) rfl) pa_nil)))
      (pe_one (pe_not (pe_callB call_isi (by rfl) T.n_isinstance (by decide +kernel) (pa_cons (pv 0) (pa_cons (pe_bltn (v := .ty "bool") (u := Value.type "bool") (by rfl) T.n_bool (by decide +kernel) rfl) pa_nil))))))), ?_⟩
    refine ⟨_, rfl, _, _, .type "int", .type "int", true, rfl, .ty _, .base (.int _), kit_ty (by decide +kernel), _, rfl, ?_⟩
    refine iteT ⟨_, rfl, _, _, .type "int", .type "bool", false, rfl, .ty _, .base (.int _), kit_ty (by decide +kernel), _, rfl, ?_⟩
    exact k
theorem ok_is_below (T : Txt K mg) : FnOk P w K mg base CX0 2 T.a_is_below T.d_is_below ["value", "limit"] spIsBelow := by
  refine T.F_is_below.ok sc_is_below (fun vs H Q E h => ?_) (fun cdv A outer s H vs Q E hr h => ?_)
  · obtain ⟨n, m, rfl, _⟩ := h
    rfl
  · obtain ⟨n, m, rfl, k⟩ := h
    refine ⟨_, pss_one (ps_ret (pe_and (pe_call (ok_is_number T) hr rfl T.g_is_number T.F_is_number.kp T.b_is_number .nil pass0 (pa_cons (pv 0) pa_nil))
      (pe_one (pe_chain op_le op_lt pe_int (pv 0) (pv 1))))), ?_⟩
    refine ⟨_, rfl, n, rfl, _, rfl, iteT ?_⟩
    refine ⟨_, rfl, _, _, rfl, rfl, _, rfl, ?_⟩
    refine iteB (fun h => ?_) (fun h => ?_)
    · refine ⟨_, rfl, _, _, rfl, rfl, ?_⟩
      rw [h] at k
      exact k
    · rw [h] at k
      exact k
end
end R
end

-- FormsB
section
set_option Elab.async false
set_option linter.all false
set_option maxRecDepth 100000
set_option maxHeartbeats 4000000
namespace R
open PySem PySem.Spec PyProof.Rows L2 LamX NdefX LamP
/-- what is told of a value v and the heap behind, nothing but new objects besides -/
def Ret (T : List NTab) (H : Hp) (Q : VK) (P : V → Hp → Prop) : Prop := ∀ v H', Ext T none H H' → P v H' → Q v H'
def RetV (T : List NTab) (H : Hp) (Q : VK) (v : V) : Prop := ∀ H', Ext T none H H' → Q v H'
def spAreNumbers (TT : List NTab) : Sp := fun vs H Q _ => ∃ (a : Addr) (ns : List Int) (m : Int), vs = [.ref a, .int m] ∧ H a = some (.tup (ns.map V.int)) ∧ ns.length ≤ 1000 ∧ RetV TT H Q (.bl (decide ((ns.length : Int) = m)))
def spIsRising (TT : List NTab) : Sp := fun vs H Q _ => ∃ (a : Addr) (i j m : Int), vs = [.ref a, .int m] ∧ H a = some (.tup [.int i, .int j]) ∧ RetV TT H Q (.bl (decide (0 ≤ i) && (decide (i < j) && decide (j < m))))
section
variable {P : Program} {w : World} {K : PySem.W.Frag} {mg : Str → Option Value} {base : Heap}
theorem dV {i j : Int} : decide (V.int i = V.int j) = decide (i = j) := by
  by_cases h : i = j
  · subst h; simp
  · rw [decide_eq_false h, decide_eq_false (fun z => h (by injection z))]
theorem allT (n : Nat) : (List.replicate n true).all id = true := by
  induction n with
  | zero => rfl
  | succ n ih => rw [List.replicate_succ, List.all_cons, ih] <;> rfl
theorem ok_are_numbers (T : Txt K mg) (TT : List NTab) : FnOk P w K mg base CX0 2 T.a_are_numbers T.d_are_numbers ["value", "many"] (spAreNumbers TT) := by
  refine T.F_are_numbers.ok sc_are_numbers (fun vs H Q E h => ?_) (fun cdv A outer s H vs Q E hr h => ?_)
  · obtain ⟨a, ns, m, rfl, _⟩ := h
    rfl
  · obtain ⟨a, ns, m, rfl, ha, hl, k⟩ := h
    refine ⟨_, pss_one (ps_ret (pe_and (pe_callB call_isi (by rfl) T.n_isinstance (by decide +kernel) (pa_cons (pv 0) (pa_cons (pe_bltn (v := .ty "tuple") (u := Value.type "tuple") (by rfl) T.n_tuple (by decide +kernel) rfl) pa_nil)))
      (pe_and (pe_cmpR op_eq (pe_callB call_len_seq (by rfl) T.n_len PySem.boot_len (pa_cons (pv 0) pa_nil)) (pv 1) (nomark _))
      (pe_one (pe_callB (cr_all rfl) (by rfl) T.n_all (by decide +kernel) (pa_cons (pe_lc (own := [("entry", 2)]) (g := gName 2) (tt := tYes) rfl sc_are_numbers.nd (pi_tup (pv 0)) (blkOk_by (N := N_are_numbers) (sc := defScope s_are_numbers) (by decide +kernel))
        (fun _ _ _ _ _ => pg_name (i := 2) sc_are_numbers.nd rfl (Or.inl rfl)) (fun _ _ _ _ _ => pts_nil) (fun _ _ _ _ _ => pe_call (ok_is_number T) hr rfl T.g_is_number T.F_is_number.kp T.b_is_number .nil pass0 (pa_cons (pv 2) pa_nil))) pa_nil)))))), ?_⟩
    refine ⟨_, rfl, _, _, .type "tuple", .type "tuple", true, rfl, .ty _, .base (.tup ha), kit_ty (by decide +kernel), _, rfl, ?_⟩
    refine iteT ⟨_, rfl, a, _, rfl, .inr (SqT.of ha), _, rfl, rfl, _, rfl, ?_⟩
    rw [List.length_map, dV]
    refine iteB (fun h => ?_) (fun h => ?_)
    · rw [h] at k
      refine ⟨_, rfl, a, rfl, ⟨_, SqT.of ha⟩, fun D hD => lc_tup (xs := ns.map V.int) (fun i H' => H' = upd H D (.lst (List.replicate i (.bl true)))) rfl (fun i H' _ e => ?_) (fun i x H' hi e => ?_) (fun H' e => ?_)⟩
      · subst e
        exact SqT.of (by rw [upd_ne (ne_of_none ha hD)]; exact ha)
      · subst e
        rw [List.getElem?_map] at hi
        cases e2 : ns[i]? with
        | none => rw [e2] at hi; cases hi
        | some n =>
          rw [e2] at hi
          cases hi
          have hin : i < ns.length := (List.getElem?_eq_some_iff.mp e2).1
          refine ⟨rfl, ?_⟩
          dsimp only [tYes]
          rw [if_pos rfl]
          refine ⟨_, rfl, n, rfl, _, upd_same, by rw [List.length_replicate]; exact small1000 (by omega), ?_⟩
          rw [upd_upd, List.replicate_succ']
      · subst e
        rw [List.length_map]
        refine ⟨D, List.replicate ns.length true, rfl, SqL.of (by rw [List.map_replicate]; exact upd_same), ?_⟩
        rw [allT]
        exact k _ (Ext.new hD)
    · rw [h] at k
      exact k _ (Ext.refl _ _ _)
theorem ok_is_rising (T : Txt K mg) (TT : List NTab) : FnOk P w K mg base CX0 3 T.a_is_rising_pair T.d_is_rising_pair ["value", "limit"] (spIsRising TT) := by
  refine T.F_is_rising_pair.ok sc_is_rising_pair (fun vs H Q E h => ?_) (fun cdv A outer s H vs Q E hr h => ?_)
  · obtain ⟨a, i, j, m, rfl, _⟩ := h
    rfl
  · obtain ⟨a, i, j, m, rfl, ha, k⟩ := h
    refine ⟨_, pss_one (ps_ret (pe_and (pe_call (ok_are_numbers T TT) hr rfl T.g_are_numbers T.F_are_numbers.kp T.b_are_numbers .nil pass0 (pa_cons (pv 0) (pa_cons pe_int pa_nil)))
      (pe_one (pe_chain3 op_le op_lt op_lt pe_int (pe_ix ix_tup (pv 0) pe_int (fun _ _ => rfl)) (pe_ix ix_tup (pv 0) pe_int (fun _ _ => rfl)) (pv 1))))), ?_⟩
    refine ⟨_, rfl, a, [i, j], 2, rfl, ha, by show 2 ≤ 1000; decide, fun H1 x1 => ⟨_, rfl, iteT ?_⟩⟩
    have h1 := x1.tup ha
    refine ⟨_, rfl, _, _, 0, _, rfl, rfl, SqT.of h1, rfl, _, _, rfl, rfl, _, rfl, ?_⟩
    refine iteB (fun h => ?_) (fun h => ?_)
    · refine ⟨_, rfl, _, _, 1, _, rfl, rfl, SqT.of h1, rfl, _, _, rfl, rfl, _, rfl, ?_⟩
      refine iteB (fun h2 => ?_) (fun h2 => ?_)
      · refine ⟨_, rfl, _, _, rfl, rfl, ?_⟩
        rw [h, h2] at k
        exact k _ x1
      · rw [h, h2] at k
        exact k _ x1
    · rw [h] at k
      exact k _ x1
end
end R
end

-- FormsC
section
set_option Elab.async false
set_option linter.all false
set_option maxRecDepth 100000
set_option maxHeartbeats 4000000
namespace R
open PySem PySem.Spec PyProof.Rows L2 LamX NdefX LamP
def lePr (q p : Int × Int) : Bool := if q.1 = p.1 then decide (q.2 ≤ p.2) else decide (q.1 ≤ p.1)
theorem lePr_eq (q p : Int × Int) : Ob.lexAt (fun j => decide ([q.1, q.2].getD j 0 = [p.1, p.2].getD j 0)) (fun j => decide ([q.1, q.2].getD j 0 ≤ [p.1, p.2].getD j 0)) (decide ([q.1, q.2].length ≤ [p.1, p.2].length)) 0 (min [q.1, q.2].length [p.1, p.2].length) = lePr q p := by
  show (if decide (q.1 = p.1) = true then (if decide (q.2 = p.2) = true then true else decide (q.2 ≤ p.2)) else decide (q.1 ≤ p.1)) = lePr q p
  unfold lePr
  by_cases h : q.1 = p.1
  · rw [if_pos h, if_pos (decide_eq_true h)]
    by_cases h2 : q.2 = p.2
    · rw [if_pos (decide_eq_true h2)]
      exact (decide_eq_true (by omega)).symm
    · rw [if_neg (by simpa using h2)]
  · rw [if_neg h, if_neg (by simpa using h)]
def okAt (g : Nat → Bool) (pr : List (Int × Int)) (i : Nat) : Prop := g i = true ∧ ∀ p q, 0 < i → pr[i - 1]? = some p → pr[i]? = some q → lePr q p = false
/-- r is the first fault, or -1 -/
def FF (g : Nat → Bool) (pr : List (Int × Int)) (r : Int) : Prop := (r = -1 ∧ ∀ i, i < pr.length → okAt g pr i) ∨ ∃ i : Nat, r = (i : Int) ∧ i < pr.length ∧ ¬ okAt g pr i ∧ ∀ j, j < i → okAt g pr j
def spFF (TT : List NTab) (f : Addr) (F : NF) (b : Expr) (lsp : List (Option V) → Sp) (ws : List (Option V)) : Sp := fun vs H Q _ =>
  ∃ (t : Addr) (ths : List V) (pr : List (Int × Int)) (g : Nat → Bool), vs = [.ref t, .ref f] ∧ H t = some (.tup ths) ∧ Tps H ths (lkD pr) ∧ H f = some (LamO f F b) ∧ H F.c = some (CodeO F.c F.qual) ∧
    (∀ i v H1 Q1 E1, ths[i]? = some v → Ext TT none H H1 → RetV TT H1 Q1 (.bl (g i)) → lsp ws [v] H1 Q1 E1) ∧ ∀ r H1, Ext TT none H H1 → FF g pr r → Q (.int r) H1
section
variable {P : Program} {w : World} {K : PySem.W.Frag} {mg : Str → Option Value} {base : Heap}
theorem Ext.lam {TT : List NTab} {H H1 : Hp} {f g : Addr} {F : NF} {b : Expr} (x : Ext TT none H H1) (h : H f = some (LamO g F b)) : H1 f = some (LamO g F b) := x.kp f _ (fun z => nomatch z) (fun ps => lamO_ne ps) h
theorem Ext.code {TT : List NTab} {H H1 : Hp} {c d : Addr} {q : Str} (x : Ext TT none H H1) (h : H c = some (CodeO d q)) : H1 c = some (CodeO d q) := x.kp c _ (fun z => nomatch z) (fun ps => codeO_ne ps) h
theorem ok_first_fault (T : Txt K mg) (TT : List NTab) {k : Nat} {f : Addr} {F : NF} {b : Expr} {fr ps : List Str} {ws : List (Option V)} {lsp : List (Option V) → Sp} (Fn : LOk P w K mg base CX0 k f F b ps fr lsp) :
    FnOkC P w K mg base CX0 (k + 1) T.a_first_fault T.d_first_fault ["things", "fits"] F.cl fr ws (spFF TT f F b lsp ws) := by
  refine okC T.F_first_fault sc_first_fault (fun vs H Q E h => ?_) (fun cdv A outer s H vs Q E hr C h => ?_)
  · obtain ⟨t, ths, pr, g, rfl, _⟩ := h
    rfl
  · obtain ⟨t, ths, pr, g, rfl, ht, hp, hf, hc, hl, k⟩ := h
    refine ⟨_, pss_cons (ps_for PassesOwn.never rfl (pi_enumT (by rfl) T.n_enumerate (pa_cons (pv 0) pa_nil)) (pg_tup rfl (pgs_cons (pg_name (i := 2) sc_first_fault.nd rfl (Or.inl rfl)) (pgs_cons (pg_name (i := 3) sc_first_fault.nd rfl (Or.inl rfl)) pgs_nil)))
        (pss_cons (ps_if (pt_not (pt_val (pe_callF (i := 1) (E := E0) Fn C rfl hr (Nat.le_refl _) pass0 rfl (Or.inl rfl) (pa_cons (pv 3) pa_nil)))) (pss_one (ps_ret (pv 2))) pss_nil)
        (pss_one (ps_if (PW.pt (pw_and (pt_cmpR op_gt (pv 2) pe_int (nomark _)) (pw_and1 (pt_cmpR (op_leT hr.units0) (pv 3) (pe_ix ix_tup (pv 0) (pe_op op_sub (pv 2) pe_int) (fun _ _ => rfl)) (nomark _))))) (pss_one (ps_ret (pv 2))) pss_nil))))
      (pss_one (ps_ret (pe_un un_neg pe_int))), ?_⟩
    have hlen : ths.length = pr.length := by rw [hp.length]; unfold lkD; rw [List.length_map]
    refine ⟨_, rfl, t, ths, rfl, SqT.of ht, for_it (walk_enumT (K := K) (a := t) (xs := ths)) (fun i σ H' => ∃ u v : Option V, σ = [some (.ref t), some (.ref f), u, v] ∧ Ext TT none H H' ∧ ∀ j, j < i → okAt g pr j)
      ⟨none, none, rfl, Ext.refl _ _ _, fun j hj => absurd hj (Nat.not_lt_zero _)⟩ (fun i σ H' _ ⟨_, _, _, x, _⟩ => SqT.of (x.tup ht)) ?_ ?_⟩
    · rintro i x σ H1 H2 hi ⟨u, v, rfl, x1, hok⟩ ⟨Ta, y, z, rfl, nT, rfl, hy, hz⟩
      cases hy
      have x2 : Ext TT none H (upd H1 Ta (.tup [.int (i : Nat), z])) := x1.trans (Ext.new nT)
      refine ⟨Ta, _, rfl, SqT.of upd_same, rfl, _, _, rfl, _, _, rfl, rfl, ?_⟩
      refine ⟨rfl, x2.lam hf, _, rfl, ⟨x2.lam hf, x2.code hc⟩, hl i z _ _ _ hz x2 fun H3 x3 => ?_⟩
      have x4 := x2.trans x3
      refine ⟨_, rfl, ?_⟩
      refine iteB (fun hg => ?_) (fun hg => ?_)
      · have hg' : g i = false := by simpa using hg
        refine ⟨_, rfl, ?_⟩
        refine k _ _ x4 (.inr ⟨i, rfl, by omega, fun z => ?_, hok⟩)
        rw [z.1] at hg'
        cases hg'
      · have hg' : g i = true := by simpa using hg
        refine ⟨_, rfl, _, _, rfl, rfl, _, rfl, ?_⟩
        refine iteB (fun h0 => ?_) (fun h0 => ?_)
        · have h0' : 0 < i := by
            have q := of_decide_eq_true h0
            omega
          obtain ⟨d, hd, hdz⟩ := hp.get hz
          unfold lkD at hd
          rw [List.getElem?_map] at hd
          cases ep : pr[i]? with
          | none => rw [ep] at hd; cases hd
          | some q =>
            rw [ep] at hd
            cases hd
            obtain ⟨az, rfl, haz⟩ := tp_pr hdz
            have hi1 : i - 1 < ths.length := by omega
            have hz1 : ths[i - 1]? = some ths[i - 1] := List.getElem?_eq_getElem hi1
            obtain ⟨d1, hd1, hdz1⟩ := hp.get hz1
            unfold lkD at hd1
            rw [List.getElem?_map] at hd1
            cases ep1 : pr[i - 1]? with
            | none => rw [ep1] at hd1; cases hd1
            | some q1 =>
              rw [ep1] at hd1
              cases hd1
              obtain ⟨az1, e1, haz1⟩ := tp_pr hdz1
              rw [e1] at hz1
              have ei : ((i : Nat) : Int) - 1 = ((i - 1 : Nat) : Int) := by omega
              refine ⟨_, rfl, _, rfl, _, rfl, _, _, rfl, rfl, _, _, _, _, rfl, rfl, SqT.of (x4.tup ht), (by rw [ei]; exact atI_nat hz1), az, az1, [q.1, q.2], [q1.1, q1.2], rfl, rfl, SqT.of (x4.tup haz), SqT.of (x4.tup haz1), _, rfl, ?_⟩
              refine iteB (fun hle => ?_) (fun hle => ?_)
              · refine ⟨_, rfl, ?_⟩
                refine k _ _ x4 (.inr ⟨i, rfl, by omega, fun z => ?_, hok⟩)
                have z2 := z.2 q1 q h0' ep1 ep
                rw [← lePr_eq, hle] at z2
                cases z2
              · refine ⟨_, _, rfl, x4, fun j hj => ?_⟩
                by_cases e : j = i
                · subst e
                  refine ⟨hg', fun p' q' _ h1 h2 => ?_⟩
                  rw [ep1] at h1
                  rw [ep] at h2
                  cases h1
                  cases h2
                  rw [← lePr_eq]
                  exact hle
                · exact hok j (by omega)
        · have h0' : i = 0 := by
            have q := of_decide_eq_false h0
            omega
          refine ⟨_, _, rfl, x4, fun j hj => ?_⟩
          have e : j = i := by omega
          subst e
          exact ⟨hg', fun p' q' z => by omega⟩
    · rintro σ H1 ⟨u, v, rfl, x1, hok⟩
      refine ⟨_, rfl, ?_⟩
      rw [hlen] at hok
      exact k _ _ x1 (.inl ⟨rfl, hok⟩)
end
end R
end

-- WebA
section
set_option Elab.async false
set_option linter.all false
set_option maxRecDepth 100000
set_option maxHeartbeats 4000000
namespace R
open PySem PySem.Spec PyProof.Rows L2 LamX NdefX LamP
/-! ### errors -/
def spErrInit (K : PySem.W.Frag) : Sp := fun vs H Q _ => ∃ (a C : Addr) (v : V), vs = [.ref a, v] ∧ OexC K C ∧ PySem.W.findIn K (.ref C) "what" = some none ∧ H a = some (exo a C none) ∧
  ∀ dx, H dx = none → dx ≠ a → Q .non (upd (upd H dx (exd dx [("what", v)])) a (exo a C (some dx)))
/-- an error of the class at C is wished, its what as P tells -/
def Rz (TT : List NTab) (E : XK) (H : Hp) (C : Addr) (P : V → Hp → Prop) : Prop := ∀ v d H', Ext TT none H H' → H' d = some (.xd [("what", v)]) → P v H' → E (.ref C) (some d) H'
theorem Rz.step {TT : List NTab} {E : XK} {H H1 : Hp} {C : Addr} {P : V → Hp → Prop} (h : Rz TT E H C P) (x : Ext TT none H H1) : Rz TT E H1 C P := fun v d H' y => h v d H' (x.trans y)
def tErr (C : Addr) (ta : TA) : L2.St → Hp → XK → Prop := fun σ H Q => ta σ H fun vs H1 => ∃ v, vs = [v] ∧ ∀ d, H1 d = none → Q (.ref C) (some d) (upd H1 d (.xd [("what", v)]))
section
variable {P : Program} {w : World} {K : PySem.W.Frag} {mg : Str → Option Value} {base : Heap}
theorem ok_err_init (T : Txt K mg) : FnOk P w K mg base CX0 1 T.a_Refused_init T.d_Refused_init ["self", "what"] (spErrInit K) := by
  refine T.F_Refused_init.ok sc_Refused_init (fun vs H Q E h => ?_) (fun cdv A outer s H vs Q E hr h => ?_)
  · obtain ⟨a, C, v, rfl, _⟩ := h
    rfl
  · obtain ⟨a, C, v, rfl, hC, hw, ha, k⟩ := h
    refine ⟨_, pss_one (ps_ost (pv 0) (pv 1)), ?_⟩
    exact ⟨_, rfl, _, rfl, a, C, rfl, hC, hw, .inl ⟨ha, k⟩⟩
theorem pa_mono {X : Cx} {es : List Expr} {ta : TA} (ha : PA X es ta) : PA X es (fun σ H Q2 => ∃ Q1 : List V → Hp → Prop, ta σ H Q1 ∧ ∀ vs H1, Q1 vs H1 → Q2 vs H1) := by
  refine ⟨fun pos pins s σ H Q I h => ?_⟩
  obtain ⟨Q1, h1, m⟩ := h
  exact wpAny_mono (ha.run pos pins s σ H Q1 I h1) (fun us s' ⟨vs, H', I', r, q⟩ => ⟨vs, H', I', r, m _ _ q⟩) fun _ _ x => x
theorem pmk_err {X : Cx} {x : Str} {C : Addr} {e : Expr} {ta : TA} {p pos : Pos} (T : Txt X.K X.mg) (hE : ErrC X.K X.mg x T.a_Refused_init C) (hr : Room 2 X.A) (hg : Gl X x) (ha : PA X [e] ta)
    (hdb : (x == ("__debug__" : Str)) = false := by decide) (he : starEach (e :: []) X.env = (false, eval e X.env) :: starEach [] X.env := by rfl) (hpl : (backTo pos (starEach [] X.env)).any (·.1) = false := by rfl) :
    PMk X (.Call (.Name x p) [e] [] pos) (tErr C ta) := by
  have q := pmk_oex (pos := pos) (p := p) hE.ox hE.iC T.tI (ok_err_init (P := X.prog) (w := X.w) (base := X.base) T) hr T.b_Refused_init .nil pass0 hg hE.gC (pa_mono ha) hdb he hpl
  intro pins s σ H Q I h
  refine q pins s σ H Q I ?_
  refine ⟨_, h, fun vs H1 hv => ?_⟩
  obtain ⟨v, rfl, k⟩ := hv
  refine ⟨(by show 1 ≤ 1000; decide), fun a na => ?_⟩
  refine ⟨a, C, v, rfl, hE.ox, hE.nw, upd_same, fun dx nd ne => ?_⟩
  have nd1 : H1 dx = none := by
    rw [upd_ne ne] at nd
    exact nd
  refine ⟨rfl, dx, [("what", v)], upd_same, by rw [upd_ne ne]; exact upd_same, nd1, ?_⟩
  have e1 : upd (del (upd (upd (upd H1 a (exo a C none)) dx (exd dx [("what", v)])) a (exo a C (some dx))) a) dx (.xd [("what", v)]) = upd H1 dx (.xd [("what", v)]) := by
    funext b
    by_cases hb : b = dx
    · rw [hb, upd_same, upd_same]
    · rw [upd_ne hb, upd_ne hb]
      by_cases hba : b = a
      · rw [hba, del_same, na]
      · rw [del_ne hba, upd_ne hba, upd_ne hb, upd_ne hba]
  rw [e1]
  exact k dx nd1
/-! ### webs: their attributes, what stands in them -/
def webF (n : Int) (lt rt : V) : List (Str × V) := putF "_rows" rt (putF "links" lt (putF "size" (.int n) []))
theorem k_ls : ¬ (("size" : Str) = "links") := by decide +kernel
theorem k_lr : ¬ (("links" : Str) = "_rows") := by decide +kernel
theorem k_sr : ¬ (("size" : Str) = "_rows") := by decide +kernel
theorem webF_size (n : Int) (lt rt : V) : (webF n lt rt).lookup ("size" : Str) = some (.int n) := by
  unfold webF
  rw [lookup_putF, if_neg k_sr, lookup_putF, if_neg k_ls, lookup_putF, if_pos rfl]
theorem webF_links (n : Int) (lt rt : V) : (webF n lt rt).lookup ("links" : Str) = some lt := by
  unfold webF
  rw [lookup_putF, if_neg k_lr, lookup_putF, if_pos rfl]
theorem webF_rows (n : Int) (lt rt : V) : (webF n lt rt).lookup ("_rows" : Str) = some rt := by
  unfold webF
  rw [lookup_putF, if_pos rfl]
theorem webF_no (n : Int) (lt rt : V) {m : Str} (h1 : ¬ m = "_rows") (h2 : ¬ m = "links") (h3 : ¬ m = "size") : (webF n lt rt).lookup m = none := by
  unfold webF
  rw [lookup_putF, if_neg h1, lookup_putF, if_neg h2, lookup_putF, if_neg h3]
  all_goals rfl
/-- what is near x -/
def rowOf (ps : List (Int × Int)) (x : Int) : List Int := ps.filterMap fun p => if p.1 = x then some p.2 else if p.2 = x then some p.1 else none
def rowsD (n : Int) (ps : List (Int × Int)) : List PyData := (List.range n.toNat).map fun (x : Nat) => .tuple ((rowOf ps (x : Int)).map .int)
structure WebAt (C : Addr) (H : Hp) (p : Addr) (n : Int) (lt : V) (ps : List (Int × Int)) : Prop where
  ob : ∃ dx rt, H p = some (.ins C dx (webF n lt (.ref rt))) ∧ Tp H (.ref rt) (.tuple (rowsD n ps))
  lk : Tp H lt (.tuple (lkD ps))
theorem WebAt.mono {C : Addr} {H H1 : Hp} {p : Addr} {n : Int} {lt : V} {ps : List (Int × Int)} {TT : List NTab} {so : Option Addr} (h : WebAt C H p n lt ps) (x : Ext TT so H H1) (k : TK H H1) (ne : so ≠ some p) : WebAt C H1 p n lt ps := by
  obtain ⟨⟨dx, rt, h1, h2⟩, h3⟩ := h
  exact ⟨⟨dx, rt, x.kp p _ (Ne.symm ne) ins_nt h1, h2.mono k⟩, h3.mono k⟩
theorem WebAt.ext {C : Addr} {H H1 : Hp} {p : Addr} {n : Int} {lt : V} {ps : List (Int × Int)} {TT : List NTab} (h : WebAt C H p n lt ps) (x : Ext TT none H H1) : WebAt C H1 p n lt ps := h.mono x x.tk (fun z => nomatch z)
def spCheckCell (T : Txt K mg) (TT : List NTab) : Sp := fun vs H Q E => ∃ (p dx : Addr) (x n : Int) (lt rt : V), vs = [.ref p, .int x] ∧ H p = some (.ins T.C_Web dx (webF n lt rt)) ∧ ((0 ≤ x ∧ x < n) → RetV TT H Q .non) ∧ (¬ (0 ≤ x ∧ x < n) → Rz TT E H T.C_BadCell fun v _ => v = .int x)
theorem ok_check_cell (T : Txt K mg) (TT : List NTab) : FnOk P w K mg base (L2.CX P w) 3 T.a_check_cell T.d_check_cell ["web", "x"] (spCheckCell T TT) := by
  refine T.F_check_cell.okX sc_check_cell (fun vs H Q E h => ?_) (fun cdv A outer s H vs Q E hr h => ?_)
  · obtain ⟨p, dx, x, n, lt, rt, rfl, _⟩ := h
    rfl
  · obtain ⟨p, dx, x, n, lt, rt, rfl, hp, k1, k2⟩ := h
    refine ⟨_, pss_one (ps_if (pt_not (pt_val (pe_call (ok_is_below T) hr rfl T.g_is_below T.F_is_below.kp T.b_is_below .nil pass0 (pa_cons (pv 1) (pa_cons (pe_fld (pv 0) rfl) pa_nil)))))
      (pss_one (ps_raise rfl (takes_of rfl rfl rfl rfl) (pmk_err (C := T.C_BadCell) T T.e_BadCell hr rfl (pa_cons (pv 1) pa_nil)))) pss_nil), ?_⟩
    refine ⟨_, rfl, _, rfl, p, T.C_Web, dx, _, _, rfl, hp, T.cl_Web, T.na_Web_size, webF_size _ _ _, x, n, rfl, _, rfl, ?_⟩
    refine iteB (fun h => ?_) (fun h => ?_)
    · have h' : ¬ (0 ≤ x ∧ x < n) := fun z => by
        simp at h
        omega
      exact ⟨_, rfl, _, rfl, fun d nd => k2 h' _ _ _ (Ext.new nd) upd_same rfl⟩
    · have h' : 0 ≤ x ∧ x < n := by simpa using h
      exact k1 h' _ (Ext.refl _ _ _)
end
end R
end

-- WebB
section
set_option Elab.async false
set_option linter.all false
set_option maxRecDepth 100000
set_option maxHeartbeats 4000000
namespace R
open PySem PySem.Spec PyProof.Rows L2 LamX NdefX LamP
def lamP : Expr → Arguments
  | .Lambda p _ _ _ => p
  | _ => { posonlyargs := [], args := [], vararg := none, kwonlyargs := [], kw_defaults := [], kwarg := none, defaults := [] }
def lamB : Expr → Expr
  | .Lambda _ b _ _ => b
  | e => e
def lamS : Expr → Scope
  | .Lambda _ _ s _ => s
  | _ => { kind := .function, names := [], isGenerator := false, isCoroutine := false }
def asgE : Stmt → Expr
  | .Assign _ e _ => e
  | _ => .Constant .none 0 ⟨0, 0, 0, 0⟩
def argN : Expr → Nat → Expr
  | .Call _ es _ _, j => es.getD j (.Constant .none 0 ⟨0, 0, 0, 0⟩)
  | e, _ => e
theorem FunC.okX {P : Program} {w : World} {K : PySem.W.Frag} {mg : Str → Option Value} {base : Heap} {x qual : Str} {st : Stmt} {f c : Addr} {fd : FuncData} {N ps : List Str} {k : Nat} {sp : Sp} (F : FunC K x qual st f fd c) (S : FnScope N ps (defScope st)) (len : ∀ vs H Q E, sp vs H Q E → vs.length = ps.length)
    (hbody : ∀ (A : Around) (outer : List Env) (s : Shared) (H : Hp) (vs : List V) (Q : VK) (E : XK), Room k (A.deeper (envOfC qual (defScope st) s.heap.objs.size f (.ref c))) → sp vs H Q E →
      ∃ t, PSs (cxOf (L2.CX P w) P w K mg base N qual (defScope st) f (.ref c) A outer s H E) (defBody st) t ∧ t { nx := fun _ H' => Q .non H', rt := Q } (L2.start N vs) H) : FnOk P w K mg base (L2.CX P w) (k + 1) f fd ps sp := by
  obtain ⟨oc, od, kV, doc, pm, an, ct, osl, rfl, lk, hcd⟩ := F.ex
  exact fn_of lk hcd S len fun A outer s H vs Q E hr hsp => hbody A outer s H vs Q E hr hsp
abbrev e_cl : Expr := argN (asgE ((defBody s_check_links).getD 1 (.Pass ⟨0, 0, 0, 0⟩))) 1
/-- the one table: of the lambda in check_links -/
def TTof {K : PySem.W.Frag} {mg : Str → Option Value} (T : Txt K mg) : List NTab := [(T.P_check_links, fun _ _ => (("check_links" : Str) ++ ".<locals>.") ++ "<lambda>")]
def lspRise (TT : List NTab) (ws : List (Option V)) : Sp := fun vs H Q _ => ∃ (a : Addr) (i j n : Int), ws = [some (.int n)] ∧ vs = [.ref a] ∧ H a = some (.tup [.int i, .int j]) ∧ RetV TT H Q (.bl (decide (0 ≤ i) && (decide (i < j) && decide (j < n))))
def rises (n : Int) (p : Int × Int) : Bool := decide (0 ≤ p.1) && (decide (p.1 < p.2) && decide (p.2 < n))
def risesAt (n : Int) (ps : List (Int × Int)) (i : Nat) : Bool := match ps[i]? with
  | some p => rises n p
  | none => true
/-- no fault in the links -/
def NoFault (n : Int) (ps : List (Int × Int)) : Prop := ∀ i, i < ps.length → okAt (risesAt n ps) ps i
theorem sc_lam_cl : NScope ["link", "size"] ["link"] ["size"] (lamS e_cl) := nscope_by (by decide +kernel)
theorem fr_lam_cl : ∀ y ∈ (lamS e_cl).names, y.2 = .free → (defScope s_check_links).names.lookup y.1 = some .cell ∨ (defScope s_check_links).names.lookup y.1 = some .free := by decide +kernel
theorem fr_lam_cl2 : ∀ y ∈ (["size"] : List Str), (y, NameKind.free) ∈ (lamS e_cl).names := by decide +kernel
section
variable {P : Program} {w : World} {K : PySem.W.Frag} {mg : Str → Option Value} {base : Heap}
theorem lok_rise (T : Txt K mg) (TT : List NTab) (f c' : Addr) (q : Str) (cl : List (Str × Addr)) : LOk P w K mg base CX0 4 f ⟨"<lambda>", q, lamP e_cl, [], lamS e_cl, cl, c'⟩ (lamB e_cl) ["link"] ["size"] (lspRise TT) := by
  refine lok_of (N := ["link", "size"]) sc_lam_cl (fun pm ctv us hl => ?_) (fun ws vs H Q E h => ?_) (fun A outer s H vs ws Q E hr hf hc hw h => ?_)
  · match us, hl with
    | [u], _ => rfl
  · obtain ⟨a, i, j, n, _, rfl, _⟩ := h
    rfl
  · obtain ⟨a, i, j, n, rfl, rfl, ha, k⟩ := h
    refine ⟨_, pe_call (ok_is_rising T TT) hr rfl T.g_is_rising_pair T.F_is_rising_pair.kp T.b_is_rising_pair .nil pass0 (pa_cons (pv 0) (pa_cons (pv 1) pa_nil)), ?_⟩
    exact ⟨_, rfl, _, rfl, a, i, j, n, rfl, ha, k⟩
def spCheckLinks (T : Txt K mg) (TT : List NTab) : Sp := fun vs H Q E => ∃ (n : Int) (lt : Addr) (ps : List (Int × Int)), vs = [.int n, .ref lt] ∧ Tp H (.ref lt) (.tuple (lkD ps)) ∧ TabsN TT H ∧
  (160 < ps.length → Rz TT E H T.C_TooMany fun v _ => v = .int (ps.length : Int)) ∧ (ps.length ≤ 160 → NoFault n ps → RetV TT H Q .non) ∧
  (ps.length ≤ 160 → ∀ i : Nat, i < ps.length → ¬ okAt (risesAt n ps) ps i → (∀ j, j < i → okAt (risesAt n ps) ps j) → Rz TT E H T.C_BadLink fun v _ => v = .int (i : Int))
theorem ok_check_links (T : Txt K mg) (TB : TabB base mg T.c_check_links T.P_check_links) : FnOk P w K mg base (L2.CX P w) 6 T.a_check_links T.d_check_links ["size", "links"] (spCheckLinks T (TTof T)) := by
  refine T.FC_check_links.okX sc_check_links (fun vs H Q E h => ?_) (fun A outer s H vs Q E hr h => ?_)
  · obtain ⟨n, lt, ps, rfl, _⟩ := h
    rfl
  · obtain ⟨n, lt, ps, rfl, hl, hT, k1, k2, k3⟩ := h
    have G : ∀ (cl : List (Str × Addr)) (ws : List (Option V)), FnOkC P w K mg base CX0 5 T.a_first_fault T.d_first_fault ["things", "fits"] cl ["size"] ws (fun vs H Q E => ∃ (f c' : Addr), spFF (TTof T) f ⟨"<lambda>", (("check_links" : Str) ++ ".<locals>.") ++ "<lambda>", lamP e_cl, [], lamS e_cl, cl, c'⟩ (lamB e_cl) (lspRise (TTof T)) ws vs H Q E) := fun cl ws =>
      ⟨fun vs H Q E ⟨f, c', q⟩ => (ok_first_fault (P := P) (w := w) (base := base) T (TTof T) (lok_rise T (TTof T) f c' _ cl)).len vs H Q E q,
       fun A outer s H args us vs Q E hr e0 C hb r ⟨f, c', q⟩ => (ok_first_fault (P := P) (w := w) (base := base) T (TTof T) (lok_rise T (TTof T) f c' _ cl)).run A outer s H args us vs Q E hr e0 C hb r q⟩
    refine ⟨_, pss_cons (ps_if (pt_cmpR op_gt (pe_callB call_len_seq (by rfl) T.n_len PySem.boot_len (pa_cons (pv 1) pa_nil)) (pe_glob (v := .int 160) rfl T.c_MOST_LINKS ⟨_, rfl⟩) (nomark _))
        (pss_one (ps_raise rfl (takes_of rfl rfl rfl rfl) (pmk_err (C := T.C_TooMany) T T.e_TooMany (hr.mono (by decide)) rfl (pa_cons (pe_callB call_len_seq (by rfl) T.n_len PySem.boot_len (pa_cons (pv 1) pa_nil)) pa_nil)))) pss_nil)
      (pss_cons (ps_set (i := 2) sc_check_links.nd rfl (Or.inl rfl) (pe_callC (fr := ["size"]) (js := [0]) (E := E0) (G _) (fun ok => Caps.made ok (scope := lamS e_cl) fr_lam_cl fr_lam_cl2 rfl) hr rfl T.g_first_fault T.F_first_fault.kp T.b_first_fault pass0
          (pa_cons (pv 1) (pa_cons (pe_lam (T := TTof T) TB rfl (List.mem_singleton.mpr rfl) (fun p hp _ => by cases List.mem_singleton.mp hp; rfl) rfl fr_lam_cl) pa_nil))))
      (pss_one (ps_if (pt_cmpR op_ge (pv 2) pe_int (nomark _)) (pss_one (ps_raise rfl (takes_of rfl rfl rfl rfl) (pmk_err (C := T.C_BadLink) T T.e_BadLink (hr.mono (by decide)) rfl (pa_cons (pv 2) pa_nil)))) pss_nil))), ?_⟩
    have hL : ∃ xs, H lt = some (.tup xs) ∧ Tps H xs (lkD ps) := by
      cases hl with
      | tup h t => exact ⟨_, h, t⟩
    obtain ⟨xs, hx, hxs⟩ := hL
    have hlen : xs.length = ps.length := by rw [hxs.length]; unfold lkD; rw [List.length_map]
    refine ⟨_, rfl, lt, _, rfl, .inr (SqT.of hx), _, _, rfl, rfl, _, rfl, ?_⟩
    rw [hlen]
    refine iteB (fun h => ?_) (fun h => ?_)
    · have h' : 160 < ps.length := by
        have q := of_decide_eq_true h
        omega
      refine ⟨_, rfl, lt, _, rfl, .inr (SqT.of hx), _, rfl, fun d nd => ?_⟩
      rw [hlen]
      exact k1 h' _ _ _ (Ext.new nd) upd_same rfl
    · have h' : ps.length ≤ 160 := by
        have q := of_decide_eq_false h
        omega
      refine ⟨_, rfl, hT, fun f c' H1 ⟨eN, nn, T1, f0, f1, c1⟩ => ?_⟩
      have x1 : Ext (TTof T) none H H1 := ⟨fun b o _ t e => eN b o e t, fun _ => T1, (fun _ z => nomatch z), nn⟩
      refine ⟨f, c', lt, xs, ps, risesAt n ps, rfl, x1.tup hx, hxs.mono x1.tk, f1, c1, fun i v H2 Q1 E1 hi x2 kq => ?_, fun r H2 x2 hr' => ?_⟩
      · obtain ⟨d, hd, hdz⟩ := hxs.get hi
        unfold lkD at hd
        rw [List.getElem?_map] at hd
        cases ep : ps[i]? with
        | none => rw [ep] at hd; cases hd
        | some q =>
          rw [ep] at hd
          cases hd
          obtain ⟨az, rfl, haz⟩ := tp_pr hdz
          refine ⟨az, q.1, q.2, n, rfl, rfl, (x1.trans x2).tup haz, ?_⟩
          have e : risesAt n ps i = rises n q := by
            unfold risesAt
            rw [ep]
          rw [e] at kq
          exact kq
      · refine ⟨_, rfl, _, _, rfl, rfl, _, rfl, ?_⟩
        have x3 := x1.trans x2
        rcases hr' with ⟨rfl, hok⟩ | ⟨i, rfl, hi, hb, hok⟩
        · refine iteB (fun h => ?_) (fun h => ?_)
          · have q := of_decide_eq_true h
            omega
          · exact k2 h' hok _ x3
        · refine iteB (fun h => ?_) (fun h => ?_)
          · exact ⟨_, rfl, _, rfl, fun d nd => k3 h' i hi hb hok _ _ _ (x3.trans (Ext.new nd)) upd_same rfl⟩
          · have q := of_decide_eq_false h
            omega
end
end R
end

-- WebC
section
set_option Elab.async false
set_option linter.all false
set_option maxRecDepth 100000
set_option maxHeartbeats 4000000
namespace R
open PySem PySem.Spec PyProof.Rows L2 LamX NdefX LamP
theorem rowOf_snoc (ps : List (Int × Int)) (p : Int × Int) (x : Int) : rowOf (ps ++ [p]) x = rowOf ps x ++ (if p.1 = x then [p.2] else if p.2 = x then [p.1] else []) := by
  unfold rowOf
  rw [List.filterMap_append]
  congr 1
  show List.filterMap _ [p] = _
  by_cases h : p.1 = x
  · simp [h]
  · by_cases h2 : p.2 = x
    · simp [h, h2]
    · simp [h, h2]
theorem rowOf_len (ps : List (Int × Int)) (x : Int) : (rowOf ps x).length ≤ ps.length := by
  unfold rowOf
  exact List.length_filterMap_le _ _
theorem take_snoc {α : Type} {l : List α} {i : Nat} {x : α} (h : l[i]? = some x) : l.take (i + 1) = l.take i ++ [x] := by
  have hi := (List.getElem?_eq_some_iff.mp h)
  obtain ⟨h1, h2⟩ := hi
  rw [List.take_succ, h]
  rfl
def rTupOf (K : PySem.W.Frag) : List V → Hp → VK → Prop := fun xs H Q => ∃ p ys, xs = [.ref p] ∧ ((SqL K H p ys ∧ ∀ l, H l = none → Q (.ref l) (upd H l (.tup ys))) ∨ (SqT K H p ys ∧ Q (.ref p) H))
theorem cr_tupleK {X : Cx} (K : PySem.W.Frag) (h : X.K = K := by rfl) : CallR X (.type "tuple") (rTupOf K) := by
  subst h
  exact call_tuple_of
def LkIn (n : Int) (ps : List (Int × Int)) : Prop := ∀ p ∈ ps, 0 ≤ p.1 ∧ p.1 < p.2 ∧ p.2 < n
def spNearRows (TT : List NTab) : Sp := fun vs H Q _ => ∃ (n : Int) (lt : Addr) (ps : List (Int × Int)), vs = [.int n, .ref lt] ∧ Tp H (.ref lt) (.tuple (lkD ps)) ∧ ps.length ≤ 1000 ∧ 0 ≤ n ∧ n ≤ 1000 ∧ LkIn n ps ∧
  Ret TT H Q fun v H' => ∃ rt, v = .ref rt ∧ Tp H' (.ref rt) (.tuple (rowsD n ps))
section
variable {P : Program} {w : World} {K : PySem.W.Frag} {mg : Str → Option Value} {base : Heap}
theorem nodup_get {l : List Addr} (h : l.Nodup) {i j : Nat} {a : Addr} (hi : l[i]? = some a) (hj : l[j]? = some a) : i = j := by
  obtain ⟨h1, e1⟩ := List.getElem?_eq_some_iff.mp hi
  obtain ⟨h2, e2⟩ := List.getElem?_eq_some_iff.mp hj
  exact (List.getElem_inj h).mp (e1.trans e2.symm)
theorem ok_near_rows (T : Txt K mg) (TT : List NTab) : FnOk P w K mg base CX0 1 T.a_near_rows T.d_near_rows ["many", "pairs"] (spNearRows TT) := by
  refine T.F_near_rows.ok sc_near_rows (fun vs H Q E h => ?_) (fun cdv A outer s H vs Q E hr h => ?_)
  · obtain ⟨n, lt, ps, rfl, _⟩ := h
    rfl
  · obtain ⟨n, lt, ps, rfl, hl, hz, hn0, hn1, hin, k⟩ := h
    have nd := sc_near_rows.nd
    refine ⟨_, pss_cons (ps_setLc (i := 2) (own := [("_", 5)]) (g := gName 5) (tt := tYes) rfl nd rfl rfl (sw_true rfl rfl rfl (by decide +kernel)) (pi_range1 (by rfl) T.n_range (pa_cons (pv 0) pa_nil)) (blkOk_by (N := N_near_rows) (sc := defScope s_near_rows) (by decide +kernel))
          (fun _ _ _ _ _ => pg_name (i := 5) nd rfl (Or.inl rfl)) (fun _ _ _ _ _ => pts_nil) (fun _ _ _ _ _ => pe_lst pa_nil))
      (pss_cons (ps_for PassesOwn.never rfl (pi_tup (pv 1)) (pg_tup rfl (pgs_cons (pg_name (i := 3) nd rfl (Or.inl rfl)) (pgs_cons (pg_name (i := 4) nd rfl (Or.inl rfl)) pgs_nil)))
          (pss_cons (ps_expr (pe_bm PySem.F.plainAttrs_list PySem.F.slot_list_append PySem.F.type_list_append mt_append (pe_ix ix_list (pv 2) (pv 3) (fun _ _ => rfl)) (pa_cons (pv 4) pa_nil)))
          (pss_one (ps_expr (pe_bm PySem.F.plainAttrs_list PySem.F.slot_list_append PySem.F.type_list_append mt_append (pe_ix ix_list (pv 2) (pv 4) (fun _ _ => rfl)) (pa_cons (pv 3) pa_nil))))))
      (pss_one (ps_ret (pe_callTy call_tuple_of (by rfl) T.n_tuple (by decide +kernel) (pa_cons (pe_lc (own := [("row", 6)]) (g := gName 6) (tt := tYes) rfl nd (pi_list (pv 2)) (blkOk_by (N := N_near_rows) (sc := defScope s_near_rows) (by decide +kernel))
          (fun _ _ _ _ _ => pg_name (i := 6) nd rfl (Or.inl rfl)) (fun _ _ _ _ _ => pts_nil) (fun _ _ _ _ _ => pe_callTy (r := rTupOf K) (cr_tupleK K) (by rfl) T.n_tuple (by decide +kernel) (pa_cons (pv 6) pa_nil))) pa_nil))))), ?_⟩
    obtain ⟨xs, hx, hxs⟩ : ∃ xs, H lt = some (.tup xs) ∧ Tps H xs (lkD ps) := by
      cases hl with
      | tup h t => exact ⟨_, h, t⟩
    have hlen : xs.length = ps.length := by rw [hxs.length]; unfold lkD; rw [List.length_map]
    refine ⟨_, rfl, n, rfl, by omega, by omega, fun D hD => lc_range (lo := 0) (n := n.toNat) (fun i H' => ∃ ls : List Addr, ls.length = i ∧ ls.Nodup ∧ Ext TT none H H' ∧ H' D = some (.lst (ls.map V.ref)) ∧ ∀ l ∈ ls, H l = none ∧ l ≠ D ∧ H' l = some (.lst [])) ⟨[], rfl, List.nodup_nil, Ext.new hD, upd_same, fun _ z => nomatch z⟩ ?_ ?_⟩
    · rintro i H1 hi ⟨ls, hls, hnd, x1, h1, hall⟩
      refine ⟨rfl, ?_⟩
      dsimp only [tYes]
      rw [if_pos rfl]
      refine ⟨(by show 0 ≤ sizeLine; exact Nat.zero_le _), fun p np => ?_⟩
      have npD : p ≠ D := fun z => by rw [z, h1] at np; cases np
      have npl : p ∉ ls := fun z => by
        have q := (hall p z).2.2
        rw [np] at q
        cases q
      have e1 : upd H1 p (.lst []) D = some (.lst (ls.map V.ref)) := by rw [upd_ne (Ne.symm npD)]; exact h1
      refine ⟨_, e1, (by rw [List.length_map]; exact small1000 (by omega)), ls ++ [p], by rw [List.length_append, hls] <;> rfl, ?_, (x1.trans (Ext.new np)).mutL hD e1 (fun z => nomatch z), by rw [upd_same, List.map_append] <;> rfl, fun l hl' => ?_⟩
      · rw [List.nodup_append]
        exact ⟨hnd, by simp, fun a ha b hb => by
          simp at hb
          subst hb
          exact fun z => npl (z ▸ ha)⟩
      · rcases List.mem_append.mp hl' with z | z
        · obtain ⟨a1, a2, a3⟩ := hall l z
          refine ⟨a1, a2, ?_⟩
          rw [upd_ne a2, upd_ne (fun q => npl (by rw [← q]; exact z))]
          exact a3
        · simp at z
          subst z
          exact ⟨x1.fr _ np, npD, by rw [upd_ne npD]; exact upd_same⟩
    · rintro H1 ⟨ls, hls, hnd, x1, h1, hall⟩
      refine ⟨_, rfl, lt, rfl, ⟨_, SqT.of (x1.tup hx)⟩, for_tup (xs := xs) (fun i σ H' => ∃ u v : Option V, σ = [some (.int n), some (.ref lt), some (.ref D), u, v, none, none] ∧ Ext TT none H H' ∧ H' D = some (.lst (ls.map V.ref)) ∧ ∀ (j : Nat) l, ls[j]? = some l → H' l = some (.lst ((rowOf (ps.take i) (j : Int)).map V.int)))
        ⟨none, none, rfl, x1, h1, fun j l hj => (hall l (List.mem_of_getElem? hj)).2.2⟩ (fun i σ H' _ ⟨_, _, _, x, _⟩ => SqT.of (x.tup hx)) ?_ ?_⟩
      · rintro i x σ H2 hi ⟨u, v, rfl, x2, h2, hrow⟩
        obtain ⟨d, hd, hdz⟩ := hxs.get hi
        unfold lkD at hd
        rw [List.getElem?_map] at hd
        cases ep : ps[i]? with
        | none => rw [ep] at hd; cases hd
        | some q =>
          rw [ep] at hd
          cases hd
          obtain ⟨az, rfl, haz⟩ := tp_pr hdz
          obtain ⟨q0, q1, q2⟩ := hin q (List.mem_of_getElem? ep)
          have ea : q.1 = ((q.1.toNat : Nat) : Int) := by omega
          have eb : q.2 = ((q.2.toNat : Nat) : Int) := by omega
          have la : q.1.toNat < ls.length := by omega
          have lb : q.2.toNat < ls.length := by omega
          have ga : ls[q.1.toNat]? = some ls[q.1.toNat] := List.getElem?_eq_getElem la
          have gb : ls[q.2.toNat]? = some ls[q.2.toNat] := List.getElem?_eq_getElem lb
          generalize hA : ls[q.1.toNat] = A1 at ga
          generalize hB : ls[q.2.toNat] = B1 at gb
          have nAB : B1 ≠ A1 := fun z => by
            rw [z] at gb
            have e := nodup_get hnd ga gb
            omega
          have rA := hrow _ _ ga
          have rB := hrow _ _ gb
          rw [← ea] at rA
          rw [← eb] at rB
          have nA : H A1 = none := (hall A1 (List.mem_of_getElem? ga)).1
          have nB : H B1 = none := (hall B1 (List.mem_of_getElem? gb)).1
          have dA : A1 ≠ D := (hall A1 (List.mem_of_getElem? ga)).2.1
          have dB : B1 ≠ D := (hall B1 (List.mem_of_getElem? gb)).2.1
          have zi : ∀ x : Int, ((rowOf (ps.take i) x).map V.int).length < sizeLine := fun x => by
            rw [List.length_map]
            exact small1000 (Nat.le_trans (rowOf_len _ _) (by rw [List.length_take]; omega))
          have mA : (ls.map V.ref)[q.1.toNat]? = some (.ref A1) := by rw [List.getElem?_map, ga] <;> rfl
          have mB : (ls.map V.ref)[q.2.toNat]? = some (.ref B1) := by rw [List.getElem?_map, gb] <;> rfl
          refine ⟨az, _, rfl, SqT.of (x2.tup haz), rfl, _, _, rfl, _, _, rfl, rfl, ?_⟩
          refine ⟨_, rfl, _, rfl, D, _, _, .ref A1, rfl, rfl, SqL.of h2, (by rw [ea]; exact atI_nat mA), Or.inl ⟨rfl, _, SqL.of rA⟩, _, rfl, A1, _, _, rfl, rfl, rA, zi _, ?_⟩
          have h2' : upd H2 A1 (.lst ((rowOf (ps.take i) q.1).map V.int ++ [.int q.2])) D = some (.lst (ls.map V.ref)) := by rw [upd_ne (Ne.symm dA)]; exact h2
          have rB' : upd H2 A1 (.lst ((rowOf (ps.take i) q.1).map V.int ++ [.int q.2])) B1 = some (.lst ((rowOf (ps.take i) q.2).map V.int)) := by rw [upd_ne nAB]; exact rB
          refine ⟨_, rfl, _, rfl, D, _, _, .ref B1, rfl, rfl, SqL.of h2', (by rw [eb]; exact atI_nat mB), Or.inl ⟨rfl, _, SqL.of rB'⟩, _, rfl, B1, _, _, rfl, rfl, rB', zi _, ?_⟩
          refine ⟨_, _, rfl, (x2.mutL nA rA (fun z => nomatch z)).mutL nB rB' (fun z => nomatch z), by rw [upd_ne (Ne.symm dB)]; exact h2', fun j l hj => ?_⟩
          rw [take_snoc ep, rowOf_snoc]
          by_cases c1 : l = B1
          · subst c1
            have e := nodup_get hnd hj gb
            subst e
            rw [upd_same, ← eb, if_neg (by omega), if_pos rfl, List.map_append]
            rfl
          · rw [upd_ne c1]
            by_cases c2 : l = A1
            · subst c2
              have e := nodup_get hnd hj ga
              subst e
              rw [upd_same, ← ea, if_pos rfl, List.map_append]
              rfl
            · rw [upd_ne c2, if_neg (fun z => c2 (by
                have e : j = q.1.toNat := by omega
                rw [e, ga] at hj
                exact (Option.some.inj hj).symm)), if_neg (fun z => c1 (by
                have e : j = q.2.toNat := by omega
                rw [e, gb] at hj
                exact (Option.some.inj hj).symm)), List.append_nil]
              exact hrow j l hj
      · rintro σ H2 ⟨u, v, rfl, x2, h2, hrow⟩
        rw [hlen, List.take_length] at hrow
        refine ⟨_, rfl, D, rfl, ⟨_, SqL.of h2⟩, fun D3 hD3 => lc_list (xs := ls.map V.ref) (fun i H' => ∃ ts : List V, Ext TT none H2 H' ∧ H2 D3 = none ∧ H' D3 = some (.lst ts) ∧ Tps H' ts ((List.range i).map fun (x : Nat) => .tuple ((rowOf ps (x : Int)).map .int))) ⟨[], Ext.new hD3, hD3, upd_same, .nil⟩ (fun i H' _ ⟨ts, x, n3, _⟩ => SqL.of (x.lst h2)) ?_ ?_⟩
        · rintro i x H3 hi ⟨ts, x3, n3, h3, hts⟩
          rw [List.getElem?_map] at hi
          cases el : ls[i]? with
          | none => rw [el] at hi; cases hi
          | some l =>
            rw [el] at hi
            cases hi
            have hil : i < ls.length := (List.getElem?_eq_some_iff.mp el).1
            refine ⟨rfl, ?_⟩
            dsimp only [tYes]
            rw [if_pos rfl]
            refine ⟨_, rfl, l, _, rfl, .inl ⟨SqL.of (x3.lst (hrow i l el)), fun p np => ?_⟩⟩
            have npD : D3 ≠ p := fun z => by rw [← z, h3] at np; cases np
            have htl := hts.length
            rw [List.length_map, List.length_range] at htl
            have e3 : upd H3 p (.tup ((rowOf ps (i : Int)).map V.int)) D3 = some (.lst ts) := by rw [upd_ne npD]; exact h3
            refine ⟨_, e3, (by rw [htl]; exact small1000 (by omega)), ts ++ [.ref p], (x3.trans (Ext.new np)).mutL n3 e3 (fun z => nomatch z), n3, upd_same, ?_⟩
            rw [List.range_succ, List.map_append]
            refine Tps.append ?_ (.cons ?_ .nil)
            · exact hts.mono ((TK.new np).trans (TK.lst e3))
            · exact .tup (by rw [upd_ne (Ne.symm npD)]; exact upd_same) (Tps.ints _)
        · rintro H3 ⟨ts, x3, n3, h3, hts⟩
          rw [List.length_map, hls] at hts
          refine ⟨D3, ts, rfl, .inl ⟨SqL.of h3, fun p np => ?_⟩⟩
          exact k _ _ ((x2.trans x3).trans (Ext.new np)) ⟨p, rfl, .tup upd_same (hts.mono (TK.new np))⟩
end
end R
end

-- WebD
section
set_option Elab.async false
set_option linter.all false
set_option maxRecDepth 100000
set_option maxHeartbeats 4000000
namespace R
open PySem PySem.Spec PyProof.Rows L2 LamX NdefX LamP
theorem rises_in {n : Int} {ps : List (Int × Int)} (h : NoFault n ps) : LkIn n ps := fun p hp => by
  obtain ⟨i, hi⟩ := List.mem_iff_getElem?.mp hp
  have q := (h i (List.getElem?_eq_some_iff.mp hi).1).1
  unfold risesAt at q
  rw [hi] at q
  simp [rises] at q
  exact q
/-- an instance at x was just made: what is kept from there is kept from before -/
theorem make_ext {TT : List NTab} {H1 H2 : Hp} {x dx C : Addr} (nx : H1 x = none) (nd : H1 dx = none) (e : Ext TT (some x) (upd (upd H1 dx (.own x)) x (.ins C dx [])) H2) : Ext TT none H1 H2 := by
  have up : ∀ b o, H1 b = some o → upd (upd H1 dx (.own x)) x (.ins C dx []) b = some o := fun b o h => by
    rw [upd_ne (ne_of_none h nx), upd_ne (ne_of_none h nd)]
    exact h
  exact ⟨fun b o _ t h => e.kp b o (fun z => ne_of_none h nx (Option.some.inj z)) t (up b o h), fun h => e.tb (h.ext up), (fun _ z => nomatch z), fun b h => upd_none' (upd_none' (e.fr b h))⟩
theorem make_new {TT : List NTab} {H1 : Hp} {x dx C : Addr} (nx : H1 x = none) (nd : H1 dx = none) (ne : dx ≠ x) : Ext TT none H1 (upd (upd H1 dx (.own x)) x (.ins C dx [])) :=
  (Ext.new nd).trans (Ext.new (by rw [upd_ne (Ne.symm ne)]; exact nx))
section
variable {P : Program} {w : World} {K : PySem.W.Frag} {mg : Str → Option Value} {base : Heap}
/-- what Web(n, links) does: E's wishes, or the web -/
def WebInit (T : Txt K mg) (TT : List NTab) (n : Int) (ps : List (Int × Int)) (H : Hp) (E : XK) (Good : Prop) : Prop :=
  (¬ (1 ≤ n ∧ n ≤ 40) → Rz TT E H T.C_BadSize fun v _ => v = .int n) ∧ (1 ≤ n ∧ n ≤ 40 → 160 < ps.length → Rz TT E H T.C_TooMany fun v _ => v = .int (ps.length : Int)) ∧
  (1 ≤ n ∧ n ≤ 40 → ps.length ≤ 160 → ∀ i : Nat, i < ps.length → ¬ okAt (risesAt n ps) ps i → (∀ j, j < i → okAt (risesAt n ps) ps j) → Rz TT E H T.C_BadLink fun v _ => v = .int (i : Int)) ∧
  (1 ≤ n ∧ n ≤ 40 → ps.length ≤ 160 → NoFault n ps → Good)
def spWebInit (T : Txt K mg) (TT : List NTab) : Sp := fun vs H Q E => ∃ (p dx : Addr) (n : Int) (lt : Addr) (ps : List (Int × Int)), vs = [.ref p, .int n, .ref lt] ∧ H p = some (.ins T.C_Web dx []) ∧ Tp H (.ref lt) (.tuple (lkD ps)) ∧ TabsN TT H ∧
  WebInit T TT n ps H E (∀ H', Ext TT (some p) H H' → WebAt T.C_Web H' p n (.ref lt) ps → Q .non H')
theorem ok_web_init (T : Txt K mg) (TB : TabB base mg T.c_check_links T.P_check_links) : FnOk P w K mg base (L2.CX P w) 7 T.a_Web_init T.d_Web_init ["self", "size", "links"] (spWebInit T (TTof T)) := by
  refine T.F_Web_init.okX sc_Web_init (fun vs H Q E h => ?_) (fun cdv A outer s H vs Q E hr h => ?_)
  · obtain ⟨p, dx, n, lt, ps, rfl, _⟩ := h
    rfl
  · obtain ⟨p, dx, n, lt, ps, rfl, hp, hl, hT, k1, k2, k3, k4⟩ := h
    refine ⟨_, pss_cons (ps_if (pt_not (pt_chain op_le op_le pe_int (pv 1) (pe_glob (v := .int 40) rfl T.c_MOST_CELLS ⟨_, rfl⟩))) (pss_one (ps_raise rfl (takes_of rfl rfl rfl rfl) (pmk_err (C := T.C_BadSize) T T.e_BadSize (hr.mono (by decide)) rfl (pa_cons (pv 1) pa_nil)))) pss_nil)
      (pss_cons (ps_expr (pe_call (ok_check_links T TB) hr rfl T.g_check_links T.F_check_links.kp T.b_check_links .nil (passes_call (takes_of rfl rfl rfl rfl) (fun _ _ _ _ h => h)) (pa_cons (pv 1) (pa_cons (pv 2) pa_nil))))
      (pss_cons (ps_fld (pv 0) (pv 1) rfl) (pss_cons (ps_fld (pv 0) (pv 2) rfl)
      (pss_one (ps_fld (pv 0) (pe_call (ok_near_rows T (TTof T)) (hr.mono (by decide)) rfl T.g_near_rows T.F_near_rows.kp T.b_near_rows .nil pass0 (pa_cons (pv 1) (pa_cons (pv 2) pa_nil))) rfl))))), ?_⟩
    have bad : ¬ (1 ≤ n ∧ n ≤ 40) → ∀ d, H d = none → E (.ref T.C_BadSize) (some d) (upd H d (.xd [("what", .int n)])) := fun h d nd => k1 h _ _ _ (Ext.new nd) upd_same rfl
    refine ⟨_, rfl, _, _, rfl, rfl, _, rfl, ?_⟩
    refine iteB (fun h => ?_) (fun h => ?_)
    rotate_left
    · have h' : ¬ (1 ≤ n ∧ n ≤ 40) := fun z => by
        have q := of_decide_eq_false h
        omega
      refine ⟨_, rfl, ?_⟩
      refine iteT ?_
      exact ⟨_, rfl, _, rfl, fun d nd => bad h' d nd⟩
    · refine ⟨_, _, rfl, rfl, _, rfl, ?_⟩
      have h1 := of_decide_eq_true h
      refine iteB (fun h2 => ?_) (fun h2 => ?_)
      · have h' : ¬ (1 ≤ n ∧ n ≤ 40) := fun z => by
          simp at h2
          omega
        exact ⟨_, rfl, _, rfl, fun d nd => bad h' d nd⟩
      · have h' : 1 ≤ n ∧ n ≤ 40 := by
          simp at h2
          omega
        refine ⟨_, rfl, _, rfl, n, lt, ps, rfl, hl, hT, k2 h', fun hz hok H1 x1 => ?_, k3 h'⟩
        have hp1 := x1.ins hp
        refine ⟨_, rfl, _, rfl, p, T.C_Web, dx, _, rfl, hp1, T.cl_Web, T.na_Web_size, (by show 0 < 1000; decide), ?_⟩
        refine ⟨_, rfl, _, rfl, p, T.C_Web, dx, _, rfl, upd_same, T.cl_Web, T.na_Web_links, (by show 1 < 1000; decide), ?_⟩
        rw [upd_upd]
        -- the links stand: p is no tuple
        have tk2 : ∀ fs, TK H1 (upd H1 p (.ins T.C_Web dx fs)) := fun fs a ys e => by
          rw [upd_ne (ne_of e hp1 (by intro z; cases z))]
          exact e
        have hl2 := (hl.mono x1.tk).mono (tk2 (putF "links" (.ref lt) (putF "size" (.int n) [])))
        refine ⟨_, rfl, _, rfl, n, lt, ps, rfl, hl2, by omega, by omega, by omega, rises_in hok, fun v H2 x2 hv => ?_⟩
        obtain ⟨rt, rfl, hrt⟩ := hv
        refine ⟨_, rfl, p, T.C_Web, dx, _, rfl, x2.ins upd_same, T.cl_Web, T.na_Web__rows, (by show 2 < 1000; decide), ?_⟩
        have tk3 : TK H2 (upd H2 p (.ins T.C_Web dx (webF n (.ref lt) (.ref rt)))) := fun a ys e => by
          rw [upd_ne (ne_of e (x2.ins upd_same) (by intro z; cases z))]
          exact e
        refine k4 h' hz hok _ ⟨fun b o nb nt e => ?_, fun hT0 => ?_, fun a ea hs => ?_, fun b hb => ?_⟩ ⟨⟨dx, rt, upd_same, hrt.mono tk3⟩, (hl2.mono x2.tk).mono tk3⟩
        · have nbp : b ≠ p := fun z => nb (by rw [z])
          rw [upd_ne nbp]
          refine x2.kp b o (fun z => nomatch z) nt ?_
          rw [upd_ne nbp]
          exact x1.kp b o (fun z => nomatch z) nt e
        · have keep : ∀ {G : Hp} {fs gs : List (Str × V)}, G p = some (.ins T.C_Web dx fs) → TabsN (TTof T) G → TabsN (TTof T) (upd G p (.ins T.C_Web dx gs)) := fun {G fs gs} hG hh t ht => by
            obtain ⟨qs, a1, a2, a3⟩ := hh t ht
            refine ⟨qs, by rw [upd_ne (ne_of a1 hG (Ne.symm (ins_nt qs)))]; exact a1, a2, fun pos cv hc => ?_⟩
            obtain ⟨c, e1, e2⟩ := a3 pos cv hc
            exact ⟨c, e1, by rw [upd_ne (ne_of e2 hG (Ne.symm (ins_nc c _)))]; exact e2⟩
          exact keep (x2.ins upd_same) (x2.tb (keep hp1 (x1.tb hT0)))
        · obtain ⟨i, j, e, _⟩ := hs
          cases ea
          rw [hp] at e
          cases e
        · exact x1.fr b (upd_none' (x2.fr b (upd_none' hb)))
def spNear (T : Txt K mg) (TT : List NTab) : Sp := fun vs H Q E => ∃ (p : Addr) (x n : Int) (lt : V) (ps : List (Int × Int)), vs = [.ref p, .int x] ∧ WebAt T.C_Web H p n lt ps ∧
  ((0 ≤ x ∧ x < n) → Ret TT H Q fun v H' => ∃ r, v = .ref r ∧ H' r = some (.tup ((rowOf ps x).map V.int))) ∧ (¬ (0 ≤ x ∧ x < n) → Rz TT E H T.C_BadCell fun v _ => v = .int x)
theorem rows_at {H : Hp} {rt : Addr} {n : Int} {ps : List (Int × Int)} {x : Int} (h : Tp H (.ref rt) (.tuple (rowsD n ps))) (hx : 0 ≤ x ∧ x < n) : ∃ (xs : List V) (r : Addr), H rt = some (.tup xs) ∧ atI xs x = some (.ref r) ∧ H r = some (.tup ((rowOf ps x).map V.int)) := by
  cases h with
  | tup h t =>
    rename_i xs
    have e : (rowsD n ps)[x.toNat]? = some (.tuple ((rowOf ps x).map .int)) := by
      unfold rowsD
      rw [List.getElem?_map, List.getElem?_range (by omega)]
      show some (PyData.tuple ((rowOf ps ((x.toNat : Nat) : Int)).map .int)) = _
      rw [show ((x.toNat : Nat) : Int) = x by omega]
    obtain ⟨v, hv, hd⟩ := t.getD e
    cases hd with
    | tup h2 t2 =>
      rw [Tps.ints_of t2] at h2
      refine ⟨xs, _, h, ?_, h2⟩
      have q := atI_nat hv
      rw [show ((x.toNat : Nat) : Int) = x by omega] at q
      exact q
theorem ok_near (T : Txt K mg) (TT : List NTab) : FnOk P w K mg base (L2.CX P w) 4 T.a_Web_near T.d_Web_near ["self", "x"] (spNear T TT) := by
  refine T.F_Web_near.okX sc_Web_near (fun vs H Q E h => ?_) (fun cdv A outer s H vs Q E hr h => ?_)
  · obtain ⟨p, x, n, lt, ps, rfl, _⟩ := h
    rfl
  · obtain ⟨p, x, n, lt, ps, rfl, hw, k1, k2⟩ := h
    obtain ⟨⟨dx, rt, hp, hrt⟩, hl⟩ := hw
    refine ⟨_, pss_cons (ps_expr (pe_call (ok_check_cell T TT) hr rfl T.g_check_cell T.F_check_cell.kp T.b_check_cell .nil (passes_call (takes_of rfl rfl rfl rfl) (fun _ _ _ _ h => h)) (pa_cons (pv 0) (pa_cons (pv 1) pa_nil))))
      (pss_one (ps_ret (pe_ix ix_tup (pe_fld (pv 0) rfl) (pv 1) (fun _ _ => rfl)))), ?_⟩
    refine ⟨_, rfl, _, rfl, p, dx, x, n, _, _, rfl, hp, fun hx H1 x1 => ?_, k2⟩
    obtain ⟨xs, r, h1, h2, h3⟩ := rows_at (hrt.mono x1.tk) hx
    refine ⟨_, rfl, p, T.C_Web, dx, _, _, rfl, x1.ins hp, T.cl_Web, T.na_Web__rows, webF_rows _ _ _, _, rfl, rt, xs, x, .ref r, rfl, rfl, SqT.of h1, h2, ?_⟩
    exact k1 hx _ _ x1 ⟨r, rfl, h3⟩
def spLinked (T : Txt K mg) (TT : List NTab) : Sp := fun vs H Q _ => ∃ (p : Addr) (x y n : Int) (lt : V) (ps : List (Int × Int)), vs = [.ref p, .int x, .int y] ∧ WebAt T.C_Web H p n lt ps ∧
  RetV TT H Q (.bl (decide (0 ≤ x) && decide (x < n) && decide (y ∈ rowOf ps x)))
theorem inV_int (y : Int) : ∀ ns : List Int, inV (.int y) (ns.map V.int) = decide (y ∈ ns)
  | [] => rfl
  | n :: r => by
    have ih := inV_int y r
    unfold inV at ih ⊢
    rw [List.map_cons, List.any_cons, ih]
    by_cases h : y = n
    · subst h
      simp [eqV]
    · simp [eqV, h, Ne.symm h]
theorem flat_ints (ns : List Int) : (ns.map V.int).all flatV = true := by
  rw [List.all_eq_true]
  intro v hv
  obtain ⟨n, _, rfl⟩ := List.mem_map.mp hv
  rfl
theorem ok_linked (T : Txt K mg) (TT : List NTab) : FnOk P w K mg base CX0 3 T.a_Web_linked T.d_Web_linked ["self", "x", "y"] (spLinked T TT) := by
  refine T.F_Web_linked.ok sc_Web_linked (fun vs H Q E h => ?_) (fun cdv A outer s H vs Q E hr h => ?_)
  · obtain ⟨p, x, y, n, lt, ps, rfl, _⟩ := h
    rfl
  · obtain ⟨p, x, y, n, lt, ps, rfl, hw, k⟩ := h
    obtain ⟨⟨dx, rt, hp, hrt⟩, hl⟩ := hw
    refine ⟨_, pss_one (ps_ret (pe_and (pe_call (ok_is_below T) hr rfl T.g_is_below T.F_is_below.kp T.b_is_below .nil pass0 (pa_cons (pv 1) (pa_cons (pe_fld (pv 0) rfl) pa_nil)))
      (pe_one (pe_cmpR op_in_seq (pv 2) (pe_ix ix_tup (pe_fld (pv 0) rfl) (pv 1) (fun _ _ => rfl)) (by with_unfolding_all rfl))))), ?_⟩
    refine ⟨_, rfl, _, rfl, p, T.C_Web, dx, _, _, rfl, hp, T.cl_Web, T.na_Web_size, webF_size _ _ _, x, n, rfl, _, rfl, ?_⟩
    refine iteB (fun h => ?_) (fun h => ?_)
    · have h' : 0 ≤ x ∧ x < n := by simpa using h
      obtain ⟨xs, r, h1, h2, h3⟩ := rows_at hrt h'
      refine ⟨_, rfl, _, rfl, p, T.C_Web, dx, _, _, rfl, hp, T.cl_Web, T.na_Web__rows, webF_rows _ _ _, _, rfl, rt, xs, x, .ref r, rfl, rfl, SqT.of h1, h2, ?_⟩
      refine ⟨r, _, rfl, .inr (SqT.of h3), rfl, flat_ints _, ?_⟩
      have e : (if false = true then !inV (V.int y) ((rowOf ps x).map V.int) else inV (V.int y) ((rowOf ps x).map V.int)) = (decide (0 ≤ x) && decide (x < n) && decide (y ∈ rowOf ps x)) := by
        rw [if_neg Bool.false_ne_true, inV_int, h] <;> rfl
      rw [e]
      exact k _ (Ext.refl _ _ _)
    · rw [h] at k
      exact k _ (Ext.refl _ _ _)
end
end R
end

-- SortT
section
set_option Elab.async false
set_option linter.all false
set_option maxRecDepth 100000
set_option maxHeartbeats 4000000
/-! SortT: sorted(t), t a tuple whose items are pairs of whole numbers. -/
namespace SrtT
open PySem PyProof.Rows Srt SrtO
variable {prog : Program} {w : World} {A : Around} {E : Value → Shared → Prop} {s : Shared}
/-- what sorted(t) leaves: a new list d of t's items, in their order, and every object that was there -/
structure Laid (s : Shared) (key : Value → Int × Int) (vs : List Value) (g : Heap) (d : Addr) (out : List Value) : Prop where
  up : Srtd (fun a b => lexB (key a) (key b)) out
  of_ : Stb (fun a b => lexB (key a) (key b)) out vs
  kept : ∀ b o, s.heap.get? b = some o → g.get? b = some o
  new : s.heap.get? d = none
  there : ∃ m, g.get? d = some (seqObj "list" out.toArray m)
/-- the last part, l the new list -/
theorem sort_last {g1 : Heap} {l : Addr} {vs : List Value} {key : Value → Int × Int} {Q : Value → Shared → Prop} (hl : g1.get? l = some (seqObj "list" vs.toArray 0)) (small : vs.length ≤ sizeLine) (pairs : ∀ v ∈ vs, IsPair g1 v (key v).1 (key v).2)
    (kept : ∀ b o, s.heap.get? b = some o → b ≠ l ∧ g1.get? b = some o) (new : s.heap.get? l = none) (h : ∀ g out, Laid s key vs g l out → Q (.ref l) { s with heap := g }) :
    wpAny (model prog w) A (holding [.ref l] (call (.builtin "list.sort") [.ref l]) >>= fun _ => ret (.ref l)) (fun fin s' => ∃ v, fin = .done (.ret v) ∧ Q v s') E { s with heap := g1 } := by
  refine wpAny_bind (wpAny_holding (wpAny_call_entry slot_list_sort ⟨_, hl, rfl⟩ entry_list_sort (list_sort_ord (swo_lex key) hl small ?cmp ?fin) (args_list_sort _)))
  case cmp =>
    intro two
    apply pairs_sortableO (by omega) pairs
    rintro ob q c
    cases (hl.symm.trans q)
    exact absurd (Value.type.inj c) (by decide)
  case fin =>
    intro out up of_
    refine ⟨_, rfl, wpAny_pure ⟨_, rfl, h _ out ⟨up, of_, fun b o q => ?_, new, sortedHeap_at hl⟩⟩⟩
    obtain ⟨ne, q1⟩ := kept b o q
    exact (sortedHeap_old ne (Heap.lt_size q1)).trans q1
theorem sorted_tup {t : Addr} {o : Obj} {xs : Array Value} {n : Nat} {key : Value → Int × Int} {Q : Value → Shared → Prop} (ho : s.heap.get? t = some o) (hc : o.cls = .type "tuple") (hd : o.data = .seq xs n)
    (small : xs.size ≤ sizeLine) (pairs : ∀ v ∈ xs.toList, IsPair s.heap v (key v).1 (key v).2) (h : ∀ g d out, Laid s key xs.toList g d out → Q (.ref d) { s with heap := g }) :
    wpAny (model prog w) A (call (.builtin "sorted") [.ref t]) Q E s := by
  have small' : xs.toList.length ≤ sizeLine := by rw [Array.length_toList]; exact small
  refine Calls.call_function_entry kind_sorted plain_sorted entry_sorted (args_sorted1 _) ?_
  unfold Builtin.«sorted»
  refine wpAny_bind (m := checkCount "sorted" 1 1 _) (wpAny_pure (wpAny_bind (wpAny_collect_seq t (.inr rfl) ho hc hd (fun g1 up1 => wpAny_bind (wpAny_newList ?_ small')) small)))
  have up2 : ∀ b ob, s.heap.get? b = some ob → b ≠ g1.objs.size ∧ (g1.push (seqObj "list" xs.toList.toArray 0)).get? b = some ob := fun b ob q =>
    have q1 := up1 b ob q
    ⟨Nat.ne_of_lt (Heap.lt_size q1), Heap.get?_push_of_some _ q1⟩
  refine sort_last (s := s) (Heap.get?_push_size _ rfl) small' (fun v m => (pairs v m).keeps fun b ob q _ => (up2 b ob q).2) up2 ?_ (fun g out L => h g _ out L)
  cases q : s.heap.get? g1.objs.size with
  | none => rfl
  | some ob => exact absurd rfl (up2 _ ob q).1
end SrtT
namespace L2
open PySem PySem.Spec PyProof.Rows Srt
/-- the rule: the tuple at t holds pairs, told by key; the new list holds them sorted -/
def rSortedPT (K : PySem.W.Frag) : List V → Hp → VK → Prop := fun vs H Q => ∃ (t : Addr) (xs : List V) (key : V → Int × Int), vs = [V.ref t] ∧ SqT K H t xs ∧ (∀ x ∈ xs, ∃ q, x = V.ref q ∧ H q = some (.tup [.int (key x).1, .int (key x).2])) ∧
  ∀ ys d, SrtO.Srtd (ltP key) ys → SrtO.Stb (ltP key) ys xs → H d = none → Q (.ref d) (upd H d (.lst ys))
theorem there {P : Program} {w : World} {H : Hp} {h : Heap} {a : Addr} : ∀ {o : HO}, ObjOk P w H h a o → ∃ ob, h.get? a = some ob
  | .lst _, x => x.2.elim fun _ y => y.elim fun _ z => ⟨_, z.2⟩
  | .tup _, x => x.2.elim fun _ y => y.2.elim fun ob z => ⟨ob, z.1⟩
  | .dK _, x => x.2.2.elim fun _ y => y.2.elim fun ob z => z.elim fun _ z => z.elim fun _ z => ⟨ob, z.1⟩
  | .dT _, x => x.2.2.elim fun _ y => y.2.elim fun ob z => z.elim fun _ z => z.elim fun _ z => ⟨ob, z.1⟩
  | .set _ _, x => x.elim fun ob z => z.elim fun _ z => z.elim fun _ z => z.elim fun _ z => ⟨ob, z.1⟩
  | .ins _ _ _, x => ⟨_, x.2.2.2.1⟩
  | .own _, x => x
  | .xd _, x => x.elim fun _ y => y.1.elim fun ob z => z.elim fun _ z => z.elim fun _ z => ⟨ob, z.1⟩
  | .rng _ _, x => x.elim fun _ y => y.elim fun _ y => y.elim fun _ y => ⟨_, y⟩
  | .frz _ _, x => ⟨_, x.1⟩
  | .tbl _, x => ⟨_, x⟩
  | .met _ _, x => ⟨_, x⟩
  | .ext _, x => x.2.1
theorem isPair_of {X : Cx} {pins : List (Addr × Obj)} {σ : L2.St} {H : Hp} {s : Shared} {q : Addr} {a b : Int} (I : Inv X pins σ H s) (h : H q = some (.tup [.int a, .int b])) : IsPair s.heap (.ref q) a b := by
  obtain ⟨_, items, r, o, ho, hc, n, hd⟩ := I.hok q _ h
  match items, r with
  | [x, y], .cons ra (.cons rb .nil) =>
    have ⟨ta, ea⟩ := ra
    have ⟨tb, eb⟩ := rb
    rw [ea, eb] at hd
    exact ⟨q, o, ta, tb, n, rfl, ho, hc, hd⟩
theorem cr_sortedPT {X : Cx} : CallR X (.builtin "sorted") (rSortedPT X.K) := by
  intro pins s σ H vs us Q I r h
  have ⟨t, xs, key, ev, hs, hx, q⟩ := h
  subst ev
  match us, r with
  | [u], .cons ru .nil =>
    cases ru
    obtain ⟨items, rv, ⟨o, ho, hc, n, hd⟩, small⟩ := I.tuple hs
    obtain ⟨e1, e2⟩ := refs_back rv fun x m => (hx x m).imp fun _ z => z.1
    refine SrtT.sorted_tup (key := fun u => key (backV u)) ho hc hd (by rw [List.size_toArray, ← rv.length]; exact small) (fun v m => ?_) fun g d out L => ?_
    · have ⟨b, eb⟩ := e2 v m
      have mem : V.ref b ∈ xs := by rw [e1]; exact List.mem_map.mpr ⟨v, m, by rw [eb] <;> rfl⟩
      have ⟨b', eb', hb⟩ := hx _ mem
      cases eb'
      rw [eb]
      exact isPair_of I hb
    · have hd0 : H d = none := by
        cases z : H d with
        | none => rfl
        | some u =>
          have ⟨o', ho'⟩ := there (I.hok d u z)
          exact absurd (L.new.symm.trans ho') (by simp)
      have refs : ∀ u ∈ out, ∃ a, u = Value.ref a := fun u m => e2 u (L.of_.perm.mem_iff.mp m)
      have st : SrtO.Stb (ltP key) (out.map backV) xs := e1 ▸ SrtO.Stb.map (ltP_swo key) backV L.of_
      have ⟨m, at_⟩ := L.there
      exact ⟨.ref d, _, I.laidN (o := .lst (out.map backV)) (t' := s.toks) L.kept L.new hd0 ⟨Nat.le_trans (Nat.le_of_eq st.len) small, out, m, vals_back refs, at_⟩, rfl, q _ d (SrtO.srtd_map L.up) st hd0⟩
end L2
end

-- Math
section
set_option Elab.async false
set_option linter.all false
set_option maxRecDepth 100000
set_option maxHeartbeats 4000000
namespace R
open PySem PySem.Spec PyProof.Rows L2 LamX NdefX LamP
open SrtO (lexB lexB_iff lexB_no)
/-! ### rows of pairs: ascending, sorted -/
abbrev Pr := Int × Int
theorem pr_ext {p q : Pr} (h1 : p.1 = q.1) (h2 : p.2 = q.2) : p = q := Prod.ext h1 h2
theorem lexB_tot {p q : Pr} (h1 : lexB p q = false) (h2 : lexB q p = false) : p = q := by
  have a := lexB_no.mp h1
  have b := lexB_no.mp h2
  exact pr_ext (by omega) (by omega)
def Asc (ps : List Pr) : Prop := ps.Pairwise fun p q => lexB p q = true
def Srt (ps : List Pr) : Prop := ps.Pairwise fun p q => lexB q p = false
theorem srt_uniq : ∀ {l m : List Pr}, Srt l → Srt m → l.Perm m → l = m
  | [], m, _, _, h => (List.Perm.eq_nil h.symm).symm
  | x :: l, [], _, _, h => absurd h.length_eq (by simp)
  | x :: l, y :: m, hl, hm, h => by
    have hl' := List.pairwise_cons.mp hl
    have hm' := List.pairwise_cons.mp hm
    have e : x = y := by
      rcases List.mem_cons.mp (h.mem_iff.mp (List.mem_cons_self (a := x) (l := l))) with e | hx
      · exact e
      · rcases List.mem_cons.mp (h.mem_iff.mpr (List.mem_cons_self (a := y) (l := m))) with e | hy
        · exact e.symm
        · exact lexB_tot (hm'.1 x hx) (hl'.1 y hy)
    subst e
    rw [srt_uniq hl'.2 hm'.2 h.cons_inv]
def srt (ps : List Pr) : List Pr := ps.mergeSort fun a b => !lexB b a
theorem srt_perm (ps : List Pr) : (srt ps).Perm ps := List.mergeSort_perm _ _
theorem srt_srt (ps : List Pr) : Srt (srt ps) := by
  have h := List.pairwise_mergeSort (le := fun a b : Pr => !lexB b a) (fun a b c h1 h2 => by
    simp only [Bool.not_eq_true'] at h1 h2 ⊢
    have a1 := lexB_no.mp h1
    have b1 := lexB_no.mp h2
    exact lexB_no.mpr (by omega)) (fun a b => by
    simp only [Bool.or_eq_true, Bool.not_eq_true']
    cases h : lexB b a with
    | false => exact .inl rfl
    | true =>
      refine .inr (lexB_no.mpr ?_)
      have := lexB_iff.mp h
      omega) ps
  exact h.imp fun h => by simpa using h
theorem srt_of {l ps : List Pr} (h : Srt l) (p : l.Perm ps) : l = srt ps := srt_uniq h (srt_srt ps) (p.trans (srt_perm ps).symm)
theorem srt_len (ps : List Pr) : (srt ps).length = ps.length := (srt_perm ps).length_eq
theorem asc_nodup {ps : List Pr} (h : Asc ps) : ps.Nodup := h.imp fun {p q} h e => by
  subst e
  have := lexB_iff.mp h
  omega
theorem asc_srt {ps : List Pr} (h : Asc ps) : Srt ps := h.imp fun {p q} h => by
  have := lexB_iff.mp h
  exact lexB_no.mpr (by omega)
theorem srt_asc {ps : List Pr} (h : Srt ps) (n : ps.Nodup) : Asc ps := by
  have q := List.pairwise_and_iff.mpr ⟨h, n⟩
  refine q.imp fun {p q} h => ?_
  cases e : lexB p q with
  | true => rfl
  | false => exact absurd (lexB_tot e h.1) h.2
/-- links that a web of n cells may have -/
structure Valid (n : Int) (ps : List Pr) : Prop where
  lk : LkIn n ps
  asc : Asc ps
theorem rises_of {n : Int} {p : Pr} (h : 0 ≤ p.1 ∧ p.1 < p.2 ∧ p.2 < n) : rises n p = true := by
  unfold rises
  simp
  exact h
theorem valid_nofault {n : Int} {ps : List Pr} (h : Valid n ps) : NoFault n ps := fun i hi => by
  refine ⟨?_, fun p q h0 h1 h2 => ?_⟩
  · unfold risesAt
    rw [List.getElem?_eq_getElem hi]
    exact rises_of (h.lk _ (List.getElem_mem hi))
  · have h3 := List.pairwise_iff_getElem.mp h.asc (i - 1) i (by omega) hi (by omega)
    rw [(List.getElem?_eq_some_iff.mp h1).2, (List.getElem?_eq_some_iff.mp h2).2] at h3
    have := lexB_iff.mp h3
    unfold lePr
    split <;> simp <;> omega
theorem valid_nil (n : Int) : Valid n [] := ⟨(fun _ z => nomatch z), List.Pairwise.nil⟩
theorem valid_put {n : Int} {ps : List Pr} {l : Pr} (h : Valid n ps) (hl : 0 ≤ l.1 ∧ l.1 < l.2 ∧ l.2 < n) (hn : l ∉ ps) : Valid n (srt (ps ++ [l])) := by
  refine ⟨fun p hp => ?_, srt_asc (srt_srt _) ((srt_perm _).nodup_iff.mpr ?_)⟩
  · rcases List.mem_append.mp ((srt_perm _).mem_iff.mp hp) with z | z
    · exact h.lk p z
    · simp at z
      subst z
      exact hl
  · rw [List.nodup_append]
    exact ⟨asc_nodup h.asc, by simp, fun a ha b hb => by
      simp at hb
      subst hb
      exact fun z => hn (z ▸ ha)⟩
theorem valid_filter {n : Int} {ps : List Pr} (f : Pr → Bool) (h : Valid n ps) : Valid n (ps.filter f) := ⟨fun p hp => h.lk p (List.mem_filter.mp hp).1, h.asc.filter _⟩
theorem mem_rowOf {n : Int} {ps : List Pr} {x y : Int} (h : LkIn n ps) : y ∈ rowOf ps x ↔ (x, y) ∈ ps ∨ (y, x) ∈ ps := by
  unfold rowOf
  rw [List.mem_filterMap]
  constructor
  · rintro ⟨p, hp, e⟩
    split at e
    · rename_i h1
      cases e
      exact .inl (by rw [← h1]; exact hp)
    · split at e
      · rename_i h2
        cases e
        exact .inr (by rw [← h2]; exact hp)
      · cases e
  · rintro (hp | hp)
    · exact ⟨(x, y), hp, if_pos rfl⟩
    · refine ⟨(y, x), hp, ?_⟩
      have q := (h _ hp).2.1
      dsimp only at q ⊢
      rw [if_neg (by omega), if_pos rfl]
/-- a link, the lesser cell first -/
def lnk (a b : Int) : Pr := (if b < a then b else a, if b > a then b else a)
theorem lnk_comm (a b : Int) : lnk a b = lnk b a := by
  unfold lnk
  refine pr_ext ?_ ?_ <;> dsimp only <;> split <;> split <;> omega
theorem lnk_lt {a b : Int} (h : a ≠ b) : (lnk a b).1 < (lnk a b).2 := by
  unfold lnk
  dsimp only
  split <;> split <;> omega
theorem lnk_in {a b n : Int} (ha : 0 ≤ a ∧ a < n) (hb : 0 ≤ b ∧ b < n) (h : a ≠ b) : 0 ≤ (lnk a b).1 ∧ (lnk a b).1 < (lnk a b).2 ∧ (lnk a b).2 < n := by
  refine ⟨?_, lnk_lt h, ?_⟩ <;> unfold lnk <;> dsimp only <;> split <;> omega
theorem lnk_mem {n : Int} {ps : List Pr} {a b : Int} (h : LkIn n ps) (hab : a ≠ b) : lnk a b ∈ ps ↔ b ∈ rowOf ps a := by
  rw [mem_rowOf h]
  by_cases c : a < b
  · have e : lnk a b = (a, b) := by
      unfold lnk
      rw [if_neg (by omega), if_pos (by omega)]
    rw [e]
    refine ⟨.inl, fun z => z.elim id fun z => ?_⟩
    have := (h _ z).2.1
    dsimp only at this
    omega
  · have e : lnk a b = (b, a) := by
      unfold lnk
      rw [if_pos (by omega), if_neg (by omega)]
    rw [e]
    refine ⟨.inr, fun z => z.elim (fun z => ?_) id⟩
    have := (h _ z).2.1
    dsimp only at this
    omega
/-- the pair of numbers that a tuple at v holds -/
def prOf (H : Hp) (v : V) : Pr := match v with
  | .ref t => match H t with
    | some (.tup [.int i, .int j]) => (i, j)
    | _ => (0, 0)
  | _ => (0, 0)
theorem prOf_at {H : Hp} {t : Addr} {i j : Int} (h : H t = some (.tup [.int i, .int j])) : prOf H (.ref t) = (i, j) := by
  simp only [prOf, h]
theorem prOf_tp {H : Hp} {v : V} {p : Pr} (h : Tp H v (prD p)) : prOf H v = p := by
  obtain ⟨a, rfl, ha⟩ := tp_pr h
  exact prOf_at ha
theorem prs_of {H : Hp} : ∀ {xs : List V} {ps : List Pr}, Tps H xs (lkD ps) → xs.map (prOf H) = ps
  | _, [], h => by cases h; rfl
  | _, p :: ps, h => by
    cases h with
    | cons h1 h2 => rw [List.map_cons, prOf_tp h1, prs_of h2]
theorem prs_each {H : Hp} {xs : List V} {ps : List Pr} (h : Tps H xs (lkD ps)) : ∀ x ∈ xs, ∃ t, x = V.ref t ∧ H t = some (.tup [.int (prOf H x).1, .int (prOf H x).2]) := fun x hx => by
  obtain ⟨i, hi⟩ := List.mem_iff_getElem?.mp hx
  obtain ⟨d, hd, hdz⟩ := h.get hi
  unfold lkD at hd
  rw [List.getElem?_map] at hd
  cases ep : ps[i]? with
  | none => rw [ep] at hd; cases hd
  | some q =>
    rw [ep] at hd
    cases hd
    obtain ⟨a, rfl, ha⟩ := tp_pr hdz
    exact ⟨a, rfl, by rw [prOf_at ha]; exact ha⟩
theorem tps_each {H : Hp} : ∀ {xs : List V}, (∀ x ∈ xs, ∃ t, x = V.ref t ∧ H t = some (.tup [.int (prOf H x).1, .int (prOf H x).2])) → Tps H xs (lkD (xs.map (prOf H)))
  | [], _ => .nil
  | x :: xs, h => by
    obtain ⟨t, rfl, ht⟩ := h x List.mem_cons_self
    exact .cons (pr_tp ht) (tps_each fun y hy => h y (List.mem_cons_of_mem _ hy))
/-- what sorted leaves -/
theorem sorted_is {H : Hp} {xs ys : List V} {ps : List Pr} (h : Tps H xs (lkD ps)) (h1 : SrtO.Srtd (ltP (prOf H)) ys) (h2 : SrtO.Stb (ltP (prOf H)) ys xs) : Tps H ys (lkD (srt ps)) := by
  have e : ys.map (prOf H) = srt ps := by
    refine srt_of ?_ ?_
    · exact List.pairwise_map.mpr h1
    · rw [← prs_of h]
      exact h2.perm.map _
  rw [← e]
  exact tps_each fun x hx => prs_each h x (h2.perm.mem_iff.mp hx)
end R
end

-- WebE
section
set_option Elab.async false
set_option linter.all false
set_option maxRecDepth 100000
set_option maxHeartbeats 4000000
namespace R
open PySem PySem.Spec PyProof.Rows L2 LamX NdefX LamP
section
variable {P : Program} {w : World} {K : PySem.W.Frag} {mg : Str → Option Value} {base : Heap}
theorem Rz.back {TT : List NTab} {E : XK} {H H1 : Hp} {C : Addr} {P : V → Hp → Prop} (h : Rz TT E H C P) (x : Ext TT none H H1) : Rz TT E H1 C P := fun v d H' y => h v d H' (x.trans y)
theorem WebInit.step {T : Txt K mg} {TT : List NTab} {n : Int} {ps : List Pr} {H H1 : Hp} {E : XK} {G G' : Prop} (h : WebInit T TT n ps H E G) (x : Ext TT none H H1) (g : G → G') : WebInit T TT n ps H1 E G' :=
  ⟨fun a => (h.1 a).back x, fun a b => (h.2.1 a b).back x, fun a b i c d e => (h.2.2.1 a b i c d e).back x, fun a b c => g (h.2.2.2 a b c)⟩
/-- Web(n, links), made -/
theorem web_make (T : Txt K mg) {TT : List NTab} {H1 : Hp} {n : Int} {lt : Addr} {ps : List Pr} {Q : VK} {E : XK} (hl : Tp H1 (.ref lt) (.tuple (lkD ps))) (hT : TabsN TT H1) (I : WebInit T TT n ps H1 E (∀ p H', Ext TT none H1 H' → WebAt T.C_Web H' p n (.ref lt) ps → Q (.ref p) H')) :
    ∀ x dx, H1 x = none → H1 dx = none → dx ≠ x → spWebInit T TT [.ref x, .int n, .ref lt] (upd (upd H1 dx (.own x)) x (.ins T.C_Web dx [])) (fun v H2 => v = .non ∧ Q (.ref x) H2) E := by
  intro x dx nx nd ne
  have e := make_new (TT := TT) (C := T.C_Web) nx nd ne
  refine ⟨x, dx, n, lt, ps, rfl, upd_same, hl.mono e.tk, e.tb hT, I.step e fun g H' x2 hw => ⟨rfl, g _ _ (make_ext nx nd x2) hw⟩⟩
def spRising (TT : List NTab) : Sp := fun vs H Q _ => ∃ a b : Int, vs = [.int a, .int b] ∧ Ret TT H Q fun v H' => ∃ t, v = .ref t ∧ H' t = some (.tup [.int (lnk a b).1, .int (lnk a b).2])
theorem ok_rising (T : Txt K mg) (TT : List NTab) : FnOk P w K mg base CX0 1 T.a_rising T.d_rising ["a", "b"] (spRising TT) := by
  refine T.F_rising.ok sc_rising (fun vs H Q E h => ?_) (fun cdv A outer s H vs Q E hr h => ?_)
  · obtain ⟨a, b, rfl, _⟩ := h
    rfl
  · obtain ⟨a, b, rfl, k⟩ := h
    refine ⟨_, pss_one (ps_ret (pe_tup (pa_cons (pe_callB (call_min2 rfl) (by rfl) T.n_min (by decide +kernel) (pa_cons (pv 0) (pa_cons (pv 1) pa_nil))) (pa_cons (pe_callB (call_max2 rfl) (by rfl) T.n_max (by decide +kernel) (pa_cons (pv 0) (pa_cons (pv 1) pa_nil))) pa_nil)))), ?_⟩
    refine ⟨_, rfl, _, rfl, _, _, rfl, _, rfl, _, rfl, _, _, rfl, (by show 2 ≤ sizeLine; decide), fun p np => ?_⟩
    exact k _ _ (Ext.new np) ⟨p, rfl, upd_same⟩
/-- a pair refused -/
def PairR (T : Txt K mg) (TT : List NTab) (H : Hp) (E : XK) (a b : Int) : Prop := Rz TT E H T.C_BadPair fun v H' => Tp H' v (prD (a, b))
structure WebIn (T : Txt K mg) (TT : List NTab) (H : Hp) (p : Addr) (n : Int) (lt : Addr) (ps : List Pr) : Prop where
  at_ : WebAt T.C_Web H p n (.ref lt) ps
  ok : Valid n ps
  hn : 1 ≤ n ∧ n ≤ 40
  hz : ps.length ≤ 160
  tb : TabsN TT H
def RetWeb (T : Txt K mg) (TT : List NTab) (H : Hp) (Q : VK) (n : Int) (ps : List Pr) : Prop := ∀ (p lt : Addr) (H' : Hp), Ext TT none H H' → WebIn T TT H' p n lt ps → Q (.ref p) H'
theorem WebIn.ext {T : Txt K mg} {TT : List NTab} {H H1 : Hp} {p : Addr} {n : Int} {lt : Addr} {ps : List Pr} (h : WebIn T TT H p n lt ps) (x : Ext TT none H H1) : WebIn T TT H1 p n lt ps := ⟨h.at_.ext x, h.ok, h.hn, h.hz, x.tb h.tb⟩
def spWithLink (T : Txt K mg) (TT : List NTab) : Sp := fun vs H Q E => ∃ (p lt : Addr) (n a b : Int) (ps : List Pr), vs = [.ref p, .int a, .int b] ∧ WebIn T TT H p n lt ps ∧
  (¬ (0 ≤ a ∧ a < n) → Rz TT E H T.C_BadCell fun v _ => v = .int a) ∧ (0 ≤ a ∧ a < n → ¬ (0 ≤ b ∧ b < n) → Rz TT E H T.C_BadCell fun v _ => v = .int b) ∧
  (0 ≤ a ∧ a < n → 0 ≤ b ∧ b < n → (a = b ∨ lnk a b ∈ ps) → PairR T TT H E a b) ∧
  (0 ≤ a ∧ a < n → 0 ≤ b ∧ b < n → a ≠ b → lnk a b ∉ ps → 160 ≤ ps.length → Rz TT E H T.C_TooMany fun v _ => v = .int ((ps.length : Int) + 1)) ∧
  (0 ≤ a ∧ a < n → 0 ≤ b ∧ b < n → a ≠ b → lnk a b ∉ ps → ps.length < 160 → RetWeb T TT H Q n (srt (ps ++ [lnk a b])))
theorem tup_of {H : Hp} {v : V} {ds : List PyData} (h : Tp H v (.tuple ds)) : ∃ a xs, v = .ref a ∧ H a = some (.tup xs) ∧ Tps H xs ds := by
  cases h with
  | tup h t => exact ⟨_, _, rfl, h, t⟩
theorem lk_len {H : Hp} {xs : List V} {ps : List Pr} (h : Tps H xs (lkD ps)) : xs.length = ps.length := by rw [h.length]; unfold lkD; rw [List.length_map]
theorem lkD_snoc (ps : List Pr) (l : Pr) : lkD (ps ++ [l]) = lkD ps ++ [prD l] := by unfold lkD; rw [List.map_append] <;> rfl
theorem ok_with_link (T : Txt K mg) (TB : TabB base mg T.c_check_links T.P_check_links) : FnOk P w K mg base (L2.CX P w) 9 T.a_with_link T.d_with_link ["web", "a", "b"] (spWithLink T (TTof T)) := by
  refine T.F_with_link.okX sc_with_link (fun vs H Q E h => ?_) (fun cdv A outer s H vs Q E hr h => ?_)
  · obtain ⟨p, lt, n, a, b, ps, rfl, _⟩ := h
    rfl
  · obtain ⟨p, lt, n, a, b, ps, rfl, hw, k1, k2, k3, k4, k5⟩ := h
    have px : Passes (L2.CX P w) (cxOf (L2.CX P w) P w K mg base N_with_link "with_link" (defScope s_with_link) T.a_with_link cdv A outer s H E) E := passes_call (takes_of rfl rfl rfl rfl) (fun _ _ _ _ h => h)
    have r3 : Room 3 _ := hr.mono (by decide)
    refine ⟨_, pss_cons (ps_expr (pe_call (ok_check_cell T (TTof T)) r3 rfl T.g_check_cell T.F_check_cell.kp T.b_check_cell .nil px (pa_cons (pv 0) (pa_cons (pv 1) pa_nil))))
      (pss_cons (ps_expr (pe_call (ok_check_cell T (TTof T)) r3 rfl T.g_check_cell T.F_check_cell.kp T.b_check_cell .nil px (pa_cons (pv 0) (pa_cons (pv 2) pa_nil))))
      (pss_cons (ps_if (PW.pt (pw_or (pt_cmpR op_eq (pv 1) (pv 2) (nomark _)) (pw_or1 (pt_val (pe_meth (pv 0) T.cl_Web T.mt_Web_linked (ok_linked T (TTof T)) r3 T.b_Web_linked .nil pass0 (pa_cons (pv 1) (pa_cons (pv 2) pa_nil)))))))
          (pss_one (ps_raise rfl (takes_of rfl rfl rfl rfl) (pmk_err (C := T.C_BadPair) T T.e_BadPair (hr.mono (by decide)) rfl (pa_cons (pe_tup (pa_cons (pv 1) (pa_cons (pv 2) pa_nil))) pa_nil)))) pss_nil)
      (pss_one (ps_ret (pe_make T.mk_Web (ok_web_init T TB) hr rfl T.mg_Web T.b_Web_init .nil px (pa_cons (pe_fld (pv 0) rfl) (pa_cons (pe_callTy call_tuple_of (by rfl) T.n_tuple (by decide +kernel)
          (pa_cons (pe_callB cr_sortedPT (by rfl) T.n_sorted (by decide +kernel) (pa_cons (pe_op op_catA (pe_fld (pv 0) rfl) (pe_tup (pa_cons (pe_call (ok_rising T (TTof T)) (hr.mono (by decide)) rfl T.g_rising T.F_rising.kp T.b_rising .nil pass0 (pa_cons (pv 1) (pa_cons (pv 2) pa_nil))) pa_nil))) pa_nil)) pa_nil)) pa_nil))))))), ?_⟩
    obtain ⟨⟨dx, rt, hp, hrt⟩, hl⟩ := hw.at_
    refine ⟨_, rfl, _, rfl, p, dx, a, n, _, _, rfl, hp, fun ha H1 x1 => ?_, k1⟩
    refine ⟨_, rfl, _, rfl, p, dx, b, n, _, _, rfl, x1.ins hp, fun hb H2 x2' => ?_, fun hb => (k2 ha hb).back x1⟩
    have x2 := x1.trans x2'
    have badP : (a = b ∨ lnk a b ∈ ps) → ∀ H3, Ext (TTof T) none H H3 → ∀ t, H3 t = none → ∀ d, upd H3 t (.tup [.int a, .int b]) d = none → E (.ref T.C_BadPair) (some d) (upd (upd H3 t (.tup [.int a, .int b])) d (.xd [("what", .ref t)])) := fun hh H3 x3 t nt d nd => by
      refine k3 ha hb hh _ _ _ ((x3.trans (Ext.new nt)).trans (Ext.new nd)) upd_same ?_
      have q : d ≠ t := fun z => by
        rw [z, upd_same] at nd
        cases nd
      exact pr_tp (by rw [upd_ne (Ne.symm q)]; exact upd_same)
    refine ⟨_, rfl, _, rfl, rfl, _, rfl, ?_⟩
    rw [dV]
    refine iteB (fun h => ?_) (fun h => ?_)
    · refine ⟨_, rfl, _, rfl, (by show 2 ≤ sizeLine; decide), fun t nt => ⟨_, rfl, fun d nd => badP (.inl (of_decide_eq_true h)) H2 x2 t nt d nd⟩⟩
    · have hab : a ≠ b := of_decide_eq_false h
      refine ⟨_, rfl, p, dx, _, rfl, x2.ins hp, webF_no _ _ _ (by decide +kernel) (by decide +kernel) (by decide +kernel), _, rfl, _, rfl, p, a, b, n, _, ps, rfl, hw.at_.ext x2, fun H3 x3' => ⟨_, rfl, ?_⟩⟩
      have x3 := x2.trans x3'
      refine iteB (fun h2 => ?_) (fun h2 => ?_)
      · have hm : lnk a b ∈ ps := (lnk_mem hw.ok.lk hab).mpr (by simp at h2; exact h2.2)
        refine ⟨_, rfl, _, rfl, (by show 2 ≤ sizeLine; decide), fun t nt => ⟨_, rfl, fun d nd => badP (.inr hm) H3 x3 t nt d nd⟩⟩
      · have hm : lnk a b ∉ ps := fun z => by
          have q := (lnk_mem hw.ok.lk hab).mp z
          simp [ha, hb, q] at h2
        obtain ⟨_, xs, e, hx, hxs⟩ := tup_of (hl.mono x3.tk)
        cases e
        refine ⟨_, rfl, p, T.C_Web, dx, _, _, rfl, x3.ins hp, T.cl_Web, T.na_Web_size, webF_size _ _ _, _, rfl, p, T.C_Web, dx, _, _, rfl, x3.ins hp, T.cl_Web, T.na_Web_links, webF_links _ _ _, _, rfl, _, rfl, a, b, rfl, fun v H4 x4 hv => ?_⟩
        obtain ⟨t4, rfl, h4⟩ := hv
        refine ⟨(by show 1 ≤ sizeLine; decide), fun t5 n5 => ?_⟩
        have hxl := lk_len hxs
        have hz := hw.hz
        have x5 : Ext (TTof T) none H3 (upd H4 t5 (.tup [.ref t4])) := x4.trans (Ext.new n5)
        have h4' : upd H4 t5 (.tup [.ref t4]) t4 = some (.tup [.int (lnk a b).1, .int (lnk a b).2]) := by
          rw [upd_ne (ne_of_none h4 n5)]
          exact h4
        have tl : Tps (upd H4 t5 (.tup [.ref t4])) [V.ref t4] [prD (lnk a b)] := .cons (pr_tp h4') .nil
        -- what the sum is, whichever way
        have fin : ∀ (q : Addr) (ys : List V) (G : Hp), Ext (TTof T) none (upd H4 t5 (.tup [.ref t4])) G → G q = some (.tup ys) → Tps G ys (lkD (ps ++ [lnk a b])) →
            rSortedPT K [.ref q] G (fun x H1 => tNil (L2.start N_with_link [.ref p, .int a, .int b]) H1 fun vs H2 => (fun xs H Q => ∃ p ys, xs = [V.ref p] ∧ ((SqL K H p ys ∧ ∀ l, H l = none → Q (.ref l) (upd H l (.tup ys))) ∨ (SqT K H p ys ∧ Q (.ref p) H))) (x :: vs) H2 fun x H1 => tNil (L2.start N_with_link [.ref p, .int a, .int b]) H1 fun vs H2 => ∀ z dx, H2 z = none → H2 dx = none → dx ≠ z → spWebInit T (TTof T) (.ref z :: ((.int n :: x :: vs) ++ [])) (upd (upd H2 dx (.own z)) z (.ins T.C_Web dx [])) (fun v H2 => v = .non ∧ Q (.ref z) H2) E) := by
          intro q ys G xG hq hys
          refine ⟨q, ys, prOf G, rfl, SqT.of hq, prs_each hys, fun zs s1 h1 h2 n1 => ?_⟩
          have hz2 := sorted_is hys h1 h2
          refine ⟨s1, zs, rfl, .inl ⟨SqL.of upd_same, fun s2 n2 => ?_⟩⟩
          have xE : Ext (TTof T) none H (upd (upd G s1 (.lst zs)) s2 (.tup zs)) := (((x3.trans x5).trans xG).trans (Ext.new n1)).trans (Ext.new n2)
          refine web_make T (ps := srt (ps ++ [lnk a b])) (.tup upd_same (hz2.mono ((TK.new n1).trans (TK.new n2)))) (xE.tb hw.tb) ?_
          have vv := valid_put hw.ok (lnk_in ha hb hab) hm
          have ll : (srt (ps ++ [lnk a b])).length = ps.length + 1 := by rw [srt_len, List.length_append] <;> rfl
          refine ⟨fun z => absurd hw.hn z, fun _ z => ?_, fun _ _ i hi z => absurd (valid_nofault vv i hi) z, fun _ z _ p' H' x' hw' => ?_⟩
          · rw [ll] at z ⊢
            exact (k4 ha hb hab hm (by omega)).back xE
          · rw [ll] at z
            have xF := xE.trans x'
            exact k5 ha hb hab hm (by omega) p' s2 H' xF ⟨hw', vv, hw.hn, by rw [ll]; exact z, xF.tb hw.tb⟩
        refine ⟨lt, t5, xs, [.ref t4], rfl, rfl, SqT.of (x5.tup hx), SqT.of upd_same, Nat.le_of_lt (small1000 (by rw [hxl]; show _ + 1 ≤ _; omega)), fun e0 => ?_, (fun _ z => nomatch z), fun e0 _ t6 n6 => ?_⟩
        · have e1 : ps = [] := by
            have q := hxl
            rw [e0] at q
            exact List.eq_nil_of_length_eq_zero q.symm
          refine fin t5 _ _ (Ext.refl _ _ _) upd_same ?_
          rw [e1]
          exact tl
        · refine fin t6 _ _ (Ext.new n6) upd_same ?_
          rw [lkD_snoc]
          exact ((hxs.mono x5.tk).append tl).mono (TK.new n6)
end
end R
end

-- WebF
section
set_option Elab.async false
set_option linter.all false
set_option maxRecDepth 100000
set_option maxHeartbeats 4000000
namespace R
open PySem PySem.Spec PyProof.Rows L2 LamX NdefX LamP
/-! ### data, compared -/
theorem lay_pr (p : Pr) : (prD p).canLay0 = true := by simp [prD, PyData.canLay0, PyData.canLayAll0]
theorem dep_pr (p : Pr) : (prD p).depth ≤ 2 := by simp [prD, PyData.depth, PyData.depthAll]
theorem shaped_of {d : PyData} (h1 : d.canLay0 = true) (h2 : d.depth ≤ 64) : SeqAt.shaped d = true := by
  show (d.canLay0 && decide (d.depth ≤ 64)) = true
  rw [Bool.and_eq_true]
  exact ⟨h1, decide_eq_true h2⟩
theorem shaped_pr (p : Pr) : SeqAt.shaped (prD p) = true := shaped_of (lay_pr p) (Nat.le_trans (dep_pr p) (by decide))
theorem eqv_pr (p q : Pr) : PyData.eqv (prD p) (prD q) = decide (p = q) := by
  obtain ⟨a, b⟩ := p
  obtain ⟨c, d⟩ := q
  have e : PyData.eqv (prD (a, b)) (prD (c, d)) = ((a == c) && ((b == d) && true)) := by simp only [prD, PyData.eqv, PyData.eqvAll]
  rw [e]
  by_cases h1 : a = c
  · by_cases h2 : b = d
    · subst h1; subst h2; simp
    · simp [h2]
  · simp [h1]
def rNeDK (K : PySem.W.Frag) : R2 := fun x y H Q => ∃ d e, Dp K H x d ∧ Dp K H y e ∧ SeqAt.shaped d = true ∧ SeqAt.shaped e = true ∧ Q (.bl (!PyData.eqv d e)) H
theorem op_neDK {X : Cx} (K : PySem.W.Frag) (hu : X.A.units + 64 < cLine) (h : X.K = K := by rfl) : OpR X (compareOp .NotEq) (rNeDK K) := by
  subst h
  exact op_neD hu
section
variable {P : Program} {w : World} {K : PySem.W.Frag} {mg : Str → Option Value} {base : Heap}
def spWithoutLink (T : Txt K mg) (TT : List NTab) : Sp := fun vs H Q E => ∃ (p lt : Addr) (n a b : Int) (ps : List Pr), vs = [.ref p, .int a, .int b] ∧ WebIn T TT H p n lt ps ∧
  (¬ (0 ≤ a ∧ a < n) → Rz TT E H T.C_BadCell fun v _ => v = .int a) ∧ (0 ≤ a ∧ a < n → ¬ (0 ≤ b ∧ b < n) → Rz TT E H T.C_BadCell fun v _ => v = .int b) ∧
  (0 ≤ a ∧ a < n → 0 ≤ b ∧ b < n → (a = b ∨ lnk a b ∉ ps) → PairR T TT H E a b) ∧
  (0 ≤ a ∧ a < n → 0 ≤ b ∧ b < n → a ≠ b → lnk a b ∈ ps → RetWeb T TT H Q n (ps.filter fun p => !decide (p = lnk a b)))
theorem rowOf_self {n : Int} {ps : List Pr} {a : Int} (h : LkIn n ps) : a ∉ rowOf ps a := fun z => by
  rcases (mem_rowOf h).mp z with z | z
  · have := (h _ z).2.1
    dsimp only at this
    omega
  · have := (h _ z).2.1
    dsimp only at this
    omega
theorem ok_without_link (T : Txt K mg) (TB : TabB base mg T.c_check_links T.P_check_links) : FnOk P w K mg base (L2.CX P w) 9 T.a_without_link T.d_without_link ["web", "a", "b"] (spWithoutLink T (TTof T)) := by
  refine T.F_without_link.okX sc_without_link (fun vs H Q E h => ?_) (fun cdv A outer s H vs Q E hr h => ?_)
  · obtain ⟨p, lt, n, a, b, ps, rfl, _⟩ := h
    rfl
  · obtain ⟨p, lt, n, a, b, ps, rfl, hw, k1, k2, k3, k5⟩ := h
    have nd := sc_without_link.nd
    have px : Passes (L2.CX P w) (cxOf (L2.CX P w) P w K mg base N_without_link "without_link" (defScope s_without_link) T.a_without_link cdv A outer s H E) E := passes_call (takes_of rfl rfl rfl rfl) (fun _ _ _ _ h => h)
    have r3 : Room 3 _ := hr.mono (by decide)
    refine ⟨_, pss_cons (ps_expr (pe_call (ok_check_cell T (TTof T)) r3 rfl T.g_check_cell T.F_check_cell.kp T.b_check_cell .nil px (pa_cons (pv 0) (pa_cons (pv 1) pa_nil))))
      (pss_cons (ps_expr (pe_call (ok_check_cell T (TTof T)) r3 rfl T.g_check_cell T.F_check_cell.kp T.b_check_cell .nil px (pa_cons (pv 0) (pa_cons (pv 2) pa_nil))))
      (pss_cons (ps_if (pt_not (pt_val (pe_meth (pv 0) T.cl_Web T.mt_Web_linked (ok_linked T (TTof T)) r3 T.b_Web_linked .nil pass0 (pa_cons (pv 1) (pa_cons (pv 2) pa_nil)))))
          (pss_one (ps_raise rfl (takes_of rfl rfl rfl rfl) (pmk_err (C := T.C_BadPair) T T.e_BadPair (hr.mono (by decide)) rfl (pa_cons (pe_tup (pa_cons (pv 1) (pa_cons (pv 2) pa_nil))) pa_nil)))) pss_nil)
      (pss_one (ps_ret (pe_make T.mk_Web (ok_web_init T TB) hr rfl T.mg_Web T.b_Web_init .nil px (pa_cons (pe_fld (pv 0) rfl) (pa_cons (pe_callTy call_tuple_of (by rfl) T.n_tuple (by decide +kernel)
          (pa_cons (pe_lc (own := [("link", 3)]) (g := gName 3) rfl nd (pi_tup (pe_fld (pv 0) rfl)) (blkOk_by (N := N_without_link) (sc := defScope s_without_link) (by decide +kernel)) (fun _ _ _ _ _ => pg_name (i := 3) nd rfl (Or.inl rfl))
            (fun _ _ _ _ _ => pts_one (pt_cmpR (op_neDK K hr.units) (pv 3) (pe_call (ok_rising T (TTof T)) (hr.mono (by decide)) rfl T.g_rising T.F_rising.kp T.b_rising .nil pass0 (pa_cons (pv 1) (pa_cons (pv 2) pa_nil))) (nomark _)))
            (fun _ _ _ _ _ => pv 3)) pa_nil)) pa_nil))))))), ?_⟩
    obtain ⟨⟨dx, rt, hp, hrt⟩, hl⟩ := hw.at_
    refine ⟨_, rfl, _, rfl, p, dx, a, n, _, _, rfl, hp, fun ha H1 x1 => ?_, k1⟩
    refine ⟨_, rfl, _, rfl, p, dx, b, n, _, _, rfl, x1.ins hp, fun hb H2 x2' => ?_, fun hb => (k2 ha hb).back x1⟩
    have x2 := x1.trans x2'
    refine ⟨_, rfl, p, dx, _, rfl, x2.ins hp, webF_no _ _ _ (by decide +kernel) (by decide +kernel) (by decide +kernel), _, rfl, _, rfl, p, a, b, n, _, ps, rfl, hw.at_.ext x2, fun H3 x3' => ⟨_, rfl, ?_⟩⟩
    have x3 := x2.trans x3'
    refine iteB (fun h2 => ?_) (fun h2 => ?_)
    · have hh : a = b ∨ lnk a b ∉ ps := by
        by_cases hab : a = b
        · exact .inl hab
        · refine .inr fun z => ?_
          have q := (lnk_mem hw.ok.lk hab).mp z
          simp [ha, hb, q] at h2
      refine ⟨_, rfl, _, rfl, (by show 2 ≤ sizeLine; decide), fun t nt => ⟨_, rfl, fun d nd' => ?_⟩⟩
      refine k3 ha hb hh _ _ _ ((x3.trans (Ext.new nt)).trans (Ext.new nd')) upd_same ?_
      have q : d ≠ t := fun z => by
        rw [z, upd_same] at nd'
        cases nd'
      exact pr_tp (by rw [upd_ne (Ne.symm q)]; exact upd_same)
    · have hmem : b ∈ rowOf ps a := by
        simp at h2
        exact h2.2
      have hab : a ≠ b := fun z => by
        subst z
        exact rowOf_self hw.ok.lk hmem
      have hm : lnk a b ∈ ps := (lnk_mem hw.ok.lk hab).mpr hmem
      obtain ⟨_, xs, e, hx, hxs⟩ := tup_of (hl.mono x3.tk)
      cases e
      have hxl := lk_len hxs
      have hz := hw.hz
      refine ⟨_, rfl, p, T.C_Web, dx, _, _, rfl, x3.ins hp, T.cl_Web, T.na_Web_size, webF_size _ _ _, _, rfl, p, T.C_Web, dx, _, _, rfl, x3.ins hp, T.cl_Web, T.na_Web_links, webF_links _ _ _, lt, rfl, ⟨_, SqT.of hx⟩, fun D hD => ?_⟩
      refine lc_tup (xs := xs) (fun i H' => ∃ ys : List V, Ext (TTof T) none H3 H' ∧ H' D = some (.lst ys) ∧ Tps H3 ys (lkD ((ps.take i).filter fun p => !decide (p = lnk a b)))) ⟨[], Ext.new hD, upd_same, .nil⟩ (fun i H' _ ⟨ys, x, _⟩ => SqT.of (x.tup hx)) ?_ ?_
      · rintro i x H4 hi ⟨ys, x4, h4, hys⟩
        obtain ⟨d, hd, hdz⟩ := hxs.get hi
        unfold lkD at hd
        rw [List.getElem?_map] at hd
        cases ep : ps[i]? with
        | none => rw [ep] at hd; cases hd
        | some q =>
          rw [ep] at hd
          cases hd
          refine ⟨rfl, ?_⟩
          refine ⟨_, rfl, _, rfl, _, rfl, a, b, rfl, fun v H5 x5 hv => ?_⟩
          obtain ⟨t5, rfl, h5⟩ := hv
          have x45 := x4.trans x5
          refine ⟨prD q, prD (lnk a b), (hdz.mono x45.tk).dp, (pr_tp h5).dp, shaped_pr _, shaped_pr _, _, rfl, ?_⟩
          rw [eqv_pr]
          have h5D := x5.lst h4
          have yl : ys.length ≤ ps.length := by
            rw [lk_len hys]
            exact Nat.le_trans (List.length_filter_le _ _) (by rw [List.length_take]; omega)
          refine iteB (fun hc => ?_) (fun hc => ?_)
          · refine ⟨_, rfl, ys, h5D, small1000 (by omega), ys ++ [x], x45.mutL hD h5D (fun z => nomatch z), upd_same, ?_⟩
            rw [take_snoc ep, List.filter_append, List.filter_cons, if_pos hc, List.filter_nil, lkD_snoc]
            exact hys.append (.cons hdz .nil)
          · refine ⟨ys, x45, h5D, ?_⟩
            rw [take_snoc ep, List.filter_append, List.filter_cons, if_neg (by rw [hc]; decide), List.filter_nil, List.append_nil]
            exact hys
      · rintro H4 ⟨ys, x4, h4, hys⟩
        rw [hxl, List.take_length] at hys
        refine ⟨D, ys, rfl, .inl ⟨SqL.of h4, fun s2 n2 => ?_⟩⟩
        have xE := (x3.trans x4).trans (Ext.new (T := TTof T) (so := none) (o := .tup ys) n2)
        have hE := hys.mono ((x4.tk).trans (TK.new (o := .tup ys) n2))
        refine web_make T (.tup upd_same hE) (xE.tb hw.tb) ?_
        have vv := valid_filter (fun p => !decide (p = lnk a b)) hw.ok
        have ll : (ps.filter fun p => !decide (p = lnk a b)).length ≤ ps.length := List.length_filter_le _ _
        refine ⟨fun z => absurd hw.hn z, fun _ z => absurd z (Nat.not_lt.mpr (Nat.le_trans (List.length_filter_le _ _) hw.hz)), fun _ _ i hi z => absurd (valid_nofault vv i hi) z, fun _ z _ p' H' x' hw' => ?_⟩
        have xF := xE.trans x'
        exact k5 ha hb hab hm p' s2 H' xF ⟨hw', vv, hw.hn, z, xF.tb hw.tb⟩
end
end R
end

-- WebG
section
set_option Elab.async false
set_option linter.all false
set_option maxRecDepth 100000
set_option maxHeartbeats 4000000
namespace R
open PySem PySem.Spec PyProof.Rows L2 LamX NdefX LamP
open SrtO (lexB lexB_iff lexB_no)
/-! ### a comprehension that makes a dict, over any walk -/
/-- one turn: the names, the test, the key and the value, put into the dict at D -/
def dTurn (g : TG) (tt : TT) (tk tv : TE) (vs : List Nat) (σ : L2.St) (D : Addr) (next : Hp → Prop) : V → Hp → Prop := fun x H' => g x (wipe σ vs) H' fun σ2 H2 => wipe σ2 vs = wipe σ vs ∧ tt σ2 H2 fun b H3 =>
  if b = true then tk σ2 H3 fun y H4 => tv σ2 H4 fun z H5 => ∃ kvs k, y = kV k ∧ H5 D = some (.dK kvs) ∧ kvs.length < sizeLine ∧ next (upd H5 D (.dK (putK kvs k z))) else next H3
theorem dc_walk {J : It} {n : Nat} {ready : Hp → Prop} {Y : Nat → Hp → V → Hp → Prop} (w : Walk J n ready Y) {turn : (Hp → Prop) → V → Hp → Prop} {H0 : Hp} {Qd : Hp → Prop} (at_ : Nat → Hp → Prop) (first : at_ 0 H0) (hr : ∀ i H, i ≤ n → at_ i H → ready H)
    (each : ∀ i x H H', i < n → at_ i H → Y i H x H' → turn (at_ (i + 1)) x H') (last : ∀ H, at_ n H → Qd H) :
    ∃ W : Nat → Nat → Hp → Prop, (∃ m, W 0 m H0) ∧ ∀ i m H, W i m H → (J.stop i H ∧ Qd H) ∨ (J.go i H ∧ ∃ next : Hp → Prop, (∀ H', next H' → ∃ m', m' < m ∧ W (i + 1) m' H') ∧ ∀ x H', J.yld i H x H' → turn next x H') := by
  refine ⟨fun i m H => m + i = n ∧ at_ i H, ⟨n, rfl, first⟩, fun i m H ⟨sum, p⟩ => ?_⟩
  have go := hr i H (by omega) p
  rcases m with _ | m
  · obtain rfl : i = n := by omega
    exact .inl ⟨w.stops H go, last H p⟩
  · have lt : i < n := by omega
    exact .inr ⟨w.goes i H lt go, at_ (i + 1), fun H' p' => ⟨m, Nat.lt_succ_self m, by omega, p'⟩, fun x H' y => each i x H H' lt p (w.yields i H x H' lt go y)⟩
/-! ### cells by their places -/
def dcs : List Int → Nat → List (Key × V)
  | [], _ => []
  | c :: r, k => (.inl c, .int (k : Int)) :: dcs r (k + 1)
theorem dcs_snoc (c : Int) : ∀ (l : List Int) (k : Nat), dcs (l ++ [c]) k = dcs l k ++ [(.inl c, .int ((k + l.length : Nat) : Int))]
  | [], k => rfl
  | d :: r, k => by
    show (Sum.inl d, V.int (k : Int)) :: dcs (r ++ [c]) (k + 1) = (Sum.inl d, V.int (k : Int)) :: (dcs r (k + 1) ++ _)
    rw [dcs_snoc c r (k + 1), show k + 1 + r.length = k + (d :: r).length by rw [List.length_cons]; omega]
theorem dcs_len : ∀ (l : List Int) (k : Nat), (dcs l k).length = l.length
  | [], _ => rfl
  | _ :: r, k => by
    show (dcs r (k + 1)).length + 1 = r.length + 1
    rw [dcs_len r]
theorem dcs_val (y : Int) : ∀ (l : List Int) (k : Nat), valV (dcs l k) (Sum.inl y : Key) = if y ∈ l then some (.int ((k + l.idxOf y : Nat) : Int)) else none
  | [], _ => rfl
  | c :: r, k => by
    show valV ((Sum.inl c, V.int (k : Int)) :: dcs r (k + 1)) (Sum.inl y : Key) = _
    by_cases h : c = y
    · subst h
      rw [valV_pos rfl, if_pos List.mem_cons_self]
      rw [List.idxOf_cons_self]
      rfl
    · rw [valV_neg (fun z => h (Sum.inl.inj z)), dcs_val y r (k + 1)]
      have e : (c :: r).idxOf y = r.idxOf y + 1 := by
        rw [List.idxOf_cons, show (c == y) = false from beq_false_of_ne h]
        rfl
      by_cases m : y ∈ r
      · rw [if_pos m, if_pos (List.mem_cons_of_mem _ m), e, show k + 1 + r.idxOf y = k + (r.idxOf y + 1) by omega]
      · rw [if_neg m, if_neg (fun z => (List.mem_cons.mp z).elim (fun q => h q.symm) m)]
/-- the links between the cells of cs, by their places there -/
def within (cs : List Int) (ps : List Pr) : List Pr := ps.filterMap fun p => if p.1 ∈ cs ∧ p.2 ∈ cs then some ((cs.idxOf p.1 : Int), (cs.idxOf p.2 : Int)) else none
theorem within_snoc (cs : List Int) (ps : List Pr) (p : Pr) : within cs (ps ++ [p]) = within cs ps ++ (if p.1 ∈ cs ∧ p.2 ∈ cs then [((cs.idxOf p.1 : Int), (cs.idxOf p.2 : Int))] else []) := by
  unfold within
  rw [List.filterMap_append]
  congr 1
  by_cases h : p.1 ∈ cs ∧ p.2 ∈ cs
  · simp [h]
  · simp [h]
theorem within_len (cs : List Int) (ps : List Pr) : (within cs ps).length ≤ ps.length := List.length_filterMap_le _ _
theorem dK_nt {kvs : List (Key × V)} (ps : Array Value) : (HO.dK kvs) ≠ .tbl ps := fun z => by cases z
theorem dK_nc {kvs : List (Key × V)} (c : Addr) (q : Str) : (HO.dK kvs) ≠ CodeO c q := fun z => by
  unfold CodeO at z
  cases z
section
variable {P : Program} {w : World} {K : PySem.W.Frag} {mg : Str → Option Value} {base : Heap}
def spWebWithin (T : Txt K mg) (TT : List NTab) : Sp := fun vs H Q E => ∃ (p l : Addr) (n : Int) (lt : V) (ps : List Pr) (cs : List Int), vs = [.ref p, .ref l] ∧ WebAt T.C_Web H p n lt ps ∧ H l = some (.lst (cs.map V.int)) ∧ cs.Nodup ∧ cs.length ≤ 1000 ∧ ps.length ≤ 1000 ∧ TabsN TT H ∧
  WebInit T TT (cs.length : Int) (within cs ps) H E (∀ (p' lt' : Addr) H', Ext TT none H H' → WebAt T.C_Web H' p' (cs.length : Int) (.ref lt') (within cs ps) → Q (.ref p') H')
theorem ok_web_within (T : Txt K mg) (TB : TabB base mg T.c_check_links T.P_check_links) : FnOk P w K mg base (L2.CX P w) 9 T.a_web_within T.d_web_within ["web", "cells"] (spWebWithin T (TTof T)) := by
  refine T.F_web_within.okX sc_web_within (fun vs H Q E h => ?_) (fun cdv A outer s H vs Q E hr h => ?_)
  · obtain ⟨p, l, n, lt, ps, cs, rfl, _⟩ := h
    rfl
  · obtain ⟨p, l, n, lt, ps, cs, rfl, hw, hc, hnd, hz1, hz2, hT, k⟩ := h
    have nd := sc_web_within.nd
    have hu := hu_of hr
    have px : Passes (L2.CX P w) (cxOf (L2.CX P w) P w K mg base N_web_within "web_within" (defScope s_web_within) T.a_web_within cdv A outer s H E) E := passes_call (takes_of rfl rfl rfl rfl) (fun _ _ _ _ h => h)
    refine ⟨_, pss_cons (ps_set (i := 2) nd rfl (Or.inr rfl) (pe_dc (own := [("at", 5), ("x", 4)]) (g := gTup K 2 (gCons (gName 5) (gCons (gName 4) gNil))) rfl nd (pi_enum (by rfl) T.n_enumerate (pa_cons (pv 1) pa_nil)) (blkOk_by (N := N_web_within) (sc := defScope s_web_within) (by decide +kernel))
          (fun _ _ _ _ _ => pg_tup rfl (pgs_cons (pg_name (i := 5) nd rfl (Or.inl rfl)) (pgs_cons (pg_name (i := 4) nd rfl (Or.inl rfl)) pgs_nil))) (fun _ _ _ _ _ => pts_nil) (fun _ _ _ _ _ => pv 4) (fun _ _ _ _ _ => pv 5)))
      (pss_cons (ps_setLc (i := 3) (own := [("a", 6), ("b", 7)]) (g := gTup K 2 (gCons (gName 6) (gCons (gName 7) gNil))) rfl nd rfl rfl (sw_true rfl rfl rfl (by decide +kernel)) (pi_tup (pe_fld (pv 0) rfl)) (blkOk_by (N := N_web_within) (sc := defScope s_web_within) (by decide +kernel))
          (fun _ _ _ _ _ => pg_tup rfl (pgs_cons (pg_name (i := 6) nd rfl (Or.inl rfl)) (pgs_cons (pg_name (i := 7) nd rfl (Or.inl rfl)) pgs_nil)))
          (fun _ _ _ _ _ => pts_one (PW.pt (pw_and (pt_cmp (pc_din hu (pv 6) (pv 2))) (pw_and1 (pt_cmp (pc_din hu (pv 7) (pv 2)))))))
          (fun _ _ _ _ _ => pe_tup (pa_cons (pe_dget hu (pv 2) (pv 6) (fun _ _ => rfl)) (pa_cons (pe_dget hu (pv 2) (pv 7) (fun _ _ => rfl)) pa_nil))))
      (pss_one (ps_ret (pe_make T.mk_Web (ok_web_init T TB) hr rfl T.mg_Web T.b_Web_init .nil px (pa_cons (pe_callB call_len_seq (by rfl) T.n_len PySem.boot_len (pa_cons (pv 1) pa_nil)) (pa_cons (pe_callTy call_tuple_of (by rfl) T.n_tuple (by decide +kernel) (pa_cons (pv 3) pa_nil)) pa_nil)))))), ?_⟩
    have number : ∀ {H1 : Hp} {D : Addr} (c : Int), H1 D = some (.dK (dcs cs 0)) → DGet H1 D (.int c) (if c ∈ cs then some (.int (cs.idxOf c : Int)) else none) := fun {H1 D} c h => by
      have q := DGet.k (k := (Sum.inl c : Key)) h
      rw [dcs_val c cs 0, Nat.zero_add] at q
      exact q
    refine ⟨_, rfl, l, _, rfl, SqL.of hc, fun D hD => ?_⟩
    refine dc_walk (walk_enum (xs := cs.map V.int)) (fun i H' => Ext (TTof T) none H H' ∧ H' D = some (.dK (dcs (cs.take i) 0))) ⟨Ext.new hD, upd_same⟩ (fun i H' _ z => SqL.of (z.1.lst hc)) ?_ ?_
    · rintro i x H1 H2 hi ⟨x1, hd⟩ ⟨t, u, v, rfl, nt, rfl, e1, e2⟩
      cases e1
      dsimp only at e2
      rw [List.getElem?_map] at e2
      cases ec : cs[i]? with
      | none => rw [ec] at e2; cases e2
      | some c =>
        rw [ec] at e2
        cases e2
        have x2 := x1.trans (Ext.new (o := .tup [.int (i : Nat), .int c]) nt)
        have tD : D ≠ t := fun z => by rw [z, nt] at hd; cases hd
        have hd2 : upd H1 t (.tup [.int (i : Nat), .int c]) D = some (.dK (dcs (cs.take i) 0)) := (upd_ne tD).trans hd
        have il : i < cs.length := (List.getElem?_eq_some_iff.mp ec).1
        have out : c ∉ cs.take i := fun m => by
          obtain ⟨j, hj, e⟩ := List.mem_iff_getElem.mp m
          have jl : j < i := by rw [List.length_take] at hj; omega
          rw [List.getElem_take] at e
          have e' := (List.getElem?_eq_some_iff.mp ec).2
          exact absurd ((List.getElem_inj hnd).mp (e.trans e'.symm)) (by omega)
        have fresh : valV (dcs (cs.take i) 0) (Sum.inl c : Key) = none := by rw [dcs_val, if_neg out]
        refine ⟨t, _, rfl, SqT.of upd_same, rfl, _, _, rfl, _, _, rfl, rfl, ?_⟩
        refine ⟨rfl, ?_⟩
        dsimp only [tYes]
        rw [if_pos rfl]
        refine ⟨_, rfl, _, rfl, _, .inl c, rfl, hd2, ?_, x2.mut hD hd2 dK_nt dK_nc (fun z => nomatch z), ?_⟩
        · rw [dcs_len]
          exact small1000 (by rw [List.length_take]; omega)
        · rw [upd_same, putK_new _ fresh, take_snoc ec, dcs_snoc, List.length_take, Nat.zero_add, Nat.min_eq_left (by omega)]
    · rintro H1 ⟨x1, hd⟩
      rw [List.length_map, List.take_length] at hd
      have hw1 := hw.ext x1
      obtain ⟨⟨dx, rt, hp, _⟩, hl⟩ := hw1
      obtain ⟨lt, xs, rfl, hx, hxs⟩ := tup_of hl
      have hxl := lk_len hxs
      refine ⟨_, rfl, p, T.C_Web, dx, _, _, rfl, hp, T.cl_Web, T.na_Web_links, webF_links _ _ _, lt, rfl, ⟨_, SqT.of hx⟩, fun D2 hD2 => ?_⟩
      refine lc_tup (xs := xs) (fun i H' => ∃ ys : List V, Ext (TTof T) none H1 H' ∧ H' D2 = some (.lst ys) ∧ Tps H' ys (lkD (within cs (ps.take i)))) ⟨[], Ext.new hD2, upd_same, .nil⟩ (fun i H' _ ⟨ys, x, _⟩ => SqT.of (x.tup hx)) ?_ ?_
      · rintro i x H3 hi ⟨ys, x3, h3, hys⟩
        obtain ⟨d, hdi, hdz⟩ := hxs.get hi
        unfold lkD at hdi
        rw [List.getElem?_map] at hdi
        cases ep : ps[i]? with
        | none => rw [ep] at hdi; cases hdi
        | some q =>
          rw [ep] at hdi
          cases hdi
          obtain ⟨az, rfl, haz⟩ := tp_pr hdz
          have hd3 : H3 D = some (.dK (dcs cs 0)) := x3.kp D _ (fun z => nomatch z) dK_nt hd
          refine ⟨az, _, rfl, SqT.of (x3.tup haz), rfl, _, _, rfl, _, _, rfl, rfl, ?_⟩
          refine ⟨rfl, ?_⟩
          have snoc := take_snoc ep
          have yl : ys.length ≤ 1000 := by
            rw [lk_len hys]
            refine Nat.le_trans (within_len _ _) ?_
            rw [List.length_take]
            omega
          refine ⟨_, rfl, _, rfl, D, _, rfl, number q.1 hd3, _, rfl, ?_⟩
          have skip : ¬ (q.1 ∈ cs ∧ q.2 ∈ cs) → ∃ ys : List V, Ext (TTof T) none H1 H3 ∧ H3 D2 = some (.lst ys) ∧ Tps H3 ys (lkD (within cs (ps.take (i + 1)))) := fun no => by
            refine ⟨ys, x3, h3, ?_⟩
            rw [snoc, within_snoc, if_neg no, List.append_nil]
            exact hys
          by_cases ha : q.1 ∈ cs
          · rw [if_pos ha]
            refine (if_pos rfl).mpr ?_
            refine ⟨_, rfl, _, rfl, D, _, rfl, number q.2 hd3, _, rfl, ?_⟩
            by_cases hb : q.2 ∈ cs
            · rw [if_pos hb]
              refine (if_pos rfl).mpr ?_
              have g1 := number q.1 hd3
              have g2 := number q.2 hd3
              rw [if_pos ha] at g1
              rw [if_pos hb] at g2
              refine ⟨_, rfl, _, rfl, D, _, rfl, g1, _, rfl, _, rfl, D, _, rfl, g2, (by show 2 ≤ sizeLine; decide), fun t nt => ?_⟩
              have tD : D2 ≠ t := fun z => by rw [z, nt] at h3; cases h3
              have h4 : upd H3 t (.tup [.int (cs.idxOf q.1 : Int), .int (cs.idxOf q.2 : Int)]) D2 = some (.lst ys) := (upd_ne tD).trans h3
              refine ⟨ys, h4, small1000 (by omega), ys ++ [.ref t], (x3.trans (Ext.new nt)).mutL hD2 h4 (fun z => nomatch z), upd_same, ?_⟩
              rw [snoc, within_snoc, if_pos ⟨ha, hb⟩, lkD_snoc]
              have tk := (TK.new (o := .tup [.int (cs.idxOf q.1 : Int), .int (cs.idxOf q.2 : Int)]) nt).trans (TK.lst (o := .lst (ys ++ [.ref t])) h4)
              refine (hys.mono tk).append (.cons (pr_tp ?_) .nil)
              exact (upd_ne tD.symm).trans upd_same
            · rw [if_neg hb]
              exact (if_neg (by decide)).mpr (skip fun z => hb z.2)
          · rw [if_neg ha]
            refine (if_neg (by decide)).mpr ?_
            exact (if_neg (by decide)).mpr (skip fun z => ha z.1)
      · rintro H3 ⟨ys, x3, h3, hys⟩
        rw [hxl, List.take_length] at hys
        have x03 := x1.trans x3
        refine ⟨_, rfl, l, _, rfl, .inl (SqL.of (x03.lst hc)), _, rfl, D2, ys, rfl, .inl ⟨SqL.of h3, fun s2 n2 => ?_⟩⟩
        rw [List.length_map]
        have x4 : Ext (TTof T) none H (upd H3 s2 (.tup ys)) := x03.trans (Ext.new n2)
        refine web_make T (.tup upd_same (hys.mono (TK.new n2))) (x4.tb hT) (k.step x4 fun g p' H' x' hw' => g p' s2 H' (x4.trans x') hw')
end
end R
end

-- WebH
section
set_option Elab.async false
set_option linter.all false
set_option maxRecDepth 100000
set_option maxHeartbeats 4000000
namespace R
open PySem PySem.Spec PyProof.Rows L2 LamX NdefX LamP
open SrtO (lexB lexB_iff lexB_no)
/-! ### a web's cells but one -/
def oth (x : Int) : Nat → List Int
  | 0 => []
  | m + 1 => oth x m ++ (if (m : Int) = x then [] else [(m : Int)])
theorem oth_succ (x : Int) (m : Nat) : oth x (m + 1) = oth x m ++ (if (m : Int) = x then [] else [(m : Int)]) := rfl
/-- a cell's number when x is gone -/
def dn (x v : Int) : Int := v - (if x < v then 1 else 0)
theorem mem_oth {x v : Int} : ∀ {m : Nat}, v ∈ oth x m ↔ 0 ≤ v ∧ v < (m : Int) ∧ v ≠ x
  | 0 => ⟨(fun z => nomatch z), (fun z => by omega)⟩
  | m + 1 => by
    unfold oth
    rw [List.mem_append, mem_oth]
    by_cases h : (m : Int) = x
    · rw [if_pos h]
      constructor
      · rintro (z | z)
        · omega
        · cases z
      · intro z
        exact .inl (by omega)
    · rw [if_neg h, List.mem_singleton]
      constructor
      · rintro (z | z) <;> omega
      · intro z
        by_cases e : v = (m : Int)
        · exact .inr e
        · exact .inl (by omega)
theorem len_oth {x : Int} (hx : 0 ≤ x) : ∀ m : Nat, ((oth x m).length : Int) = (m : Int) - (if x < (m : Int) then 1 else 0)
  | 0 => by
    rw [if_neg (by omega)]
    rfl
  | m + 1 => by
    unfold oth
    rw [List.length_append, Int.natCast_add, len_oth hx m]
    by_cases h : (m : Int) = x
    · rw [if_pos h, if_neg (by omega), if_pos (by omega)]
      show ((m : Int) - 0) + 0 = _
      omega
    · rw [if_neg h]
      show _ + 1 = _
      by_cases e : x < (m : Int)
      · rw [if_pos e, if_pos (by omega)]
        omega
      · rw [if_neg e, if_neg (by omega)]
        omega
theorem idx_oth {x v : Int} (hx : 0 ≤ x) : ∀ {m : Nat}, v ∈ oth x m → ((oth x m).idxOf v : Int) = dn x v
  | 0, z => (nomatch z)
  | m + 1, z => by
    have z0 := mem_oth.mp z
    unfold oth
    rw [List.idxOf_append]
    by_cases h : v ∈ oth x m
    · rw [if_pos h]
      exact idx_oth hx h
    · rw [if_neg h]
      have e : v = (m : Int) := by
        rcases Int.lt_trichotomy v (m : Int) with q | q | q
        · exact absurd (mem_oth.mpr ⟨z0.1, q, z0.2.2⟩) h
        · exact q
        · omega
      subst e
      rw [if_neg z0.2.2, List.idxOf_cons_self, Int.natCast_add, len_oth hx m]
      unfold dn
      simp
theorem nodup_oth (x : Int) : ∀ m : Nat, (oth x m).Nodup
  | 0 => List.nodup_nil
  | m + 1 => by
    unfold oth
    rw [List.nodup_append]
    refine ⟨nodup_oth x m, ?_, fun a ha b hb e => ?_⟩
    · split <;> simp
    · have q := mem_oth.mp ha
      split at hb
      · cases hb
      · rw [List.mem_singleton] at hb
        omega
/-- the links without the cell x -/
def dropC (x : Int) (ps : List Pr) : List Pr := (ps.filter fun p => decide (p.1 ≠ x) && decide (p.2 ≠ x)).map fun p => (dn x p.1, dn x p.2)
theorem within_oth {n : Int} {x : Int} (hx : 0 ≤ x) (hn : 0 ≤ n) : ∀ {ps : List Pr}, LkIn n ps → within (oth x n.toNat) ps = dropC x ps
  | [], _ => rfl
  | p :: r, h => by
    have hp := h p List.mem_cons_self
    have ih := within_oth hx hn (ps := r) fun q m => h q (List.mem_cons_of_mem _ m)
    have m1 : p.1 ∈ oth x n.toNat ↔ p.1 ≠ x := by rw [mem_oth]; omega
    have m2 : p.2 ∈ oth x n.toNat ↔ p.2 ≠ x := by rw [mem_oth]; omega
    unfold within dropC at *
    rw [List.filterMap_cons, List.filter_cons]
    by_cases a : p.1 ≠ x ∧ p.2 ≠ x
    · rw [if_pos ⟨m1.mpr a.1, m2.mpr a.2⟩, if_pos (by simp [a.1, a.2]), List.map_cons]
      dsimp only
      rw [ih, idx_oth hx (m1.mpr a.1), idx_oth hx (m2.mpr a.2)]
    · rw [if_neg (fun z => a ⟨m1.mp z.1, m2.mp z.2⟩), if_neg (by simpa using fun q => Classical.byContradiction fun q2 => a ⟨q, q2⟩)]
      exact ih
theorem valid_drop {n x : Int} {ps : List Pr} (hx : 0 ≤ x ∧ x < n) (h : Valid n ps) : Valid (n - 1) (dropC x ps) := by
  have v := valid_filter (fun p => decide (p.1 ≠ x) && decide (p.2 ≠ x)) h
  have ne : ∀ p ∈ ps.filter (fun p => decide (p.1 ≠ x) && decide (p.2 ≠ x)), p.1 ≠ x ∧ p.2 ≠ x := fun p m => by
    have := (List.mem_filter.mp m).2
    simpa using this
  refine ⟨fun p hp => ?_, ?_⟩
  · obtain ⟨q, hq, rfl⟩ := List.mem_map.mp hp
    have a := v.lk q hq
    have b := ne q hq
    unfold dn
    dsimp only
    split <;> split <;> omega
  · refine List.pairwise_map.mpr (v.asc.imp_of_mem fun {p q} hp hq hlt => ?_)
    have a := ne p hp
    have b := ne q hq
    rw [lexB_iff] at hlt ⊢
    unfold dn
    dsimp only
    split <;> split <;> split <;> split <;> omega
theorem dropC_len (x : Int) (ps : List Pr) : (dropC x ps).length ≤ ps.length := by
  unfold dropC
  rw [List.length_map]
  exact List.length_filter_le _ _
section
variable {P : Program} {w : World} {K : PySem.W.Frag} {mg : Str → Option Value} {base : Heap}
def spWithoutCell (T : Txt K mg) (TT : List NTab) : Sp := fun vs H Q E => ∃ (p lt : Addr) (n x : Int) (ps : List Pr), vs = [.ref p, .int x] ∧ WebIn T TT H p n lt ps ∧ (¬ (0 ≤ x ∧ x < n) → Rz TT E H T.C_BadCell fun v _ => v = .int x) ∧
  (0 ≤ x ∧ x < n → n = 1 → Rz TT E H T.C_BadSize fun v _ => v = .int 0) ∧ (0 ≤ x ∧ x < n → n ≠ 1 → RetWeb T TT H Q (n - 1) (dropC x ps))
theorem ok_without_cell (T : Txt K mg) (TB : TabB base mg T.c_check_links T.P_check_links) : FnOk P w K mg base (L2.CX P w) 10 T.a_without_cell T.d_without_cell ["web", "x"] (spWithoutCell T (TTof T)) := by
  refine T.F_without_cell.okX sc_without_cell (fun vs H Q E h => ?_) (fun cdv A outer s H vs Q E hr h => ?_)
  · obtain ⟨p, lt, n, x, ps, rfl, _⟩ := h
    rfl
  · obtain ⟨p, lt, n, x, ps, rfl, hw, k1, k2, k3⟩ := h
    have nd := sc_without_cell.nd
    have px : Passes (L2.CX P w) (cxOf (L2.CX P w) P w K mg base N_without_cell "without_cell" (defScope s_without_cell) T.a_without_cell cdv A outer s H E) E := passes_call (takes_of rfl rfl rfl rfl) (fun _ _ _ _ h => h)
    refine ⟨_, pss_cons (ps_expr (pe_call (ok_check_cell T (TTof T)) (hr.mono (by decide)) rfl T.g_check_cell T.F_check_cell.kp T.b_check_cell .nil px (pa_cons (pv 0) (pa_cons (pv 1) pa_nil))))
      (pss_one (ps_ret (pe_call (ok_web_within T TB) hr rfl T.g_web_within T.F_web_within.kp T.b_web_within .nil px (pa_cons (pv 0) (pa_cons (pe_lc (own := [("y", 2)]) (g := gName 2) rfl nd (pi_range1 (by rfl) T.n_range (pa_cons (pe_fld (pv 0) rfl) pa_nil)) (blkOk_by (N := N_without_cell) (sc := defScope s_without_cell) (by decide +kernel))
          (fun _ _ _ _ _ => pg_name (i := 2) nd rfl (Or.inl rfl)) (fun _ _ _ _ _ => pts_one (pt_cmpR op_ne (pv 2) (pv 1) (nomark _))) (fun _ _ _ _ _ => pv 2)) pa_nil))))), ?_⟩
    obtain ⟨⟨dx, rt, hp, hrt⟩, hl⟩ := hw.at_
    refine ⟨_, rfl, _, rfl, p, dx, x, n, _, _, rfl, hp, fun hx H1 x1 => ?_, k1⟩
    have hn := hw.hn
    refine ⟨_, rfl, _, rfl, p, T.C_Web, dx, _, _, rfl, x1.ins hp, T.cl_Web, T.na_Web_size, webF_size _ _ _, n, rfl, by omega, by omega, fun D hD => ?_⟩
    refine lc_range (lo := 0) (n := n.toNat) (fun i H' => Ext (TTof T) none H1 H' ∧ H' D = some (.lst ((oth x i).map V.int))) ⟨Ext.new hD, upd_same⟩ ?_ ?_
    · rintro i H2 hi ⟨x2, h2⟩
      refine ⟨rfl, ?_⟩
      have e0 : ((0 : Int) + (i : Int)) = (i : Int) := Int.zero_add _
      rw [e0]
      refine ⟨_, rfl, _, rfl, rfl, _, rfl, ?_⟩
      by_cases h : (i : Int) = x
      · have e : (!decide (V.int (i : Int) = V.int x)) = false := by simp [h]
        rw [e]
        refine (if_neg (by decide)).mpr ⟨x2, ?_⟩
        rw [oth_succ, if_pos h, List.append_nil]
        exact h2
      · have e : (!decide (V.int (i : Int) = V.int x)) = true := by simp [h]
        rw [e]
        refine (if_pos rfl).mpr ⟨_, rfl, _, h2, ?_, x2.mutL hD h2 (fun z => nomatch z), ?_⟩
        · rw [List.length_map]
          have := len_oth hx.1 i
          exact small1000 (by split at this <;> omega)
        · rw [oth_succ, if_neg h, upd_same, List.map_append]
          rfl
    · rintro H2 ⟨x2, h2⟩
      have x3 := x1.trans x2
      have ln := len_oth hx.1 n.toNat
      rw [if_pos (by omega)] at ln
      have ln' : (((oth x n.toNat).length : Nat) : Int) = n - 1 := by omega
      refine ⟨p, D, n, _, ps, oth x n.toNat, rfl, hw.at_.ext x3, h2, nodup_oth x _, by omega, by have := hw.hz; omega, x3.tb hw.tb, ?_⟩
      rw [ln', within_oth hx.1 (by omega) hw.ok.lk]
      have vd := valid_drop hx hw.ok
      have hz := Nat.le_trans (dropC_len x ps) hw.hz
      refine ⟨fun z => ?_, fun _ z => absurd z (by omega), fun _ _ i hi z => absurd (valid_nofault vd i hi) z, fun z _ _ p' lt' H3 x4 hw' => ?_⟩
      · have n1 : n = 1 := by omega
        subst n1
        exact (k2 hx rfl).back x3
      · have x5 := x3.trans x4
        exact k3 hx (by omega) p' lt' H3 x5 ⟨hw', vd, by omega, hz, x5.tb hw.tb⟩
end
end R
end

-- LawA
section
set_option Elab.async false
set_option linter.all false
set_option maxRecDepth 100000
set_option maxHeartbeats 4000000
namespace R
open PySem PySem.Spec PyProof.Rows L2 LamX NdefX LamP
section
variable {P : Program} {w : World} {K : PySem.W.Frag} {mg : Str → Option Value} {base : Heap}
/-- what a def that draws gives back: the source has moved on, nothing else has changed -/
def RetS (TT : List NTab) (so : Addr) (H : Hp) (Q : VK) (good : V → Hp → Prop) : Prop := ∀ v H', Ext TT (some so) H H' → Src H' so → good v H' → Q v H'
theorem Ext.srcSet {TT : List NTab} {so : Addr} {H H1 : Hp} {x y : Int} (x1 : Ext TT (some so) H H1) (s1 : Src H1 so) (hx : 0 ≤ x ∧ x.natAbs < 2 ^ BIG) (hy : 0 ≤ y ∧ y < 2147483647) :
    Ext TT (some so) H (upd H1 so (.lst [.int x, .int y])) ∧ Src (upd H1 so (.lst [.int x, .int y])) so := by
  obtain ⟨a, b, h, _⟩ := s1
  have me : Src (upd H1 so (.lst [.int x, .int y])) so := ⟨x, y, upd_same, hx.1, hx.2, hy.1, hy.2⟩
  refine ⟨⟨fun c o ne nt e => ?_, fun t => ?_, fun c e _ => ?_, fun c e => x1.fr c (upd_none' e)⟩, me⟩
  · rw [upd_ne (fun z => ne (by rw [z]))]
    exact x1.kp c o ne nt e
  · have q := x1.tb t
    intro p hp
    obtain ⟨ps, a1, a2, a3⟩ := q p hp
    refine ⟨ps, (upd_ne (ne_of a1 h (Ne.symm (lst_nt ps)))).trans a1, a2, fun pos cv hc => ?_⟩
    obtain ⟨d, e1, e2⟩ := a3 pos cv hc
    exact ⟨d, e1, (upd_ne (ne_of e2 h (Ne.symm (lst_nc d _)))).trans e2⟩
  · cases e
    exact me
def spTake (TT : List NTab) : Sp := fun vs H Q _ => ∃ (so : Addr) (n : Int), vs = [.ref so, .int n] ∧ Src H so ∧ 0 < n ∧ n < 2 ^ 30 ∧ RetS TT so H Q fun v _ => ∃ m : Int, v = .int m ∧ 0 ≤ m ∧ m < n
theorem ok_take (T : Txt K mg) (TT : List NTab) : FnOk P w K mg base CX0 1 T.a_Ltake T.d_Ltake ["_law_source", "_law_top"] (spTake TT) := by
  refine T.F_Ltake.ok sc_Ltake (fun vs H Q E h => ?_) (fun cdv A outer s H vs Q E hr h => ?_)
  · obtain ⟨so, n, rfl, _⟩ := h
    rfl
  · obtain ⟨so, n, rfl, hs, hn, hn2, k⟩ := h
    have nd := sc_Ltake.nd
    refine ⟨_, pss_cons (ps_if (pt_cmpR op_gt (pe_ix ix_list (pv 0) pe_int (fun _ _ => rfl)) pe_int (nomark _))
        (pss_cons (ps_set (i := 2) nd rfl (Or.inl rfl) (pe_op op_mod (pe_callTy call_int1 (by rfl) T.n_int (by decide +kernel) (pa_cons (pe_ix ix_list (pv 0) pe_int (fun _ _ => rfl)) pa_nil)) (pv 1)))
        (pss_cons (ps_asg (pe_op op_fdivW (pe_ix ix_list (pv 0) pe_int (fun _ _ => rfl)) (pv 1)) (pg_sub (pv 0) pe_int set_list))
        (pss_one (ps_ret (pv 2))))) pss_nil)
      (pss_cons (ps_asg (pe_op op_mod (pe_callTy call_int1 (by rfl) T.n_int (by decide +kernel) (pa_cons (pe_op op_add (pe_op op_mul (pe_ix ix_list (pv 0) pe_int (fun _ _ => rfl)) pe_int) pe_int) pa_nil)) pe_int) (pg_sub (pv 0) pe_int set_list))
      (pss_one (ps_ret (pe_op op_mod (pe_callTy call_int1 (by rfl) T.n_int (by decide +kernel) (pa_cons (pe_op op_fdiv (pe_op op_mod (pe_callTy call_int1 (by rfl) T.n_int (by decide +kernel) (pa_cons (pe_op op_mulW (pe_ix ix_list (pv 0) pe_int (fun _ _ => rfl)) (pe_ix ix_list (pv 0) pe_int (fun _ _ => rfl))) pa_nil)) pe_int) pe_int) pa_nil)) (pv 1))))), ?_⟩
    have hs0 := hs
    obtain ⟨x, y, h, hx0, hxB, hy0, hyB⟩ := hs
    have n30 : n.natAbs < 2 ^ 30 := by omega
    refine ⟨_, rfl, so, _, 0, _, rfl, rfl, SqL.of h, rfl, _, _, rfl, rfl, _, rfl, ?_⟩
    refine iteB (fun h0 => ?_) (fun h0 => ?_)
    · have hx : 0 < x := of_decide_eq_true h0
      refine ⟨_, rfl, so, _, 0, _, rfl, rfl, SqL.of h, rfl, .inl ⟨_, rfl, _, rfl, _, _, rfl, rfl, hn, ?_⟩⟩
      refine ⟨_, rfl, so, _, 0, _, rfl, rfl, SqL.of h, rfl, _, rfl, _, _, rfl, rfl, wide_div hn n30 (by omega) (by omega), ?_⟩
      refine ⟨_, rfl, so, _, 0, 0, rfl, rfl, h, rfl, ?_⟩
      have d0 : 0 ≤ x / n := Int.ediv_nonneg hx0 (by omega)
      have d1 : x / n ≤ x := Int.ediv_le_self n hx0
      obtain ⟨e1, e2⟩ := (Ext.refl TT (some so) H).srcSet (x := x / n) (y := y) hs0 ⟨d0, wide_le d0 d1 hxB⟩ ⟨hy0, hyB⟩
      exact ⟨_, rfl, k _ _ e1 e2 ⟨_, rfl, Int.emod_nonneg _ (by omega), Int.emod_lt_of_pos _ hn⟩⟩
    · refine ⟨_, rfl, so, _, 1, _, rfl, rfl, SqL.of h, rfl, _, _, rfl, rfl, .inr (by omega), _, _, rfl, rfl, .inl ⟨_, rfl, _, _, rfl, rfl, by omega, ?_⟩⟩
      refine ⟨_, rfl, so, _, 1, 1, rfl, rfl, h, rfl, ?_⟩
      have m0 : 0 ≤ (y * 39373 + 7) % 2147483647 := Int.emod_nonneg _ (by omega)
      have m1 : (y * 39373 + 7) % 2147483647 < 2147483647 := Int.emod_lt_of_pos _ (by omega)
      obtain ⟨e1, e2⟩ := (Ext.refl TT (some so) H).srcSet (x := x) (y := (y * 39373 + 7) % 2147483647) hs0 ⟨hx0, hxB⟩ ⟨m0, m1⟩
      dsimp only [List.set]
      generalize (y * 39373 + 7) % 2147483647 = z at m0 m1 e1 e2 ⊢
      have zb : z.natAbs < 2 ^ 31 := by omega
      refine ⟨_, rfl, so, _, 1, _, rfl, rfl, SqL.of upd_same, rfl, _, rfl, so, _, 1, _, rfl, rfl, SqL.of upd_same, rfl, _, _, rfl, rfl, wide_mul (a := 31) (b := 31) zb zb (by decide) (by decide) (by decide), .inl ⟨_, rfl, _, _, rfl, rfl, by omega, ?_⟩⟩
      have q0 : 0 ≤ z * z % 2147483629 := Int.emod_nonneg _ (by omega)
      have q1 : z * z % 2147483629 < 2147483629 := Int.emod_lt_of_pos _ (by omega)
      refine ⟨_, _, rfl, rfl, ⟨by decide, by decide⟩, .inl ⟨_, rfl, _, rfl, _, _, rfl, rfl, hn, ?_⟩⟩
      exact k _ _ e1 e2 ⟨_, rfl, Int.emod_nonneg _ (by omega), Int.emod_lt_of_pos _ hn⟩
def spOne (TT : List NTab) : Sp := fun vs H Q _ => ∃ (so l : Addr) (xs : List V), vs = [.ref so, .ref l] ∧ Src H so ∧ H l = some (.lst xs) ∧ l ≠ so ∧ 0 < xs.length ∧ xs.length < 1000 ∧ RetS TT so H Q fun v _ => v ∈ xs
theorem atI_in {α : Type} {xs : List α} {m : Int} (h0 : 0 ≤ m) (h : m < xs.length) : ∃ v, atI xs m = some v ∧ v ∈ xs := by
  obtain ⟨k, rfl⟩ : ∃ k : Nat, m = (k : Int) := ⟨m.toNat, by omega⟩
  have hk : k < xs.length := by omega
  exact ⟨xs[k], atI_nat (List.getElem?_eq_getElem hk), List.getElem_mem hk⟩
theorem ok_one (T : Txt K mg) (TT : List NTab) : FnOk P w K mg base CX0 2 T.a_Lone T.d_Lone ["_law_source", "_law_things"] (spOne TT) := by
  refine T.F_Lone.ok sc_Lone (fun vs H Q E h => ?_) (fun cdv A outer s H vs Q E hr h => ?_)
  · obtain ⟨so, l, xs, rfl, _⟩ := h
    rfl
  · obtain ⟨so, l, xs, rfl, hs, hl, ne, h0, h1, k⟩ := h
    refine ⟨_, pss_one (ps_ret (pe_ix ix_list (pv 1) (pe_call (ok_take T TT) (hr.mono (by decide)) rfl T.g_Ltake T.F_Ltake.kp T.b_Ltake .nil pass0 (pa_cons (pv 0) (pa_cons (pe_callB call_len_seq (by rfl) T.n_len PySem.boot_len (pa_cons (pv 1) pa_nil)) pa_nil))) (fun _ _ => rfl))), ?_⟩
    refine ⟨_, rfl, _, rfl, _, rfl, l, _, rfl, .inl (SqL.of hl), so, _, rfl, hs, by omega, by omega, fun v H1 x1 s1 hv => ?_⟩
    obtain ⟨m, rfl, m0, m1⟩ := hv
    obtain ⟨v, hv, hm⟩ := atI_in m0 m1
    exact ⟨l, _, m, v, rfl, rfl, SqL.of (x1.lstS ne hl), hv, k _ _ x1 s1 hm⟩
def spLink (TT : List NTab) : Sp := fun vs H Q _ => ∃ a b : Int, vs = [.int a, .int b] ∧ Ret TT H Q fun v H' => ∃ t, v = .ref t ∧ H' t = some (.tup [.int (lnk a b).1, .int (lnk a b).2])
theorem ok_link (T : Txt K mg) (TT : List NTab) : FnOk P w K mg base CX0 1 T.a_Llink T.d_Llink ["_law_a", "_law_b"] (spLink TT) := by
  refine T.F_Llink.ok sc_Llink (fun vs H Q E h => ?_) (fun cdv A outer s H vs Q E hr h => ?_)
  · obtain ⟨a, b, rfl, _⟩ := h
    rfl
  · obtain ⟨a, b, rfl, k⟩ := h
    refine ⟨_, pss_one (ps_ret (pe_tup (pa_cons (pe_callB (call_min2 rfl) (by rfl) T.n_min (by decide +kernel) (pa_cons (pv 0) (pa_cons (pv 1) pa_nil))) (pa_cons (pe_callB (call_max2 rfl) (by rfl) T.n_max (by decide +kernel) (pa_cons (pv 0) (pa_cons (pv 1) pa_nil))) pa_nil)))), ?_⟩
    refine ⟨_, rfl, _, rfl, _, _, rfl, _, rfl, _, rfl, _, _, rfl, (by show 2 ≤ sizeLine; decide), fun p np => ?_⟩
    exact k _ _ (Ext.new np) ⟨p, rfl, upd_same⟩
def spCell (TT : List NTab) : Sp := fun vs H Q _ => ∃ (so : Addr) (n : Int), vs = [.ref so, .int n] ∧ Src H so ∧ 0 < n ∧ n < 1000 ∧ RetS TT so H Q fun v _ => ∃ m : Int, v = .int m
theorem ok_cell (T : Txt K mg) (TT : List NTab) : FnOk P w K mg base CX0 3 T.a_Lcell T.d_Lcell ["_law_source", "_law_size"] (spCell TT) := by
  refine T.F_Lcell.ok sc_Lcell (fun vs H Q E h => ?_) (fun cdv A outer s H vs Q E hr h => ?_)
  · obtain ⟨so, n, rfl, _⟩ := h
    rfl
  · obtain ⟨so, n, rfl, hs, h0, h1, k⟩ := h
    have nd := sc_Lcell.nd
    refine ⟨_, pss_cons (ps_set (i := 2) nd rfl (Or.inl rfl) (pe_call (ok_take T TT) (hr.mono (by decide)) rfl T.g_Ltake T.F_Ltake.kp T.b_Ltake .nil pass0 (pa_cons (pv 0) (pa_cons pe_int pa_nil))))
      (pss_cons (ps_if (pt_cmpR op_eq (pv 2) pe_int (nomark _)) (pss_one (ps_ret (pe_op op_add (pv 1) (pe_call (ok_one T TT) (hr.mono (by decide)) rfl T.g_Lone T.F_Lone.kp T.b_Lone .nil pass0 (pa_cons (pv 0) (pa_cons (pe_lst (pa_cons pe_int (pa_cons pe_int (pa_cons (pe_op op_pow pe_int pe_int) pa_nil)))) pa_nil)))))) pss_nil)
      (pss_cons (ps_if (pt_cmpR op_eq (pv 2) pe_int (nomark _)) (pss_one (ps_ret (pe_op op_sub (pe_un un_neg pe_int) (pe_call (ok_one T TT) (hr.mono (by decide)) rfl T.g_Lone T.F_Lone.kp T.b_Lone .nil pass0 (pa_cons (pv 0) (pa_cons (pe_lst (pa_cons pe_int (pa_cons pe_int (pa_cons (pe_op op_pow pe_int pe_int) pa_nil)))) pa_nil)))))) pss_nil)
      (pss_one (ps_ret (pe_call (ok_take T TT) (hr.mono (by decide)) rfl T.g_Ltake T.F_Ltake.kp T.b_Ltake .nil pass0 (pa_cons (pv 0) (pa_cons (pv 1) pa_nil))))))), ?_⟩
    refine ⟨_, rfl, so, 12, rfl, hs, by decide, by decide, fun v H1 x1 s1 hv => ?_⟩
    obtain ⟨m, rfl, _, _⟩ := hv
    refine ⟨_, rfl, rfl, _, rfl, ?_⟩
    refine iteB (fun _ => ?_) (fun _ => ?_)
    · refine ⟨_, rfl, _, rfl, _, _, rfl, rfl, ⟨by decide, by decide, by decide⟩, (by show 3 ≤ sizeLine; decide), fun l nl => ?_⟩
      have ne : l ≠ so := fun z => by
        obtain ⟨_, _, e, _⟩ := s1
        rw [← z, nl] at e
        cases e
      have x2 := x1.trans (Ext.new (o := .lst [.int 0, .int 1, .int (10 ^ (20 : Int).toNat)]) nl)
      refine ⟨so, l, _, rfl, x2.src hs, upd_same, ne, by show 0 < 3; decide, by show 3 < 1000; decide, fun v H2 x3 s3 hv => ?_⟩
      have i3 : ∃ j : Int, v = .int j := by
        simp only [List.mem_cons, List.not_mem_nil, or_false] at hv
        rcases hv with z | z | z <;> exact ⟨_, z⟩
      obtain ⟨j, rfl⟩ := i3
      exact ⟨_, _, rfl, rfl, k _ _ (x2.trans x3) s3 ⟨_, rfl⟩⟩
    · refine ⟨_, rfl, rfl, _, rfl, ?_⟩
      refine iteB (fun _ => ?_) (fun _ => ?_)
      · refine ⟨_, rfl, _, rfl, _, _, rfl, rfl, ⟨by decide, by decide, by decide⟩, (by show 3 ≤ sizeLine; decide), fun l nl => ?_⟩
        have ne : l ≠ so := fun z => by
          obtain ⟨_, _, e, _⟩ := s1
          rw [← z, nl] at e
          cases e
        have x2 := x1.trans (Ext.new (o := .lst [.int 0, .int 1, .int (10 ^ (20 : Int).toNat)]) nl)
        refine ⟨so, l, _, rfl, x2.src hs, upd_same, ne, by show 0 < 3; decide, by show 3 < 1000; decide, fun v H2 x3 s3 hv => ?_⟩
        have i3 : ∃ j : Int, v = .int j := by
          simp only [List.mem_cons, List.not_mem_nil, or_false] at hv
          rcases hv with z | z | z <;> exact ⟨_, z⟩
        obtain ⟨j, rfl⟩ := i3
        exact ⟨_, _, rfl, rfl, k _ _ (x2.trans x3) s3 ⟨_, rfl⟩⟩
      · refine ⟨_, rfl, _, rfl, so, n, rfl, s1, h0, by omega, fun v H2 x2 s2 hv => ?_⟩
        obtain ⟨j, rfl, _, _⟩ := hv
        exact k _ _ (x1.trans x2) s2 ⟨_, rfl⟩
end
end R
end

-- LawB
section
set_option Elab.async false
set_option linter.all false
set_option maxRecDepth 100000
set_option maxHeartbeats 4000000
namespace R
open PySem PySem.Spec PyProof.Rows L2 LamX NdefX LamP
section
variable {P : Program} {w : World} {K : PySem.W.Frag} {mg : Str → Option Value} {base : Heap}
/-- a drawn web's data: a new list of its links -/
def IsLinks (H : Hp) (l : Addr) (ps : List Pr) : Prop := ∃ xs, H l = some (.lst xs) ∧ Tps H xs (lkD ps)
theorem IsLinks.extS {TT : List NTab} {so l : Addr} {H H1 : Hp} {ps : List Pr} (h : IsLinks H l ps) (ne : l ≠ so) (q : Src H so) (x : Ext TT (some so) H H1) : IsLinks H1 l ps := h.elim fun xs z => ⟨xs, x.lstS ne z.1, z.2.mono (x.tkS q)⟩
theorem IsLinks.new {H : Hp} {l p : Addr} {ps : List Pr} {o : HO} (h : IsLinks H l ps) (n : H p = none) : IsLinks (upd H p o) l ps := h.elim fun xs z => ⟨xs, (upd_ne (ne_of_none z.1 n)).trans z.1, z.2.mono (TK.new n)⟩
theorem src_ne {H : Hp} {so l : Addr} (q : Src H so) (n : H l = none) : l ≠ so := fun z => by
  obtain ⟨_, _, e, _⟩ := q
  rw [← z, n] at e
  cases e
/-- the links drawn so far: those of the cells below i, and of the cell i those with cells below j -/
def Grow (i j : Int) (ps : List Pr) : Prop := (∀ p ∈ ps, 0 ≤ p.1 ∧ p.1 < p.2 ∧ (p.2 < i ∨ (p.2 = i ∧ p.1 < j))) ∧ ps.Nodup
theorem Grow.more {i j : Int} {ps : List Pr} (g : Grow i j ps) : Grow i (j + 1) ps := ⟨fun p m => by have := g.1 p m; omega, g.2⟩
theorem Grow.put {i j : Int} {ps : List Pr} (g : Grow i j ps) (h0 : 0 ≤ j) (h : j < i) : Grow i (j + 1) (ps ++ [(j, i)]) := by
  refine ⟨fun p m => ?_, ?_⟩
  · rcases List.mem_append.mp m with m | m
    · have := g.1 p m
      omega
    · cases List.mem_singleton.mp m
      exact ⟨h0, h, .inr ⟨rfl, by dsimp only; omega⟩⟩
  · rw [List.nodup_append]
    refine ⟨g.2, by simp, fun a ha b hb e => ?_⟩
    cases List.mem_singleton.mp hb
    subst e
    have := g.1 _ ha
    dsimp only at this
    omega
theorem Grow.next {i : Int} {ps : List Pr} (g : Grow i i ps) : Grow (i + 1) 0 ps := ⟨fun p m => by have := g.1 p m; omega, g.2⟩
theorem Grow.valid {i : Int} {ps : List Pr} (g : Grow i 0 ps) : Valid i (srt ps) := by
  refine ⟨fun p m => ?_, srt_asc (srt_srt ps) ((srt_perm ps).nodup_iff.mpr g.2)⟩
  have := g.1 p ((srt_perm ps).mem_iff.mp m)
  omega
def spAny (TT : List NTab) : Sp := fun vs H Q _ => ∃ (so : Addr) (n : Int), vs = [.ref so, .int n] ∧ Src H so ∧ 1 ≤ n ∧ n ≤ 7 ∧
  RetS TT so H Q fun v H' => ∃ t l ps, v = .ref t ∧ H' t = some (.tup [.int n, .ref l]) ∧ l ≠ so ∧ IsLinks H' l ps ∧ Valid n ps ∧ ps.length ≤ 160
theorem ok_any (T : Txt K mg) (TT : List NTab) : FnOk P w K mg base CX0 2 T.a_Lany T.d_Lany ["_law_source", "_law_count"] (spAny TT) := by
  refine T.F_Lany.ok sc_Lany (fun vs H Q E h => ?_) (fun cdv A outer s H vs Q E hr h => ?_)
  · obtain ⟨so, n, rfl, _⟩ := h
    rfl
  · obtain ⟨so, n, rfl, hs, h0, h1, k⟩ := h
    have nd := sc_Lany.nd
    refine ⟨_, pss_cons (ps_set (i := 2) nd rfl (Or.inl rfl) (pe_lst pa_nil))
      (pss_cons (ps_for PassesOwn.never rfl (pi_range1 (by rfl) T.n_range (pa_cons (pv 1) pa_nil)) (pg_name (i := 3) nd rfl (Or.inl rfl))
        (pss_one (ps_for PassesOwn.never rfl (pi_range1 (by rfl) T.n_range (pa_cons (pv 3) pa_nil)) (pg_name (i := 4) nd rfl (Or.inl rfl))
          (pss_one (ps_if (pt_cmpR op_lt (pe_call (ok_take T TT) (hr.mono (by decide)) rfl T.g_Ltake T.F_Ltake.kp T.b_Ltake .nil pass0 (pa_cons (pv 0) (pa_cons pe_int pa_nil))) pe_int (nomark _))
            (pss_one (ps_expr (pe_bm PySem.F.plainAttrs_list PySem.F.slot_list_append PySem.F.type_list_append mt_append (pv 2) (pa_cons (pe_tup (pa_cons (pv 4) (pa_cons (pv 3) pa_nil))) pa_nil)))) pss_nil)))))
      (pss_one (ps_ret (pe_tup (pa_cons (pv 1) (pa_cons (pe_callB cr_sortedPO (by rfl) T.n_sorted (by decide +kernel) (pa_cons (pv 2) pa_nil)) pa_nil)))))), ?_⟩
    refine ⟨(by show 0 ≤ sizeLine; exact Nat.zero_le _), fun D hD => ?_⟩
    have nso := src_ne hs hD
    have so0 : some so ≠ some D := fun z => nso (Option.some.inj z).symm
    refine ⟨_, rfl, n, rfl, by omega, by omega, for_range (lo := 0) (n := n.toNat) (fun i σ H' => ∃ (u v : Option V) (ps : List Pr), σ = [some (.ref so), some (.int n), some (.ref D), u, v] ∧ Ext TT (some so) H H' ∧ Src H' so ∧ IsLinks H' D ps ∧ Grow (i : Int) 0 ps ∧ ps.length ≤ 7 * i)
      ⟨none, none, [], rfl, Ext.new hD, (Ext.new (T := TT) (so := some so) hD).src hs, ⟨[], upd_same, .nil⟩, ⟨(fun _ z => nomatch z), List.nodup_nil⟩, Nat.zero_le _⟩ ?_ ?_⟩
    · rintro i σ H1 hi ⟨u, v, ps, rfl, x1, s1, l1, g1, z1⟩
      have e0 : ((0 : Int) + (i : Int)) = (i : Int) := Int.zero_add _
      rw [e0]
      refine ⟨_, rfl, (i : Int), rfl, by omega, by omega, for_range (lo := 0) (n := i) (fun j σ H' => ∃ (v : Option V) (ps : List Pr), σ = [some (.ref so), some (.int n), some (.ref D), some (.int (i : Int)), v] ∧ Ext TT (some so) H H' ∧ Src H' so ∧ IsLinks H' D ps ∧ Grow (i : Int) (j : Int) ps ∧ ps.length ≤ 7 * i + j)
        ⟨v, ps, rfl, x1, s1, l1, g1, by omega⟩ ?_ ?_⟩
      · rintro j σ H2 hj ⟨v, ps, rfl, x2, s2, l2, g2, z2⟩
        rw [Int.zero_add]
        refine ⟨_, rfl, so, 5, rfl, s2, by decide, by decide, fun v H3 x3 s3 hv => ?_⟩
        obtain ⟨m, rfl, _, _⟩ := hv
        have x03 := x2.trans x3
        have l3 := l2.extS nso s2 x3
        refine ⟨_, _, rfl, rfl, _, rfl, ?_⟩
        refine iteB (fun _ => ?_) (fun _ => ?_)
        · obtain ⟨xs, hx, hxs⟩ := l3
          refine ⟨_, rfl, Or.inl ⟨rfl, _, SqL.of hx⟩, _, rfl, _, rfl, (by show 2 ≤ sizeLine; decide), fun t nt => ?_⟩
          have tD : D ≠ t := ne_of_none hx nt
          have h4 : upd H3 t (.tup [.int (j : Int), .int (i : Int)]) D = some (.lst xs) := (upd_ne tD).trans hx
          have ln := lk_len hxs
          have x4 : Ext TT (some so) H (upd (upd H3 t (.tup [.int (j : Int), .int (i : Int)])) D (.lst (xs ++ [.ref t]))) := (x03.trans (Ext.new nt)).mutL hD h4 so0
          refine ⟨D, xs, _, rfl, rfl, h4, small1000 (by omega), _, ps ++ [((j : Int), (i : Int))], rfl, x4, x4.src hs, ⟨_, upd_same, ?_⟩, g2.put (by omega) (by omega), by rw [List.length_append, List.length_singleton]; omega⟩
          rw [lkD_snoc]
          refine (hxs.mono ((TK.new nt).trans (TK.lst h4))).append (.cons (pr_tp ?_) .nil)
          exact (upd_ne tD.symm).trans upd_same
        · exact ⟨_, ps, rfl, x03, s3, l3, g2.more, by omega⟩
      · rintro σ H2 ⟨v, ps, rfl, x2, s2, l2, g2, z2⟩
        exact ⟨_, v, ps, rfl, x2, s2, l2, g2.next, by omega⟩
    · rintro σ H1 ⟨u, v, ps, rfl, x1, s1, ⟨xs, hx, hxs⟩, g1, z1⟩
      have en : ((n.toNat : Nat) : Int) = n := by omega
      rw [en] at g1
      refine ⟨_, rfl, _, rfl, D, xs, prOf H1, rfl, SqL.of hx, prs_each hxs, fun ys l h1 h2 nl => ⟨(by show 2 ≤ sizeLine; decide), fun t nt => ?_⟩⟩
      have hys := sorted_is hxs h1 h2
      have x2 := x1.trans (Ext.new (o := .lst ys) nl)
      have x3 := x2.trans (Ext.new (o := .tup [.int n, .ref l]) nt)
      refine k _ _ x3 (x3.src hs) ⟨t, l, srt ps, rfl, upd_same, src_ne s1 nl, IsLinks.new ⟨ys, upd_same, hys.mono (TK.new nl)⟩ nt, g1.valid, by rw [srt_len]; omega⟩
end
end R
end

-- LawC
section
set_option Elab.async false
set_option linter.all false
set_option maxRecDepth 100000
set_option maxHeartbeats 4000000
namespace R
open PySem PySem.Spec PyProof.Rows L2 LamX NdefX LamP
open SrtO (lexB lexB_iff lexB_no)
/-- row a of the full web of 19 cells, its first j links -/
def rowF (a j : Nat) : List Pr := (List.range j).map fun (b : Nat) => ((a : Int), (a : Int) + 1 + (b : Int))
def fullL : Nat → List Pr
  | 0 => []
  | i + 1 => fullL i ++ rowF i (18 - i)
theorem fullL_succ (i : Nat) : fullL (i + 1) = fullL i ++ rowF i (18 - i) := rfl
theorem rowF_succ (a j : Nat) : rowF a (j + 1) = rowF a j ++ [((a : Int), (a : Int) + 1 + (j : Int))] := by
  unfold rowF
  rw [List.range_succ, List.map_append]
  rfl
theorem full_len : (fullL 19).length = 171 := by decide +kernel
theorem full_lk : ∀ p ∈ fullL 19, 0 ≤ p.1 ∧ p.1 < p.2 ∧ p.2 < 19 := by decide +kernel
theorem full_asc : Asc (fullL 19) := by
  unfold Asc
  decide +kernel
theorem full_valid : Valid 19 (fullL 19) := ⟨full_lk, full_asc⟩
theorem full_z (i : Nat) (h : i ≤ 19) : (fullL i).length ≤ 171 := by
  have : ∀ i, i ≤ 19 → (fullL i).length ≤ 171 := by decide +kernel
  exact this i h
theorem erase_map {α β : Type} (f : α → β) : ∀ (l : List α) (i : Nat), (l.eraseIdx i).map f = (l.map f).eraseIdx i
  | [], _ => rfl
  | _ :: _, 0 => rfl
  | x :: l, i + 1 => congrArg (f x :: ·) (erase_map f l i)
theorem valid_erase {n : Int} {ps : List Pr} (h : Valid n ps) (i : Nat) : Valid n (ps.eraseIdx i) := ⟨fun p m => h.lk p (List.mem_of_mem_eraseIdx m), h.asc.sublist (List.eraseIdx_sublist ..)⟩
section
variable {P : Program} {w : World} {K : PySem.W.Frag} {mg : Str → Option Value} {base : Heap}
def spFull (TT : List NTab) : Sp := fun vs H Q _ => ∃ so : Addr, vs = [.ref so] ∧ Src H so ∧
  RetS TT so H Q fun v H' => ∃ t l ps, v = .ref t ∧ H' t = some (.tup [.int 19, .ref l]) ∧ l ≠ so ∧ IsLinks H' l ps ∧ Valid 19 ps ∧ ps.length ≤ 160
theorem ok_full (T : Txt K mg) (TT : List NTab) : FnOk P w K mg base CX0 2 T.a_Lfull T.d_Lfull ["_law_source"] (spFull TT) := by
  refine T.F_Lfull.ok sc_Lfull (fun vs H Q E h => ?_) (fun cdv A outer s H vs Q E hr h => ?_)
  · obtain ⟨so, rfl, _⟩ := h
    rfl
  · obtain ⟨so, rfl, hs, k⟩ := h
    have nd := sc_Lfull.nd
    refine ⟨_, pss_cons (ps_set (i := 1) nd rfl (Or.inl rfl) (pe_lst pa_nil))
      (pss_cons (ps_for PassesOwn.never rfl (pi_range1 (by rfl) T.n_range (pa_cons pe_int pa_nil)) (pg_name (i := 2) nd rfl (Or.inr rfl))
        (pss_one (ps_set (i := 1) nd rfl (Or.inl rfl) (pe_op op_cat (pv 1) (pe_lc (own := [("_law_b", 4)]) (g := gName 4) (tt := tYes) rfl nd (pi_range2 (by rfl) T.n_range (pa_cons (pe_op op_add (pv 2) pe_int) (pa_cons pe_int pa_nil))) (blkOk_by (N := N_Lfull) (sc := defScope s_Lfull) (by decide +kernel))
          (fun _ _ _ _ _ => pg_name (i := 4) nd rfl (Or.inl rfl)) (fun _ _ _ _ _ => pts_nil) (fun _ _ _ _ _ => pe_tup (pa_cons (pv 2) (pa_cons (pv 4) pa_nil))))))))
      (pss_cons (ps_for PassesOwn.never rfl (pi_range1 (by rfl) T.n_range (pa_cons pe_int pa_nil)) (pg_name (i := 3) nd rfl (Or.inl rfl))
        (pss_one (ps_expr (pe_bm PySem.F.plainAttrs_list PySem.F.slot_list_pop PySem.F.type_list_pop mt_popAt (pv 1) (pa_cons (pe_call (ok_take T TT) (hr.mono (by decide)) rfl T.g_Ltake T.F_Ltake.kp T.b_Ltake .nil pass0 (pa_cons (pv 0) (pa_cons (pe_callB call_len_seq (by rfl) T.n_len PySem.boot_len (pa_cons (pv 1) pa_nil)) pa_nil))) pa_nil)))))
      (pss_one (ps_ret (pe_tup (pa_cons pe_int (pa_cons (pv 1) pa_nil))))))), ?_⟩
    refine ⟨(by show 0 ≤ sizeLine; exact Nat.zero_le _), fun D hD => ?_⟩
    have nso := src_ne hs hD
    refine ⟨19, rfl, by decide, by decide, for_range (lo := 0) (n := 19) (fun i σ H' => ∃ (l : Addr) (u v x : Option V), σ = [some (.ref so), some (.ref l), u, v, x] ∧ Ext TT (some so) H H' ∧ Src H' so ∧ H l = none ∧ l ≠ so ∧ IsLinks H' l (fullL i))
      ⟨D, none, none, none, rfl, Ext.new hD, (Ext.new (T := TT) (so := some so) hD).src hs, hD, nso, ⟨[], upd_same, .nil⟩⟩ ?_ ?_⟩
    · rintro i σ H1 hi ⟨l, u, v, x, rfl, x1, s1, nl, ls, l1⟩
      obtain ⟨xs, hx, hxs⟩ := l1
      have e0 : ((0 : Int) + (i : Int)) = (i : Int) := Int.zero_add _
      rw [e0]
      have en : (19 - ((i : Int) + 1)).toNat = 18 - i := by omega
      refine ⟨_, rfl, _, rfl, _, _, rfl, rfl, (i : Int) + 1, 19, rfl, ⟨by omega, by omega, by decide, by decide⟩, ?_⟩
      rw [en]
      intro D2 hD2
      refine lc_range (lo := (i : Int) + 1) (n := 18 - i) (fun j H' => ∃ ys, Ext TT none H1 H' ∧ H' D2 = some (.lst ys) ∧ Tps H' ys (lkD (rowF i j))) ⟨[], Ext.new hD2, upd_same, .nil⟩ ?_ ?_
      · rintro j H2 hj ⟨ys, x2, h2, hys⟩
        refine ⟨rfl, ?_⟩
        dsimp only [tYes]
        rw [if_pos rfl]
        refine ⟨_, rfl, _, rfl, (by show 2 ≤ sizeLine; decide), fun t nt => ?_⟩
        have tD : D2 ≠ t := ne_of_none h2 nt
        have h4 : upd H2 t (.tup [.int (i : Int), .int ((i : Int) + 1 + (j : Int))]) D2 = some (.lst ys) := (upd_ne tD).trans h2
        have ln := lk_len hys
        have rl : (rowF i j).length = j := by unfold rowF; rw [List.length_map, List.length_range]
        refine ⟨ys, h4, small1000 (by omega), ys ++ [.ref t], (x2.trans (Ext.new nt)).mutL hD2 h4 (fun z => nomatch z), upd_same, ?_⟩
        rw [rowF_succ, lkD_snoc]
        refine (hys.mono ((TK.new nt).trans (TK.lst h4))).append (.cons (pr_tp ?_) .nil)
        exact (upd_ne tD.symm).trans upd_same
      · rintro H2 ⟨ys, x2, h2, hys⟩
        have x02 := x1.trans x2.toS
        have lx := x2.lst hx
        have tk := x2.tk
        have z1 : xs.length + ys.length ≤ 1000 := by
          rw [lk_len hxs, lk_len hys]
          have := full_z i (by omega)
          have : (rowF i (18 - i)).length = 18 - i := by unfold rowF; rw [List.length_map, List.length_range]
          omega
        refine ⟨l, D2, xs, ys, rfl, rfl, lx, h2, Nat.le_of_lt (small1000 z1), fun p np => ?_⟩
        have x3 : Ext TT (some so) H (upd H2 p (.lst (xs ++ ys))) := x02.trans (Ext.new np)
        refine ⟨p, _, v, x, rfl, x3, x3.src hs, x02.fr _ np, src_ne (x02.src hs) np, ⟨xs ++ ys, upd_same, ?_⟩⟩
        rw [fullL_succ]
        unfold lkD
        rw [List.map_append]
        exact (hxs.mono (tk.trans (TK.new np))).append (hys.mono (TK.new np))
    · rintro σ H1 ⟨l, u, v, x, rfl, x1, s1, nl, ls, l1⟩
      refine ⟨11, rfl, by decide, by decide, for_range (lo := 0) (n := 11) (fun i σ H' => ∃ (u v x : Option V) (ps : List Pr), σ = [some (.ref so), some (.ref l), u, v, x] ∧ Ext TT (some so) H H' ∧ Src H' so ∧ IsLinks H' l ps ∧ Valid 19 ps ∧ ps.length + i = 171)
        ⟨u, v, x, _, rfl, x1, s1, l1, full_valid, full_len⟩ ?_ ?_⟩
      · rintro i σ H2 hi ⟨u, v, x, ps, rfl, x2, s2, ⟨xs, hx, hxs⟩, vd, ln⟩
        have lx := lk_len hxs
        refine ⟨_, rfl, Or.inl ⟨rfl, _, SqL.of hx⟩, _, rfl, _, rfl, l, _, rfl, .inl (SqL.of hx), so, _, rfl, s2, by omega, by omega, fun v H3 x3 s3 hv => ?_⟩
        obtain ⟨m, rfl, m0, m1⟩ := hv
        have x03 := x2.trans x3
        have hx3 := x3.lstS ls hx
        have hxs3 := hxs.mono (x3.tkS s2)
        obtain ⟨y, hy, _⟩ := atI_in m0 m1
        obtain ⟨j, q1, q2, q3, _⟩ := atI_get hy
        have so0 : some so ≠ some l := fun z => ls (Option.some.inj z).symm
        have x4 : Ext TT (some so) H (upd H3 l (.lst (xs.eraseIdx j))) := x03.mutL nl hx3 so0
        refine ⟨l, xs, m, j, y, rfl, rfl, hx3, by omega, by omega, q1, q2, _, _, _, ps.eraseIdx j, rfl, x4, x4.src hs, ⟨_, upd_same, ?_⟩, valid_erase vd j, ?_⟩
        · have e : lkD (ps.eraseIdx j) = (lkD ps).eraseIdx j := by
            unfold lkD
            exact erase_map prD ps j
          rw [e]
          exact (hxs3.mono (TK.lst hx3)).erase j
        · rw [List.length_eraseIdx, if_pos (by omega)]
          omega
      · rintro σ H2 ⟨u, v, x, ps, rfl, x2, s2, l2, vd, ln⟩
        refine ⟨_, rfl, (by show 2 ≤ sizeLine; decide), fun t nt => ?_⟩
        have x3 : Ext TT (some so) H (upd H2 t (.tup [.int 19, .ref l])) := x2.trans (Ext.new nt)
        exact k _ _ x3 (x3.src hs) ⟨t, l, ps, rfl, upd_same, ls, l2.new nt, vd, by omega⟩
end
end R
end

-- LawD
section
set_option Elab.async false
set_option linter.all false
set_option maxRecDepth 100000
set_option maxHeartbeats 4000000
namespace R
open PySem PySem.Spec PyProof.Rows L2 LamX NdefX LamP
/-! ### what a change is due to give -/
inductive Res
  | cell (a : Int) | size (z : Int) | pair (a b : Int) | many (z : Int) | web (n : Int) (ps : List Pr)
def Res.d : Res → PyData
  | .cell a => .tuple [.str "cell", .int a]
  | .size z => .tuple [.str "size", .int z]
  | .pair a b => .tuple [.str "pair", prD (a, b)]
  | .many z => .tuple [.str "many", .int z]
  | .web n ps => .tuple [.str "web", .int n, .tuple (lkD ps)]
def due (which n : Int) (ps : List Pr) (a b : Int) : Res :=
  if ¬ (0 ≤ a ∧ a < n) then .cell a
  else if which = 2 then (if n = 1 then .size 0 else .web (n - 1) (dropC a ps))
  else if ¬ (0 ≤ b ∧ b < n) then .cell b
  else if a = b ∨ ¬ (lnk a b ∈ ps ↔ which = 1) then .pair a b
  else if which = 1 then .web n (ps.filter fun p => !decide (p = lnk a b))
  else if ps.length = 160 then .many 161
  else .web n (srt (ps ++ [lnk a b]))
theorem lay_lk : ∀ ps : List Pr, PyData.canLayAll0 (lkD ps) = true
  | [] => rfl
  | p :: r => by
    show PyData.canLayAll0 (prD p :: lkD r) = true
    rw [PyData.canLayAll0, lay_pr, lay_lk r]
    rfl
theorem dep_lk : ∀ ps : List Pr, PyData.depthAll (lkD ps) ≤ 2
  | [] => Nat.zero_le _
  | p :: r => by
    show PyData.depthAll (prD p :: lkD r) ≤ 2
    rw [PyData.depthAll]
    exact Nat.max_le.mpr ⟨dep_pr p, dep_lk r⟩
theorem shaped_lkL (ps : List Pr) : SeqAt.shaped (.list (lkD ps)) = true := shaped_of (by rw [PyData.canLay0]; exact lay_lk ps) (by rw [PyData.depth]; have := dep_lk ps; omega)
theorem shaped_lkT (ps : List Pr) : SeqAt.shaped (.tuple (lkD ps)) = true := shaped_of (by rw [PyData.canLay0]; exact lay_lk ps) (by rw [PyData.depth]; have := dep_lk ps; omega)
theorem any_lk (l : Pr) : ∀ ps : List Pr, ((lkD ps).any fun z => PyData.eqv z (prD l)) = decide (l ∈ ps)
  | [] => by simp [lkD]
  | p :: r => by
    have ih := any_lk l r
    show ((prD p :: lkD r).any fun z => PyData.eqv z (prD l)) = _
    rw [List.any_cons, ih, eqv_pr]
    by_cases e : p = l
    · simp [e]
    · have e' : ¬ l = p := fun z => e z.symm
      simp [e, e']
theorem res_lay (r : Res) : r.d.canLay0 = true := by
  cases r <;> simp [Res.d, PyData.canLay0, PyData.canLayAll0, prD, lay_lk] <;> decide +kernel
theorem res_dep (r : Res) : r.d.depth ≤ 64 := by
  cases r with
  | web n ps =>
    have := dep_lk ps
    simp only [Res.d, PyData.depth, PyData.depthAll]
    omega
  | _ => simp [Res.d, PyData.depth, PyData.depthAll, prD]
theorem res_shaped (r : Res) : SeqAt.shaped r.d = true := shaped_of (res_lay r) (res_dep r)
theorem res_eqv (r : Res) : PyData.eqv r.d r.d = true := SeqAt.eqv_refl _ (res_lay r)
section
variable {P : Program} {w : World} {K : PySem.W.Frag} {mg : Str → Option Value} {base : Heap}
theorem room65 {k : Nat} {A : Around} (r : Room k A) : A.units + 65 < cLine := by have := r.un; omega
def spDue (TT : List NTab) : Sp := fun vs H Q _ => ∃ (c n a b : Int) (l : Addr) (ps : List Pr), vs = [.int c, .int n, .ref l, .int a, .int b] ∧ IsLinks H l ps ∧ ps.length ≤ 900 ∧ Ret TT H Q fun v H' => Tp H' v (due c n ps a b).d
theorem ok_due (T : Txt K mg) (TT : List NTab) : FnOk P w K mg base CX0 2 T.a_Ldue T.d_Ldue ["_law_which", "_law_size", "_law_links", "_law_a", "_law_b"] (spDue TT) := by
  refine T.F_Ldue.ok sc_Ldue (fun vs H Q E h => ?_) (fun cdv A outer s H vs Q E hr h => ?_)
  · obtain ⟨c, n, a, b, l, ps, rfl, _⟩ := h
    rfl
  · obtain ⟨c, n, a, b, l, ps, rfl, hl, hz, k⟩ := h
    have nd := sc_Ldue.nd
    refine ⟨_, pss_cons (ps_if (pt_not (pt_chain op_le op_lt pe_int (pv 3) (pv 1))) (pss_one (ps_ret (pe_tup (pa_cons pe_str (pa_cons (pv 3) pa_nil))))) pss_nil)
      (pss_cons (ps_if (pt_cmpR op_eq (pv 0) pe_int (nomark _))
        (pss_cons (ps_if (pt_cmpR op_eq (pv 1) pe_int (nomark _)) (pss_one (ps_ret (pe_tup (pa_cons pe_str (pa_cons pe_int pa_nil))))) pss_nil)
        (pss_cons (ps_setLc (i := 5) (own := [("_law_p", 6), ("_law_r", 7)]) (g := gTup K 2 (gCons (gName 6) (gCons (gName 7) gNil))) rfl nd rfl rfl (sw_true rfl rfl rfl (by decide +kernel)) (pi_list (pv 2)) (blkOk_by (N := N_Ldue) (sc := defScope s_Ldue) (by decide +kernel))
            (fun _ _ _ _ _ => pg_tup rfl (pgs_cons (pg_name (i := 6) nd rfl (Or.inl rfl)) (pgs_cons (pg_name (i := 7) nd rfl (Or.inl rfl)) pgs_nil)))
            (fun _ _ _ _ _ => pts_one (PW.pt (pw_and (pt_cmpR op_ne (pv 6) (pv 3) (nomark _)) (pw_and1 (pt_cmpR op_ne (pv 7) (pv 3) (nomark _))))))
            (fun _ _ _ _ _ => pe_tup (pa_cons (pv 6) (pa_cons (pv 7) pa_nil))))
        (pss_one (ps_ret (pe_tup (pa_cons pe_str (pa_cons (pe_op op_sub (pv 1) pe_int) (pa_cons (pe_callTy call_tuple_of (by rfl) T.n_tuple (by decide +kernel)
          (pa_cons (pe_lc (own := [("_law_p", 6), ("_law_r", 7)]) (g := gTup K 2 (gCons (gName 6) (gCons (gName 7) gNil))) (tt := tYes) rfl nd (pi_list (pv 5)) (blkOk_by (N := N_Ldue) (sc := defScope s_Ldue) (by decide +kernel))
            (fun _ _ _ _ _ => pg_tup rfl (pgs_cons (pg_name (i := 6) nd rfl (Or.inl rfl)) (pgs_cons (pg_name (i := 7) nd rfl (Or.inl rfl)) pgs_nil)))
            (fun _ _ _ _ _ => pts_nil)
            (fun _ _ _ _ _ => pe_tup (pa_cons (pe_op op_sub (pv 6) (pe_callTy call_int1 (by rfl) T.n_int (by decide +kernel) (pa_cons (pe_cmpR op_gt (pv 6) (pv 3) (nomark _)) pa_nil)))
              (pa_cons (pe_op op_sub (pv 7) (pe_callTy call_int1 (by rfl) T.n_int (by decide +kernel) (pa_cons (pe_cmpR op_gt (pv 7) (pv 3) (nomark _)) pa_nil))) pa_nil)))) pa_nil)) pa_nil)))))))) pss_nil)
      (pss_cons (ps_if (pt_not (pt_chain op_le op_lt pe_int (pv 4) (pv 1))) (pss_one (ps_ret (pe_tup (pa_cons pe_str (pa_cons (pv 4) pa_nil))))) pss_nil)
      (pss_cons (ps_if (PW.pt (pw_or (pt_cmpR op_eq (pv 3) (pv 4) (nomark _)) (pw_or1 (pt_cmpR op_ne (pe_cmpR (op_inD (room65 hr)) (pe_call (ok_link T TT) (hr.mono (by decide)) rfl T.g_Llink T.F_Llink.kp T.b_Llink .nil pass0 (pa_cons (pv 3) (pa_cons (pv 4) pa_nil))) (pv 2) (by with_unfolding_all rfl)) (pe_cmpR op_eq (pv 0) pe_int (nomark _)) (nomark _)))))
        (pss_one (ps_ret (pe_tup (pa_cons pe_str (pa_cons (pe_tup (pa_cons (pv 3) (pa_cons (pv 4) pa_nil))) pa_nil))))) pss_nil)
      (pss_cons (ps_if (pt_cmpR op_eq (pv 0) pe_int (nomark _)) (pss_one (ps_ret (pe_tup (pa_cons pe_str (pa_cons (pv 1) (pa_cons (pe_callTy call_tuple_of (by rfl) T.n_tuple (by decide +kernel)
          (pa_cons (pe_lc (own := [("_law_link_here", 8)]) (g := gName 8) rfl nd (pi_list (pv 2)) (blkOk_by (N := N_Ldue) (sc := defScope s_Ldue) (by decide +kernel)) (fun _ _ _ _ _ => pg_name (i := 8) nd rfl (Or.inl rfl))
            (fun _ _ _ _ _ => pts_one (pt_cmpR (op_neDK K hr.units) (pv 8) (pe_call (ok_link T TT) (hr.mono (by decide)) rfl T.g_Llink T.F_Llink.kp T.b_Llink .nil pass0 (pa_cons (pv 3) (pa_cons (pv 4) pa_nil))) (nomark _)))
            (fun _ _ _ _ _ => pv 8)) pa_nil)) pa_nil)))))) pss_nil)
      (pss_cons (ps_if (pt_cmpR op_eq (pe_callB call_len_seq (by rfl) T.n_len PySem.boot_len (pa_cons (pv 2) pa_nil)) pe_int (nomark _)) (pss_one (ps_ret (pe_tup (pa_cons pe_str (pa_cons pe_int pa_nil))))) pss_nil)
      (pss_one (ps_ret (pe_tup (pa_cons pe_str (pa_cons (pv 1) (pa_cons (pe_callTy call_tuple_of (by rfl) T.n_tuple (by decide +kernel) (pa_cons (pe_callB cr_sortedPO (by rfl) T.n_sorted (by decide +kernel)
          (pa_cons (pe_op op_cat (pv 2) (pe_lst (pa_cons (pe_call (ok_link T TT) (hr.mono (by decide)) rfl T.g_Llink T.F_Llink.kp T.b_Llink .nil pass0 (pa_cons (pv 3) (pa_cons (pv 4) pa_nil))) pa_nil))) pa_nil)) pa_nil)) pa_nil))))))))))), ?_⟩
    obtain ⟨xs, hx, hxs⟩ := hl
    have lx := lk_len hxs
    have two : ∀ {r : Res} {x y : V} {d e : PyData} {H1 : Hp} {p : Addr}, due c n ps a b = r → r.d = .tuple [d, e] → Ext TT none H H1 → H1 p = none → Tp H1 x d → Tp H1 y e → Q (.ref p) (upd H1 p (.tup [x, y])) := fun hr' hd x1 np h1 h2 => by
      refine k _ _ (x1.trans (Ext.new np)) ?_
      rw [hr', hd]
      exact .tup upd_same (.cons (h1.mono (TK.new np)) (.cons (h2.mono (TK.new np)) .nil))
    have three : ∀ {r : Res} {x y z : V} {d e f : PyData} {H1 : Hp} {p : Addr}, due c n ps a b = r → r.d = .tuple [d, e, f] → Ext TT none H H1 → H1 p = none → Tp H1 x d → Tp H1 y e → Tp H1 z f → Q (.ref p) (upd H1 p (.tup [x, y, z])) := fun hr' hd x1 np h1 h2 h3 => by
      refine k _ _ (x1.trans (Ext.new np)) ?_
      rw [hr', hd]
      exact .tup upd_same (.cons (h1.mono (TK.new np)) (.cons (h2.mono (TK.new np)) (.cons (h3.mono (TK.new np)) .nil)))
    have s2 : 2 ≤ sizeLine := by decide
    have s3 : 3 ≤ sizeLine := by decide
    have bada : ¬ (0 ≤ a ∧ a < n) → ∃ v, some (some (V.int a)) = some (some v) ∧ 2 ≤ sizeLine ∧ ∀ p, H p = none → Q (.ref p) (upd H p (.tup [.str "cell", v])) := fun ha =>
      ⟨_, rfl, s2, fun p np => two (r := .cell a) (by unfold due; rw [if_pos ha]) rfl (Ext.refl ..) np (.str _) (.int _)⟩
    refine ⟨_, rfl, _, _, rfl, rfl, _, rfl, ?_⟩
    refine iteB (fun h0 => ?_) (fun h0 => ?_)
    rotate_left
    · have ha : ¬ (0 ≤ a ∧ a < n) := by
        have q := of_decide_eq_false h0
        omega
      refine ⟨_, rfl, ?_⟩
      refine iteT ?_
      exact bada ha
    refine ⟨_, rfl, _, _, rfl, rfl, _, rfl, ?_⟩
    refine iteB (fun h => ?_) (fun h => ?_)
    · have ha : ¬ (0 ≤ a ∧ a < n) := by
        have q : decide (a < n) = false := by simpa using h
        have q := of_decide_eq_false q
        omega
      exact bada ha
    have ha : 0 ≤ a ∧ a < n := by
      have q0 := of_decide_eq_true h0
      have q : decide (a < n) = true := by simpa using h
      have q := of_decide_eq_true q
      omega
    refine ⟨_, rfl, rfl, _, rfl, ?_⟩
    refine iteB (fun h => ?_) (fun h => ?_)
    · have hc : c = 2 := by simpa using h
      refine ⟨_, rfl, rfl, _, rfl, ?_⟩
      refine iteB (fun h => ?_) (fun h => ?_)
      · have hn : n = 1 := by simpa using h
        exact ⟨s2, fun p np => two (r := .size 0) (by unfold due; rw [if_neg (not_not_intro ha), if_pos hc, if_pos hn]) rfl (Ext.refl ..) np (.str _) (.int _)⟩
      · have hn : n ≠ 1 := by simpa using h
        have is : due c n ps a b = .web (n - 1) (dropC a ps) := by unfold due; rw [if_neg (not_not_intro ha), if_pos hc, if_neg hn]
        refine ⟨_, rfl, l, rfl, ⟨_, SqL.of hx⟩, fun D hD => ?_⟩
        refine lc_list (xs := xs) (fun i H' => ∃ ys : List V, Ext TT none H H' ∧ H' D = some (.lst ys) ∧ Tps H' ys (lkD ((ps.take i).filter fun p => decide (p.1 ≠ a) && decide (p.2 ≠ a)))) ⟨[], Ext.new hD, upd_same, .nil⟩ (fun i H' _ ⟨ys, x, _⟩ => SqL.of (x.lst hx)) ?_ ?_
        · rintro i x H3 hi ⟨ys, x3, h3, hys⟩
          obtain ⟨d, hdi, hdz⟩ := hxs.get hi
          unfold lkD at hdi
          rw [List.getElem?_map] at hdi
          cases ep : ps[i]? with
          | none => rw [ep] at hdi; cases hdi
          | some q =>
            rw [ep] at hdi
            cases hdi
            obtain ⟨az, rfl, haz⟩ := tp_pr hdz
            have snoc := take_snoc ep
            refine ⟨az, _, rfl, SqT.of (x3.tup haz), rfl, _, _, rfl, _, _, rfl, rfl, ?_⟩
            refine ⟨rfl, ?_⟩
            have yl : ys.length ≤ 900 := by
              rw [lk_len hys]
              refine Nat.le_trans (List.length_filter_le _ _) ?_
              rw [List.length_take]
              omega
            have skip : (decide (q.1 ≠ a) && decide (q.2 ≠ a)) = false → ∃ ys : List V, Ext TT none H H3 ∧ H3 D = some (.lst ys) ∧ Tps H3 ys (lkD ((ps.take (i + 1)).filter fun p => decide (p.1 ≠ a) && decide (p.2 ≠ a))) := fun no => by
              refine ⟨ys, x3, h3, ?_⟩
              rw [snoc, List.filter_append, List.filter_cons, if_neg (by rw [no]; decide), List.filter_nil, List.append_nil]
              exact hys
            refine ⟨_, rfl, _, rfl, rfl, _, rfl, ?_⟩
            refine iteB (fun q1 => ?_) (fun q1 => ?_)
            · have q1 : q.1 ≠ a := by simpa using q1
              refine ⟨_, rfl, _, rfl, rfl, _, rfl, ?_⟩
              refine iteB (fun q2 => ?_) (fun q2 => ?_)
              · have q2 : q.2 ≠ a := by simpa using q2
                refine ⟨_, rfl, _, rfl, s2, fun t nt => ?_⟩
                have tD : D ≠ t := ne_of_none h3 nt
                have h4 : upd H3 t (.tup [.int q.1, .int q.2]) D = some (.lst ys) := (upd_ne tD).trans h3
                refine ⟨ys, h4, small1000 (by omega), ys ++ [.ref t], (x3.trans (Ext.new nt)).mutL hD h4 (fun z => nomatch z), upd_same, ?_⟩
                rw [snoc, List.filter_append, List.filter_cons, if_pos (by simp [q1, q2]), List.filter_nil, lkD_snoc]
                refine (hys.mono ((TK.new nt).trans (TK.lst h4))).append (.cons (pr_tp ?_) .nil)
                exact (upd_ne tD.symm).trans upd_same
              · have q2 : q.2 = a := by simpa using q2
                exact skip (by simp [q2])
            · have q1 : q.1 = a := by simpa using q1
              exact iteF (skip (by simp [q1]))
        · rintro H1 ⟨ys, x1, h1, hys⟩
          rw [lx, List.take_length] at hys
          have is' : dropC a ps = (ps.filter fun p => decide (p.1 ≠ a) && decide (p.2 ≠ a)).map fun p => (dn a p.1, dn a p.2) := rfl
          have kl : (ps.filter fun p => decide (p.1 ≠ a) && decide (p.2 ≠ a)).length ≤ 900 := Nat.le_trans (List.length_filter_le _ _) hz
          generalize (ps.filter fun p => decide (p.1 ≠ a) && decide (p.2 ≠ a)) = kept at hys is' kl
          have ly := lk_len hys
          refine ⟨_, rfl, _, _, rfl, rfl, _, rfl, D, rfl, ⟨_, SqL.of h1⟩, fun D2 hD2 => ?_⟩
          refine lc_list (xs := ys) (fun i H' => ∃ zs : List V, Ext TT none H1 H' ∧ H' D2 = some (.lst zs) ∧ Tps H' zs (lkD ((kept.take i).map fun p => (dn a p.1, dn a p.2)))) ⟨[], Ext.new hD2, upd_same, .nil⟩ (fun i H' _ ⟨zs, x, _⟩ => SqL.of (x.lst h1)) ?_ ?_
          · rintro i x H3 hi ⟨zs, x3, h3, hzs⟩
            obtain ⟨d, hdi, hdz⟩ := hys.get hi
            unfold lkD at hdi
            rw [List.getElem?_map] at hdi
            cases ep : kept[i]? with
            | none => rw [ep] at hdi; cases hdi
            | some q =>
              rw [ep] at hdi
              cases hdi
              obtain ⟨az, rfl, haz⟩ := tp_pr hdz
              have snoc := take_snoc ep
              refine ⟨az, _, rfl, SqT.of (x3.tup haz), rfl, _, _, rfl, _, _, rfl, rfl, ?_⟩
              refine ⟨rfl, ?_⟩
              dsimp only [tYes]
              rw [if_pos rfl]
              have zl : zs.length ≤ 900 := by
                rw [lk_len hzs, List.length_map, List.length_take]
                omega
              have e1 : q.1 - (if decide (a < q.1) = true then 1 else 0) = dn a q.1 := by unfold dn; simp
              have e2 : q.2 - (if decide (a < q.2) = true then 1 else 0) = dn a q.2 := by unfold dn; simp
              refine ⟨_, rfl, _, rfl, _, rfl, _, _, rfl, rfl, .inr ⟨_, rfl, _, _, rfl, rfl, _, rfl, _, rfl, _, rfl, _, _, rfl, rfl, .inr ⟨_, rfl, _, _, rfl, rfl, s2, fun t nt => ?_⟩⟩⟩
              dsimp only
              rw [e1, e2]
              have tD : D2 ≠ t := ne_of_none h3 nt
              have h4 : upd H3 t (.tup [.int (dn a q.1), .int (dn a q.2)]) D2 = some (.lst zs) := (upd_ne tD).trans h3
              refine ⟨zs, h4, small1000 (by omega), zs ++ [.ref t], (x3.trans (Ext.new nt)).mutL hD2 h4 (fun z => nomatch z), upd_same, ?_⟩
              rw [snoc, List.map_append, List.map_singleton, lkD_snoc]
              refine (hzs.mono ((TK.new nt).trans (TK.lst h4))).append (.cons (pr_tp ?_) .nil)
              exact (upd_ne tD.symm).trans upd_same
          · rintro H3 ⟨zs, x3, h3, hzs⟩
            rw [ly, List.take_length, ← is'] at hzs
            refine ⟨D2, zs, rfl, .inl ⟨SqL.of h3, fun t nt => ⟨s3, fun p np => ?_⟩⟩⟩
            have x4 := (x1.trans x3).trans (Ext.new (o := .tup zs) nt)
            exact three is rfl x4 np (.str _) (.int _) (.tup upd_same (hzs.mono (TK.new nt)))
    have hc : c ≠ 2 := by simpa using h
    have badb : ¬ (0 ≤ b ∧ b < n) → ∃ v, some (some (V.int b)) = some (some v) ∧ 2 ≤ sizeLine ∧ ∀ p, H p = none → Q (.ref p) (upd H p (.tup [.str "cell", v])) := fun hb =>
      ⟨_, rfl, s2, fun p np => two (r := .cell b) (by unfold due; rw [if_neg (not_not_intro ha), if_neg hc, if_pos hb]) rfl (Ext.refl ..) np (.str _) (.int _)⟩
    refine ⟨_, rfl, _, _, rfl, rfl, _, rfl, ?_⟩
    refine iteB (fun h0 => ?_) (fun h0 => ?_)
    rotate_left
    · have ha : ¬ (0 ≤ b ∧ b < n) := by
        have q := of_decide_eq_false h0
        omega
      refine ⟨_, rfl, ?_⟩
      refine iteT ?_
      exact badb ha
    refine ⟨_, rfl, _, _, rfl, rfl, _, rfl, ?_⟩
    refine iteB (fun h => ?_) (fun h => ?_)
    · have ha : ¬ (0 ≤ b ∧ b < n) := by
        have q : decide (b < n) = false := by simpa using h
        have q := of_decide_eq_false q
        omega
      exact badb ha
    have hb : 0 ≤ b ∧ b < n := by
      have q0 := of_decide_eq_true h0
      have q : decide (b < n) = true := by simpa using h
      have q := of_decide_eq_true q
      omega
    refine ⟨_, rfl, _, rfl, rfl, _, rfl, ?_⟩
    have done : (a = b ∨ ¬ (lnk a b ∈ ps ↔ c = 1)) → ∀ {H1 : Hp}, Ext TT none H H1 → (∃ v, some (some (V.int a)) = some (some v) ∧ ∃ u, some (some (V.int b)) = some (some u) ∧ 2 ≤ sizeLine ∧ ∀ p, H1 p = none → 2 ≤ sizeLine ∧ ∀ r, upd H1 p (.tup [v, u]) r = none → Q (.ref r) (upd (upd H1 p (.tup [v, u])) r (.tup [.str "pair", .ref p]))) := fun q {H1} x1 => by
      refine ⟨_, rfl, _, rfl, s2, fun p np => ⟨s2, fun r nr => ?_⟩⟩
      exact two (r := .pair a b) (by unfold due; rw [if_neg (not_not_intro ha), if_neg hc, if_neg (not_not_intro hb), if_pos q]) rfl (x1.trans (Ext.new np)) nr (.str _) (pr_tp upd_same)
    refine iteB (fun h => ?_) (fun h => ?_)
    · have e : a = b := by simpa using h
      exact iteT (done (.inl e) (Ext.refl ..))
    have hab : a ≠ b := by simpa using h
    refine ⟨_, rfl, _, rfl, a, b, rfl, fun v H1 x1 hv => ?_⟩
    obtain ⟨t, rfl, ht⟩ := hv
    refine ⟨_, rfl, prD (lnk a b), lkD ps, (pr_tp ht).dp, .lst (SqL.of (x1.lst hx)) (hxs.mono x1.tk).dp, shaped_pr _, shaped_lkL _, _, rfl, rfl, rfl, _, rfl, ?_⟩
    rw [any_lk]
    refine iteB (fun h => ?_) (fun h => ?_)
    · have q : ¬ (lnk a b ∈ ps ↔ c = 1) := by simpa using h
      exact done (.inr q) x1
    have hq : (lnk a b ∈ ps ↔ c = 1) := by simpa using h
    have no : ¬ (a = b ∨ ¬ (lnk a b ∈ ps ↔ c = 1)) := fun z => z.elim hab fun z => z hq
    refine ⟨_, rfl, rfl, _, rfl, ?_⟩
    refine iteB (fun h => ?_) (fun h => ?_)
    · have h1 : c = 1 := by simpa using h
      have is : due c n ps a b = .web n (ps.filter fun p => !decide (p = lnk a b)) := by unfold due; rw [if_neg (not_not_intro ha), if_neg hc, if_neg (not_not_intro hb), if_neg no, if_pos h1]
      refine ⟨_, rfl, _, rfl, l, rfl, ⟨_, SqL.of (x1.lst hx)⟩, fun D hD => ?_⟩
      have hxs1 := hxs.mono x1.tk
      refine lc_list (xs := xs) (fun i H' => ∃ ys : List V, Ext TT none H1 H' ∧ H' D = some (.lst ys) ∧ Tps H' ys (lkD ((ps.take i).filter fun p => !decide (p = lnk a b)))) ⟨[], Ext.new hD, upd_same, .nil⟩ (fun i H' _ ⟨ys, x, _⟩ => SqL.of (x.lst (x1.lst hx))) ?_ ?_
      · rintro i x H4 hi ⟨ys, x4, h4, hys⟩
        obtain ⟨d, hdi, hdz⟩ := hxs1.get hi
        unfold lkD at hdi
        rw [List.getElem?_map] at hdi
        cases ep : ps[i]? with
        | none => rw [ep] at hdi; cases hdi
        | some q =>
          rw [ep] at hdi
          cases hdi
          refine ⟨rfl, ?_⟩
          refine ⟨_, rfl, _, rfl, _, rfl, a, b, rfl, fun v H5 x5 hv => ?_⟩
          obtain ⟨t5, rfl, h5⟩ := hv
          have x45 := x4.trans x5
          have hys5 := hys.mono x5.tk
          refine ⟨prD q, prD (lnk a b), (hdz.mono x45.tk).dp, (pr_tp h5).dp, shaped_pr _, shaped_pr _, _, rfl, ?_⟩
          rw [eqv_pr]
          have h5D := x5.lst h4
          have yl : ys.length ≤ ps.length := by
            rw [lk_len hys]
            exact Nat.le_trans (List.length_filter_le _ _) (by rw [List.length_take]; omega)
          refine iteB (fun hc => ?_) (fun hc => ?_)
          · refine ⟨_, rfl, ys, h5D, small1000 (by omega), ys ++ [x], x45.mutL hD h5D (fun z => nomatch z), upd_same, ?_⟩
            rw [take_snoc ep, List.filter_append, List.filter_cons, if_pos hc, List.filter_nil, lkD_snoc]
            exact (hys5.mono (TK.lst h5D)).append (.cons ((hdz.mono x45.tk).mono (TK.lst h5D)) .nil)
          · refine ⟨ys, x45, h5D, ?_⟩
            rw [take_snoc ep, List.filter_append, List.filter_cons, if_neg (by rw [hc]; decide), List.filter_nil, List.append_nil]
            exact hys5
      · rintro H4 ⟨ys, x4, h4, hys⟩
        rw [lx, List.take_length] at hys
        refine ⟨D, ys, rfl, .inl ⟨SqL.of h4, fun t nt => ⟨s3, fun p np => ?_⟩⟩⟩
        have x5 := (x1.trans x4).trans (Ext.new (o := .tup ys) nt)
        exact three is rfl x5 np (.str _) (.int _) (.tup upd_same (hys.mono (TK.new nt)))
    have h1 : c ≠ 1 := by simpa using h
    refine ⟨_, rfl, l, _, rfl, .inl (SqL.of (x1.lst hx)), rfl, _, rfl, ?_⟩
    refine iteB (fun h => ?_) (fun h => ?_)
    · have h2 : ps.length = 160 := by
        have q : ((xs.length : Nat) : Int) = 160 := by simpa using h
        omega
      exact ⟨s2, fun p np => two (r := .many 161) (by unfold due; rw [if_neg (not_not_intro ha), if_neg hc, if_neg (not_not_intro hb), if_neg no, if_neg h1, if_pos h2]) rfl x1 np (.str _) (.int _)⟩
    · have h2 : ps.length ≠ 160 := fun z => by
        have q : ¬ ((xs.length : Nat) : Int) = 160 := by simpa using h
        omega
      have is : due c n ps a b = .web n (srt (ps ++ [lnk a b])) := by unfold due; rw [if_neg (not_not_intro ha), if_neg hc, if_neg (not_not_intro hb), if_neg no, if_neg h1, if_neg h2]
      refine ⟨_, rfl, _, rfl, _, rfl, _, rfl, a, b, rfl, fun v H2 x2 hv => ⟨(by show 1 ≤ sizeLine; decide), fun p1 n1 => ?_⟩⟩
      obtain ⟨t2, rfl, h2t⟩ := hv
      have x12 := x1.trans x2
      have hx2 := x12.lst hx
      have pl : l ≠ p1 := ne_of_none hx2 n1
      have hx3 : upd H2 p1 (.lst [.ref t2]) l = some (.lst xs) := (upd_ne pl).trans hx2
      have x13 := x12.trans (Ext.new (o := .lst [.ref t2]) n1)
      refine ⟨l, p1, xs, [.ref t2], rfl, rfl, hx3, upd_same, Nat.le_of_lt (small1000 (by rw [List.length_singleton]; omega)), fun p2 n2 => ?_⟩
      have x14 := x13.trans (Ext.new (o := .lst (xs ++ [.ref t2])) n2)
      have tk4 := ((TK.new (o := .lst [.ref t2]) n1).trans (TK.new (o := .lst (xs ++ [.ref t2])) n2))
      have hall : Tps (upd (upd H2 p1 (.lst [.ref t2])) p2 (.lst (xs ++ [.ref t2]))) (xs ++ [.ref t2]) (lkD (ps ++ [lnk a b])) := by
        rw [lkD_snoc]
        exact (hxs.mono x14.tk).append (.cons ((pr_tp h2t).mono tk4) .nil)
      refine ⟨p2, _, prOf _, rfl, SqL.of upd_same, prs_each hall, fun ys p3 q1 q2 n3 => ?_⟩
      have hs := sorted_is hall q1 q2
      have x15 := x14.trans (Ext.new (o := .lst ys) n3)
      refine ⟨p3, ys, rfl, .inl ⟨SqL.of upd_same, fun t nt => ⟨s3, fun p np => ?_⟩⟩⟩
      have x16 := x15.trans (Ext.new (o := .tup ys) nt)
      exact three is rfl x16 np (.str _) (.int _) (.tup upd_same (hs.mono ((TK.new n3).trans (TK.new nt))))
end
end R
end

-- TryA
section
set_option Elab.async false
set_option linter.all false
set_option maxRecDepth 100000
set_option maxHeartbeats 4000000
/-! TryA: try with several clauses `except C as n`, all with the same name n (place i). -/
namespace TryA
open PySem PySem.Spec PyProof.Rows L2
abbrev Suite := Addr → Value → Option Addr → TS
/-- behind a clause the name is gone -/
def gone (i : Nat) (D : Ends) : Ends := ⟨fun σ H => D.nx (σ.set i none) H, D.rt, fun σ H => D.bk (σ.set i none) H, fun σ H => D.ct (σ.set i none) H⟩
def wClauses (K : PySem.W.Frag) (i : Nat) (Wout : WX) (D : Ends) : List (Value × Suite) → WX
  | [] => Wout
  | k :: r => fun cls d σ H => ∃ b, PySem.W.exmOne K cls k.1 = some b ∧ (b = true → ∀ a, H a = none → k.2 a cls d (gone i D) (σ.set i (some (.ref a))) H) ∧ (b = false → wClauses K i Wout D r cls d σ H)
inductive Clauses (X : Cx) (n : Str) : List ExceptHandler → List (Value × Suite) → Prop
  | none : Clauses X n [] []
  | one {x : Str} {c : Value} {ts : Suite} {b₀ : Stmt} {suite : List Stmt} {np hp : Pos} {hds : List ExceptHandler} {l : List (Value × Suite)} (names : Names X x c)
      (reads : ∀ a oe cls d pn, Zc cls d oe → (∃ vs, oe.data = .fields vs) → PSs (X.suite a ((a, oe) :: pn)) (b₀ :: suite) (ts a cls d)) (rest : Clauses X n hds l) : Clauses X n (.ExceptHandler (some (.Name x np)) (some n) (b₀ :: suite) hp :: hds) ((c, ts) :: l)
section
variable {X : Cx} {i : Nat} {n : Str} {Wout : WX} {pins : List (Addr × Obj)} {σ : L2.St} {H : Hp} {S : Shared} {D : Ends} {a : Addr} {cls : Value} {d : Option Addr}
/-- the clauses, one after the other, in the state S in which the exception at a is caught -/
theorem clauses_run (ok : X.Ok) (hN : X.N.Nodup) (hi : X.N[i]? = some n) (hln : X.env.kindOf n = some .local) (isNew : H a = none)
    (look : ∀ {c b}, PySem.W.exmOne X.K cls c = some b → PySem.W.Looks (model X.prog X.w) S.heap (excMatches (.ref a) c) b)
    (name : ∀ {x c np}, Names X x c → ∀ {Q : Value → Shared → Prop} {E : Value → Shared → Prop}, Q c S → wpAny (model X.prog X.w) (X.A.mark (some (.ref a))) (eval (.Name x np) X.env) Q E S)
    (enter : ∀ {A : Around} {E : Value → Shared → Prop} {Q : Unit → Shared → Prop}, (∀ oe s4, Zc cls d oe → (∃ vs, oe.data = .fields vs) → Inv (X.suite a ((a, oe) :: (X.pn ++ pins))) [] σ H s4 → Q () s4) → wpAny (model X.prog X.w) A (setFlight (.ref a) none) Q E S)
    (out : Wout cls d σ H → wpAny (model X.prog X.w) X.A (handleBy (.ref a) X.env []) (SP X pins D) X.xe S) :
    ∀ {hds l}, Clauses X n hds l → wClauses X.K i Wout D l cls d σ H → wpAny (model X.prog X.w) X.A (handleBy (.ref a) X.env hds) (SP X pins D) X.xe S := by
  intro hds l cs
  induction cs with
  | none => exact out
  | one names reads _ next =>
    rintro ⟨b, is, yes, no⟩
    refine wpAny_handleBy_cons (codeAny_handlers_test (name names ((look is).here ?_))) (fun z => nomatch z)
    cases b
    · exact next (no rfl)
    · refine codeAny_handlers_suite_as (enter fun oe s4 hz hf I4 => ?_)
      refine store_ok (X := X.suite a ((a, oe) :: (X.pn ++ pins))) (v := .ref a) I4 hN hi (.inl hln) rfl (fun s5 I5 => ?_) (.inr hln)
      refine wpAny_mono ((reads a oe cls d (X.pn ++ pins) hz hf).run [] s5 _ H _ I5 (yes rfl a isNew)) (fun f s6 left => ?_) fun _ _ z => z.elim
      cases f
      case ret =>
        obtain ⟨v, σ6, H6, I6, r, q⟩ := left
        exact gone_ok (I6.unsuite ok) hN hi hln fun s7 I7 => ⟨v, _, H6, I7, r, q⟩
      all_goals
        obtain ⟨σ6, H6, I6, q⟩ := left
        exact gone_ok (I6.unsuite ok) hN hi hln fun s7 I7 => ⟨_, H6, I7, q⟩
theorem ps_try_clauses {body : List Stmt} {h₀ : ExceptHandler} {hds : List ExceptHandler} {l : List (Value × Suite)} {pos : Pos} {tb : WX → TS} (hs : X.stack = X.env :: X.outer) (hf : X.env.frame = some X.env.locals) (hN : X.N.Nodup) (hi : X.N[i]? = some n) (hln : X.env.kindOf n = some .local)
    (tk : Takes X Wout) (hb : ∀ (W : WX) (pn : List (Addr × Obj)) (xe : Value → Shared → Prop), Takes (X.tr pn xe) W → PassesOwn (model X.prog X.w) X.A X.env xe → PSs (X.tr pn xe) body (tb W)) (cs : Clauses X n (h₀ :: hds) l) :
    PS X (.Try body (h₀ :: hds) [] [] pos) (fun D σ H => tb (wClauses X.K i Wout D l) D σ H) := by
  constructor
  intro pins s σ H D I h
  have ok := I.ok
  have frames : X.A.frames = some (X.env :: X.outer) := ok.frames.trans (congrArg some hs)
  let caught : Value → Shared → Prop := fun e s₁ => wpAny (model X.prog X.w) X.A (noteFrame e X.env) (fun _ s₂ => wpAny (model X.prog X.w) X.A (setFlight e none) (fun _ s₃ => wpAny (model X.prog X.w) X.A (handleBy e X.env (h₀ :: hds)) (SP X pins D) X.xe s₃) X.xe s₂) X.xe s₁
  have run := (hb (wClauses X.K i Wout D l) (X.pn ++ pins) caught ?taken PassesOwn.looking).run [] s σ H D (I.toTry _) h
  · refine wpAny_Try_except (wpAny_mono run (fun f s1 left => ?_) fun _ _ z => z)
    cases f
    case ret =>
      obtain ⟨v, σ1, H1, I1, r, q⟩ := left
      exact ⟨v, σ1, H1, I1.ofTry ok, r, q⟩
    case next =>
      obtain ⟨σ1, H1, I1, q⟩ := left
      exact wpAny_execs_nil ⟨σ1, H1, I1.ofTry ok, q⟩
    all_goals
      obtain ⟨σ1, H1, I1, q⟩ := left
      exact ⟨σ1, H1, I1.ofTry ok, q⟩
  case taken =>
    rintro e s' ⟨a, B, sI, pins', σ', H', cls, d, rfl, J', nb, up, sky, isNew, os, bare, wish⟩
    have J : Inv X pins σ' H' sI := J'.ofTry ok
    rw [show (X.tr (X.pn ++ pins) caught).stack = X.env :: X.outer from hs] at sky
    refine Sky.land Zc.steady frames hf sky fun h3 fly up3 => ?_
    have J3 := J.landed (s' := { s' with heap := h3 }) nb fly.1 (up.trans up3) os bare
    obtain ⟨oe, vs, at_, hz, hd⟩ := fly.there
    have apart : a ∉ frs (X.env :: X.outer) := fun m => by
      obtain ⟨_, o, e1, hno⟩ := fly.2.2.1.mem m
      cases at_.symm.trans e1
      exact hno _ hd
    have notL : a ≠ X.env.locals := fun z => apart (List.mem_filterMap.mpr ⟨X.env, List.mem_cons_self, z ▸ hf⟩)
    have notF : a ∉ X.fs := fun m => by
      obtain ⟨e, he, q⟩ := List.mem_filterMap.mp m
      exact apart (List.mem_filterMap.mpr ⟨e, List.mem_cons_of_mem _ he, q⟩)
    have S3 := J3.suite at_ hd isNew notL notF
    refine clauses_run ok hN hi hln isNew (fun is => ?_) (fun names Q E q => ?_) (fun k => ?_) (fun q => ?_) cs wish
    · exact PySem.W.exm_one J3.kIn (fun _ _ _ _ k q => wpAny_typeOf_ref (k _ _ at_) (by rw [hz.1]; exact q)) is
    · rcases names with ⟨g, dbg, m | ⟨m, v, nn⟩⟩
      · exact ld_glob (X := X.suite a ((a, oe) :: (X.pn ++ pins))) S3 g m q dbg
      · exact ld_blt (X := X.suite a ((a, oe) :: (X.pn ++ pins))) S3 g m v q nn dbg
    · refine HandSPX.lands_againZ fly fun h4 fly4 up4 => ?_
      obtain ⟨oe4, vs4, at4, hz4, hd4⟩ := fly4.there
      have J4 : Inv X pins σ' H' { s' with heap := h4 } := J.landed nb fly4.1 ((up.trans up3).trans up4) os bare
      exact k oe4 _ hz4 ⟨_, hd4⟩ (J4.suite at4 hd4 isNew notL notF)
    · obtain ⟨_, _, _, o, fs, T, _, _, at2, _, hd2, first, _⟩ := id fly
      refine wpAny_handleBy_nil ?_
      unfold PySem.passOn
      refine wpAny_bind (wpAny_field at2 hd2 first ?_)
      rw [if_neg (show ¬ ((Value.ref T == Value.none) = true) from by simp)]
      have last : wpAny (model X.prog X.w) X.A (setFlight (.ref a) X.env.frame) (fun _ s4 => wpAny (model X.prog X.w) X.A (throw (.ref a) : Sem Flow) (SP X pins D) X.xe s4) X.xe { s' with heap := h3 } := by
        rw [hf]
        refine HandSPX.setFlight_upZ fly fun h4 h4sky up4 => wpAny_throw (tk _ _ ?_)
        exact ⟨a, B, sI, pins, σ', H', cls, d, rfl, J, nb, (up.trans up3).trans up4, .inr (.inr (hs.symm ▸ h4sky)), isNew, os, bare, q⟩
      first
        | exact wpAny_bind (wpAny_pure (wpAny_bind last))
        | exact wpAny_bind last
end
end TryA
end

-- LawE
section
set_option Elab.async false
set_option linter.all false
set_option maxRecDepth 100000
set_option maxHeartbeats 4000000
namespace R
open PySem PySem.Spec PyProof.Rows L2 LamX NdefX LamP TryA
section
variable {P : Program} {w : World} {K : PySem.W.Frag} {mg : Str → Option Value} {base : Heap}
/-- a change comes to r -/
def Wish (T : Txt K mg) (TT : List NTab) (H : Hp) (Q : VK) (E : XK) : Res → Prop
  | .cell x => Rz TT E H T.C_BadCell fun v _ => v = .int x
  | .size z => Rz TT E H T.C_BadSize fun v _ => v = .int z
  | .pair x y => PairR T TT H E x y
  | .many z => Rz TT E H T.C_TooMany fun v _ => v = .int z
  | .web n ps => RetWeb T TT H Q n ps
def spChanged (T : Txt K mg) (TT : List NTab) : Sp := fun vs H Q E => ∃ (c n a b : Int) (p lt : Addr) (ps : List Pr), vs = [.int c, .ref p, .int a, .int b] ∧ (c = 0 ∨ c = 1 ∨ c = 2) ∧ WebIn T TT H p n lt ps ∧ Wish T TT H Q E (due c n ps a b)
theorem ok_changed (T : Txt K mg) (TB : TabB base mg T.c_check_links T.P_check_links) : FnOk P w K mg base (L2.CX P w) 11 T.a_Lchanged T.d_Lchanged ["_law_which", "_law_web", "_law_a", "_law_b"] (spChanged T (TTof T)) := by
  refine T.F_Lchanged.okX sc_Lchanged (fun vs H Q E h => ?_) (fun cdv A outer s H vs Q E hr h => ?_)
  · obtain ⟨c, n, a, b, p, lt, ps, rfl, _⟩ := h
    rfl
  · obtain ⟨c, n, a, b, p, lt, ps, rfl, hc, hw, k⟩ := h
    have nd := sc_Lchanged.nd
    have px : Passes (L2.CX P w) (cxOf (L2.CX P w) P w K mg base N_Lchanged "_law_changed" (defScope s_Lchanged) T.a_Lchanged cdv A outer s H E) E := passes_call (takes_of rfl rfl rfl rfl) (fun _ _ _ _ h => h)
    refine ⟨_, pss_cons (ps_if (pt_cmpR op_eq (pv 0) pe_int (nomark _)) (pss_one (ps_ret (pe_call (ok_with_link T TB) (hr.mono (by decide)) rfl T.g_with_link T.F_with_link.kp T.b_with_link .nil px (pa_cons (pv 1) (pa_cons (pv 2) (pa_cons (pv 3) pa_nil)))))) pss_nil)
      (pss_cons (ps_if (pt_cmpR op_eq (pv 0) pe_int (nomark _)) (pss_one (ps_ret (pe_call (ok_without_link T TB) (hr.mono (by decide)) rfl T.g_without_link T.F_without_link.kp T.b_without_link .nil px (pa_cons (pv 1) (pa_cons (pv 2) (pa_cons (pv 3) pa_nil)))))) pss_nil)
      (pss_one (ps_ret (pe_call (ok_without_cell T TB) hr rfl T.g_without_cell T.F_without_cell.kp T.b_without_cell .nil px (pa_cons (pv 1) (pa_cons (pv 2) pa_nil)))))), ?_⟩
    unfold due at k
    refine ⟨_, rfl, rfl, _, rfl, ?_⟩
    refine iteB (fun h => ?_) (fun h => ?_)
    · have h0 : c = 0 := by simpa using h
      subst h0
      rw [if_neg (show ¬ ((0 : Int) = 2) by decide), if_neg (show ¬ ((0 : Int) = 1) by decide)] at k
      refine ⟨_, rfl, _, rfl, _, rfl, p, lt, n, a, b, ps, rfl, hw, fun ha => ?_, fun ha hb => ?_, fun ha hb q => ?_, fun ha hb hab q hz => ?_, fun ha hb hab q hz => ?_⟩
      · rw [if_pos ha] at k
        exact k
      · rw [if_neg (not_not_intro ha), if_pos hb] at k
        exact k
      · rw [if_neg (not_not_intro ha), if_neg (not_not_intro hb), if_pos (by rcases q with q | q; exact .inl q; exact .inr (by simp [q]))] at k
        exact k
      · have e : ps.length = 160 := Nat.le_antisymm hw.hz hz
        rw [if_neg (not_not_intro ha), if_neg (not_not_intro hb), if_neg (by simp [hab, q]), if_pos e] at k
        rw [e]
        exact k
      · rw [if_neg (not_not_intro ha), if_neg (not_not_intro hb), if_neg (by simp [hab, q]), if_neg (Nat.ne_of_lt hz)] at k
        exact k
    refine ⟨_, rfl, rfl, _, rfl, ?_⟩
    refine iteB (fun h => ?_) (fun h => ?_)
    · have h0 : c = 1 := by simpa using h
      subst h0
      rw [if_neg (show ¬ ((1 : Int) = 2) by decide), if_pos rfl] at k
      refine ⟨_, rfl, _, rfl, _, rfl, p, lt, n, a, b, ps, rfl, hw, fun ha => ?_, fun ha hb => ?_, fun ha hb q => ?_, fun ha hb hab q => ?_⟩
      · rw [if_pos ha] at k
        exact k
      · rw [if_neg (not_not_intro ha), if_pos hb] at k
        exact k
      · rw [if_neg (not_not_intro ha), if_neg (not_not_intro hb), if_pos (by rcases q with q | q; exact .inl q; exact .inr (by simp [q]))] at k
        exact k
      · rw [if_neg (not_not_intro ha), if_neg (not_not_intro hb), if_neg (by simp [hab, q])] at k
        exact k
    · have h0 : c = 2 := by
        have h1 : ¬ c = 1 := by simpa using h
        rename_i h2
        have h2 : ¬ c = 0 := by simpa using h2
        omega
      subst h0
      rw [if_pos rfl] at k
      refine ⟨_, rfl, _, rfl, p, lt, n, a, ps, rfl, hw, fun ha => ?_, fun ha hn => ?_, fun ha hn => ?_⟩
      · rw [if_pos ha] at k
        exact k
      · rw [if_neg (not_not_intro ha), if_pos hn] at k
        exact k
      · rw [if_neg (not_not_intro ha), if_neg hn] at k
        exact k
def spTold (T : Txt K mg) (TT : List NTab) : Sp := fun vs H Q _ => ∃ (c n a b : Int) (p lt : Addr) (ps : List Pr), vs = [.int c, .ref p, .int a, .int b] ∧ (c = 0 ∨ c = 1 ∨ c = 2) ∧ WebIn T TT H p n lt ps ∧ Ret TT H Q fun v H' => Tp H' v (due c n ps a b).d
/-- what a clause of the law returns: its word and the error's what -/
def tWord (q : Str) (C : Addr) : Suite := fun a cls d => tRet (tTup (tCons (tC (.str q)) (tCons (tXf a cls d C "what" (tVar 5)) tNil)))
def clausesOf (T : Txt K mg) : List (Value × Suite) := [(.ref T.C_BadCell, tWord "cell" T.C_BadCell), (.ref T.C_BadPair, tWord "pair" T.C_BadPair), (.ref T.C_BadSize, tWord "size" T.C_BadSize), (.ref T.C_TooMany, tWord "many" T.C_TooMany), (.ref T.C_Refused, tWord "another error" T.C_Refused)]
theorem ok_told (T : Txt K mg) (TB : TabB base mg T.c_check_links T.P_check_links) : FnOk P w K mg base CX0 12 T.a_Ltold T.d_Ltold ["_law_which", "_law_web", "_law_a", "_law_b"] (spTold T (TTof T)) := by
  refine T.F_Ltold.ok sc_Ltold (fun vs H Q E h => ?_) (fun cdv A outer s H vs Q E hr h => ?_)
  · obtain ⟨c, n, a, b, p, lt, ps, rfl, _⟩ := h
    rfl
  · obtain ⟨c, n, a, b, p, lt, ps, rfl, hc, hw, k⟩ := h
    have nd := sc_Ltold.nd
    have GC : FnOk P w K mg base (L2.CX P w) 11 T.a_Lchanged T.d_Lchanged ["_law_which", "_law_web", "_law_a", "_law_b"] (spChanged T (TTof T)) := ok_changed T TB
    have hr1 : Room 11 _ := hr
    refine ⟨_, pss_cons (ps_try_clauses (i := 5) (n := "e") (l := clausesOf T) (tb := fun W => tAsg (tCallS (spChanged T (TTof T)) (WE W) (tCons (tVar 0) (tCons (tVar 1) (tCons (tVar 2) (tCons (tVar 3) tNil))))) (gName 4)) (Wout := fun _ _ _ _ => False) rfl rfl nd rfl rfl takes_none5
          (fun W pn xe tk _ => pss_one (ps_set (i := 4) nd rfl (Or.inl rfl) (by exact (pe_callS GC hr1 rfl T.g_Lchanged T.F_Lchanged.kp T.b_Lchanged (fun σ => passAt tk σ) (by exact (pa_cons (pv 0) (pa_cons (pv 1) (pa_cons (pv 2) (pa_cons (pv 3) pa_nil)))))))))
          (.one ⟨rfl, by decide, Or.inl T.e_BadCell.gC⟩ (fun a oe cls d pn hz hf => pss_one (ps_ret (pe_tup (pa_cons pe_str (pa_cons (pe_xf T.e_BadCell.xf T.e_BadCell.nw hz hf (pv 5)) pa_nil)))))
          (.one ⟨rfl, by decide, Or.inl T.e_BadPair.gC⟩ (fun a oe cls d pn hz hf => pss_one (ps_ret (pe_tup (pa_cons pe_str (pa_cons (pe_xf T.e_BadPair.xf T.e_BadPair.nw hz hf (pv 5)) pa_nil)))))
          (.one ⟨rfl, by decide, Or.inl T.e_BadSize.gC⟩ (fun a oe cls d pn hz hf => pss_one (ps_ret (pe_tup (pa_cons pe_str (pa_cons (pe_xf T.e_BadSize.xf T.e_BadSize.nw hz hf (pv 5)) pa_nil)))))
          (.one ⟨rfl, by decide, Or.inl T.e_TooMany.gC⟩ (fun a oe cls d pn hz hf => pss_one (ps_ret (pe_tup (pa_cons pe_str (pa_cons (pe_xf T.e_TooMany.xf T.e_TooMany.nw hz hf (pv 5)) pa_nil)))))
          (.one ⟨rfl, by decide, Or.inl T.e_Refused.gC⟩ (fun a oe cls d pn hz hf => pss_one (ps_ret (pe_tup (pa_cons pe_str (pa_cons (pe_xf T.e_Refused.xf T.e_Refused.nw hz hf (pv 5)) pa_nil))))) .none))))))
      (pss_one (ps_ret (pe_tup (pa_cons pe_str (pa_cons (pe_fld (pv 4) rfl) (pa_cons (pe_fld (pv 4) rfl) pa_nil)))))), ?_⟩
    refine ⟨_, rfl, _, rfl, _, rfl, _, rfl, c, n, a, b, p, lt, ps, rfl, hc, hw, ?_⟩
    have s2 : 2 ≤ sizeLine := by decide
    have s3 : 3 ≤ sizeLine := by decide
    cases e : due c n ps a b with
    | cell x =>
      rintro v d H1 x1 hd rfl
      refine ⟨true, T.x_BadCell_BadCell, fun _ a0 na => ?_, (fun z => nomatch z)⟩
      refine ⟨_, rfl, rfl, rfl, d, _, _, rfl, hd, rfl, s2, fun p0 np => k _ _ (x1.trans (Ext.new np)) ?_⟩
      rw [e]
      exact .tup upd_same (.cons (.str _) (.cons (.int _) .nil))
    | size z =>
      rintro v d H1 x1 hd rfl
      refine ⟨false, T.x_BadSize_BadCell, (fun z => nomatch z), fun _ => ?_⟩
      refine ⟨false, T.x_BadSize_BadPair, (fun z => nomatch z), fun _ => ?_⟩
      refine ⟨true, T.x_BadSize_BadSize, fun _ a0 na => ?_, (fun z => nomatch z)⟩
      refine ⟨_, rfl, rfl, rfl, d, _, _, rfl, hd, rfl, s2, fun p0 np => k _ _ (x1.trans (Ext.new np)) ?_⟩
      rw [e]
      exact .tup upd_same (.cons (.str _) (.cons (.int _) .nil))
    | pair x y =>
      rintro v d H1 x1 hd hv
      refine ⟨false, T.x_BadPair_BadCell, (fun z => nomatch z), fun _ => ?_⟩
      refine ⟨true, T.x_BadPair_BadPair, fun _ a0 na => ?_, (fun z => nomatch z)⟩
      refine ⟨_, rfl, rfl, rfl, d, _, _, rfl, hd, rfl, s2, fun p0 np => k _ _ (x1.trans (Ext.new np)) ?_⟩
      rw [e]
      exact .tup upd_same (.cons (.str _) (.cons (Tp.mono (TK.new np) hv) .nil))
    | many z =>
      rintro v d H1 x1 hd rfl
      refine ⟨false, T.x_TooMany_BadCell, (fun z => nomatch z), fun _ => ?_⟩
      refine ⟨false, T.x_TooMany_BadPair, (fun z => nomatch z), fun _ => ?_⟩
      refine ⟨false, T.x_TooMany_BadSize, (fun z => nomatch z), fun _ => ?_⟩
      refine ⟨true, T.x_TooMany_TooMany, fun _ a0 na => ?_, (fun z => nomatch z)⟩
      refine ⟨_, rfl, rfl, rfl, d, _, _, rfl, hd, rfl, s2, fun p0 np => k _ _ (x1.trans (Ext.new np)) ?_⟩
      rw [e]
      exact .tup upd_same (.cons (.str _) (.cons (.int _) .nil))
    | web m qs =>
      intro p' lt' H1 x1 hw'
      obtain ⟨⟨dx, rt, hp, _⟩, hl⟩ := hw'.at_
      refine ⟨_, rfl, p', T.C_Web, dx, _, _, rfl, hp, T.cl_Web, T.na_Web_size, webF_size _ _ _, _, rfl, p', T.C_Web, dx, _, _, rfl, hp, T.cl_Web, T.na_Web_links, webF_links _ _ _, s3, fun t nt => k _ _ (x1.trans (Ext.new nt)) ?_⟩
      rw [e]
      exact .tup upd_same (.cons (.str _) (.cons (.int _) (.cons (hl.mono (TK.new nt)) .nil)))
end
end R
end

-- LawF
section
set_option Elab.async false
set_option linter.all false
set_option maxRecDepth 100000
set_option maxHeartbeats 4000000
namespace R
open PySem PySem.Spec PyProof.Rows L2 LamX NdefX LamP TryA
open SrtO (lexB lexB_iff lexB_no)
/-! ### a cell's near cells, from the list of links -/
theorem ints_uniq : ∀ {l m : List Int}, l.Pairwise (· ≤ ·) → m.Pairwise (· ≤ ·) → l.Perm m → l = m
  | [], m, _, _, p => (List.nil_perm.mp p).symm
  | x :: l, [], _, _, p => absurd p.length_eq (by simp)
  | x :: l, y :: m, h1, h2, p => by
    have a := List.pairwise_cons.mp h1
    have b := List.pairwise_cons.mp h2
    have xy : x = y := by
      have q1 : x ∈ y :: m := p.mem_iff.mp List.mem_cons_self
      have q2 : y ∈ x :: l := p.mem_iff.mpr List.mem_cons_self
      rcases List.mem_cons.mp q1 with z | z
      · exact z
      · rcases List.mem_cons.mp q2 with z2 | z2
        · exact z2.symm
        · exact Int.le_antisymm (a.1 _ z2) (b.1 _ z)
    subst xy
    rw [ints_uniq a.2 b.2 (List.perm_cons x |>.mp p)]
def nearL (ps : List Pr) (x : Int) : List Int := ((ps.filter fun p => decide (p.1 = x)).map (·.2)) ++ ((ps.filter fun p => decide (p.2 = x)).map (·.1))
theorem row_perm {n : Int} {x : Int} : ∀ {ps : List Pr}, LkIn n ps → (rowOf ps x).Perm (nearL ps x)
  | [], _ => List.Perm.nil
  | p :: r, h => by
    have hp := h p List.mem_cons_self
    have ih := row_perm (x := x) (ps := r) fun q m => h q (List.mem_cons_of_mem _ m)
    unfold rowOf nearL at *
    rw [List.filterMap_cons, List.filter_cons, List.filter_cons]
    by_cases a : p.1 = x
    · rw [if_pos a, if_pos (by simp [a]), if_neg (by simp; omega)]
      exact List.Perm.cons _ ih
    · by_cases b : p.2 = x
      · rw [if_neg a, if_pos b, if_neg (by simp [a]), if_pos (by simp [b])]
        exact (List.Perm.cons _ ih).trans List.perm_middle.symm
      · rw [if_neg a, if_neg b, if_neg (by simp [a]), if_neg (by simp [b])]
        exact ih
theorem row_asc {n x : Int} : ∀ {ps : List Pr}, Valid n ps → (rowOf ps x).Pairwise (· ≤ ·)
  | [], _ => List.Pairwise.nil
  | p :: r, h => by
    have hp := h.lk p List.mem_cons_self
    have ha := List.pairwise_cons.mp h.asc
    have ih := row_asc (x := x) (ps := r) ⟨fun q m => h.lk q (List.mem_cons_of_mem _ m), ha.2⟩
    have lo : ∀ y ∈ rowOf r x, ∃ q ∈ r, (q.1 = x ∧ y = q.2) ∨ (q.2 = x ∧ y = q.1) := fun y m => by
      unfold rowOf at m
      obtain ⟨q, hq, e⟩ := List.mem_filterMap.mp m
      refine ⟨q, hq, ?_⟩
      by_cases a : q.1 = x
      · rw [if_pos a] at e
        exact .inl ⟨a, (Option.some.inj e).symm⟩
      · rw [if_neg a] at e
        by_cases b : q.2 = x
        · rw [if_pos b] at e
          exact .inr ⟨b, (Option.some.inj e).symm⟩
        · rw [if_neg b] at e
          cases e
    unfold rowOf
    rw [List.filterMap_cons]
    have le : ∀ v : Int, ((p.1 = x ∧ v = p.2) ∨ (p.2 = x ∧ v = p.1)) → ∀ y ∈ rowOf r x, v ≤ y := fun v hv y m => by
      obtain ⟨q, hq, hy⟩ := lo y m
      have hl := lexB_iff.mp (ha.1 q hq)
      have hq2 := h.lk q (List.mem_cons_of_mem _ hq)
      omega
    by_cases a : p.1 = x
    · rw [if_pos a]
      exact List.pairwise_cons.mpr ⟨le _ (.inl ⟨a, rfl⟩), ih⟩
    · by_cases b : p.2 = x
      · rw [if_neg a, if_pos b]
        exact List.pairwise_cons.mpr ⟨le _ (.inr ⟨b, rfl⟩), ih⟩
      · rw [if_neg a, if_neg b]
        exact ih
theorem row_is {n x : Int} {ps : List Pr} {ns : List Int} (h : Valid n ps) (p : ns.Perm (nearL ps x)) (s : ns.Pairwise (· ≤ ·)) : ns = rowOf ps x :=
  ints_uniq s (row_asc h) (p.trans (row_perm h.lk).symm)
section
variable {P : Program} {w : World} {K : PySem.W.Frag} {mg : Str → Option Value} {base : Heap}
def spNearRight (T : Txt K mg) (TT : List NTab) : Sp := fun vs H Q _ => ∃ (p lt l : Addr) (n x : Int) (ps : List Pr), vs = [.ref p, .ref l, .int x] ∧ WebIn T TT H p n lt ps ∧ IsLinks H l ps ∧ 0 ≤ x ∧ x < n ∧ Ret TT H Q fun v _ => v = .bl true
theorem ints_lay : ∀ ns : List Int, PyData.canLayAll0 (ns.map PyData.int) = true ∧ PyData.depthAll (ns.map PyData.int) ≤ 1
  | [] => ⟨rfl, Nat.zero_le _⟩
  | n :: r => by
    have ⟨h1, h2⟩ := ints_lay r
    rw [List.map_cons, PyData.canLayAll0, PyData.depthAll]
    refine ⟨by rw [h1]; rfl, Nat.max_le.mpr ⟨by simp [PyData.depth], h2⟩⟩
theorem ok_near_right (T : Txt K mg) (TT : List NTab) : FnOk P w K mg base CX0 6 T.a_Lnear_right T.d_Lnear_right ["_law_web", "_law_links", "_law_x"] (spNearRight T TT) := by
  refine T.F_Lnear_right.ok sc_Lnear_right (fun vs H Q E h => ?_) (fun cdv A outer s H vs Q E hr h => ?_)
  · obtain ⟨p, lt, l, n, x, ps, rfl, _⟩ := h
    rfl
  · obtain ⟨p, lt, l, n, x, ps, rfl, hw, ⟨xs, hx, hxs⟩, hx0, hx1, k⟩ := h
    have nd := sc_Lnear_right.nd
    refine ⟨_, pss_cons (ps_set (i := 3) nd rfl (Or.inl rfl) (pe_op op_cat
        (pe_lc (own := [("_law_a", 4), ("_law_b", 5)]) (g := gTup K 2 (gCons (gName 4) (gCons (gName 5) gNil))) rfl nd (pi_list (pv 1)) (blkOk_by (N := N_Lnear_right) (sc := defScope s_Lnear_right) (by decide +kernel))
          (fun _ _ _ _ _ => pg_tup rfl (pgs_cons (pg_name (i := 4) nd rfl (Or.inl rfl)) (pgs_cons (pg_name (i := 5) nd rfl (Or.inl rfl)) pgs_nil))) (fun _ _ _ _ _ => pts_one (pt_cmpR op_eq (pv 4) (pv 2) (nomark _))) (fun _ _ _ _ _ => pv 5))
        (pe_lc (own := [("_law_a", 4), ("_law_b", 5)]) (g := gTup K 2 (gCons (gName 4) (gCons (gName 5) gNil))) rfl nd (pi_list (pv 1)) (blkOk_by (N := N_Lnear_right) (sc := defScope s_Lnear_right) (by decide +kernel))
          (fun _ _ _ _ _ => pg_tup rfl (pgs_cons (pg_name (i := 4) nd rfl (Or.inl rfl)) (pgs_cons (pg_name (i := 5) nd rfl (Or.inl rfl)) pgs_nil))) (fun _ _ _ _ _ => pts_one (pt_cmpR op_eq (pv 5) (pv 2) (nomark _))) (fun _ _ _ _ _ => pv 4))))
      (pss_one (ps_ret (pe_cmpR (op_eqD hr.units) (pe_meth (pv 0) T.cl_Web T.mt_Web_near (ok_near T TT) (hr.mono (by decide)) T.b_Web_near .nil (passes_call (E := fun _ _ _ => False) takes_none5 (fun _ _ _ _ h => h)) (pa_cons (pv 2) pa_nil))
        (pe_callTy call_tuple_of (by rfl) T.n_tuple (by decide +kernel) (pa_cons (pe_callB cr_sortedI (by rfl) T.n_sorted (by decide +kernel) (pa_cons (pv 3) pa_nil)) pa_nil)) (nomark _)))), ?_⟩
    have lx := lk_len hxs
    have e0 : Ext TT none H H := Ext.refl ..
    refine ⟨_, rfl, l, rfl, ⟨_, SqL.of hx⟩, fun D hD => ?_⟩
    refine lc_list (xs := xs) (fun i H' => ∃ ns : List Int, Ext TT none H H' ∧ H' D = some (.lst (ns.map V.int)) ∧ ns = ((ps.take i).filter fun p => decide (p.1 = x)).map (·.2)) ⟨[], Ext.new hD, upd_same, rfl⟩ (fun i H' _ ⟨_, x, _⟩ => SqL.of (x.lst hx)) ?_ ?_
    · rintro i x0 H3 hi ⟨ns, x3, h3, hns⟩
      obtain ⟨d, hdi, hdz⟩ := hxs.get hi
      unfold lkD at hdi
      rw [List.getElem?_map] at hdi
      cases ep : ps[i]? with
      | none => rw [ep] at hdi; cases hdi
      | some q =>
        rw [ep] at hdi
        cases hdi
        obtain ⟨az, rfl, haz⟩ := tp_pr hdz
        have x03 := (e0).trans x3
        have snoc := take_snoc ep
        refine ⟨az, _, rfl, SqT.of (x03.tup haz), rfl, _, _, rfl, _, _, rfl, rfl, ?_⟩
        refine ⟨rfl, ?_⟩
        refine ⟨_, rfl, _, rfl, rfl, _, rfl, ?_⟩
        refine iteB (fun h => ?_) (fun h => ?_)
        · have h : q.1 = x := by simpa using h
          have nl : ns.length ≤ 160 := by
            rw [hns, List.length_map]
            refine Nat.le_trans (List.length_filter_le _ _) ?_
            rw [List.length_take]
            have := hw.hz
            omega
          refine ⟨_, rfl, _, h3, small1000 (by rw [List.length_map]; omega), ns ++ [q.2], x3.mutL hD h3 (fun z => nomatch z), ?_, ?_⟩
          · rw [upd_same, List.map_append]
            rfl
          · rw [snoc, List.filter_append, List.filter_cons, if_pos (by simp [h]), List.filter_nil, List.map_append, ← hns]
            rfl
        · have h : ¬ q.1 = x := by simpa using h
          refine ⟨ns, x3, h3, ?_⟩
          rw [snoc, List.filter_append, List.filter_cons, if_neg (by simp [h]), List.filter_nil, List.append_nil]
          exact hns
    rintro H1 ⟨ns1, x1, h1, nD⟩
    rw [lx, List.take_length] at nD
    refine ⟨_, rfl, l, rfl, ⟨_, SqL.of (x1.lst hx)⟩, fun D2 hD2 => ?_⟩
    refine lc_list (xs := xs) (fun i H' => ∃ ns : List Int, Ext TT none H1 H' ∧ H' D2 = some (.lst (ns.map V.int)) ∧ ns = ((ps.take i).filter fun p => decide (p.2 = x)).map (·.1)) ⟨[], Ext.new hD2, upd_same, rfl⟩ (fun i H' _ ⟨_, x, _⟩ => SqL.of (x.lst (x1.lst hx))) ?_ ?_
    · rintro i x0 H3 hi ⟨ns, x3, h3, hns⟩
      obtain ⟨d, hdi, hdz⟩ := hxs.get hi
      unfold lkD at hdi
      rw [List.getElem?_map] at hdi
      cases ep : ps[i]? with
      | none => rw [ep] at hdi; cases hdi
      | some q =>
        rw [ep] at hdi
        cases hdi
        obtain ⟨az, rfl, haz⟩ := tp_pr hdz
        have x03 := (x1).trans x3
        have snoc := take_snoc ep
        refine ⟨az, _, rfl, SqT.of (x03.tup haz), rfl, _, _, rfl, _, _, rfl, rfl, ?_⟩
        refine ⟨rfl, ?_⟩
        refine ⟨_, rfl, _, rfl, rfl, _, rfl, ?_⟩
        refine iteB (fun h => ?_) (fun h => ?_)
        · have h : q.2 = x := by simpa using h
          have nl : ns.length ≤ 160 := by
            rw [hns, List.length_map]
            refine Nat.le_trans (List.length_filter_le _ _) ?_
            rw [List.length_take]
            have := hw.hz
            omega
          refine ⟨_, rfl, _, h3, small1000 (by rw [List.length_map]; omega), ns ++ [q.1], x3.mutL hD2 h3 (fun z => nomatch z), ?_, ?_⟩
          · rw [upd_same, List.map_append]
            rfl
          · rw [snoc, List.filter_append, List.filter_cons, if_pos (by simp [h]), List.filter_nil, List.map_append, ← hns]
            rfl
        · have h : ¬ q.2 = x := by simpa using h
          refine ⟨ns, x3, h3, ?_⟩
          rw [snoc, List.filter_append, List.filter_cons, if_neg (by simp [h]), List.filter_nil, List.append_nil]
          exact hns
    rintro H2 ⟨ns2, x2, h2, nD2⟩
    rw [lx, List.take_length] at nD2
    have x12 := x1.trans x2
    refine ⟨D, D2, _, _, rfl, rfl, x2.lst h1, h2, ?_, fun p0 np => ?_⟩
    · rw [List.length_map, List.length_map, nD, nD2, List.length_map, List.length_map]
      have a1 := List.length_filter_le (fun p : Pr => decide (p.1 = x)) ps
      have a2 := List.length_filter_le (fun p : Pr => decide (p.2 = x)) ps
      have := hw.hz
      exact Nat.le_of_lt (small1000 (by omega))
    rw [← List.map_append]
    have nn : ns1 ++ ns2 = nearL ps x := by rw [nD, nD2]; rfl
    rw [nn]
    have x3 := x12.trans (Ext.new (o := .lst ((nearL ps x).map V.int)) np)
    obtain ⟨⟨dx, rt, hp, _⟩, _⟩ := (hw.ext x3).at_
    refine ⟨_, rfl, p, dx, _, rfl, hp, webF_no _ _ _ (by decide +kernel) (by decide +kernel) (by decide +kernel), _, rfl, p, x, n, _, ps, rfl, (hw.ext x3).at_, fun _ v H4 x4 hv => ?_, fun z => absurd ⟨hx0, hx1⟩ z⟩
    obtain ⟨r, rfl, hr4⟩ := hv
    refine ⟨_, rfl, p0, _, rfl, SqL.of (x4.lst upd_same), fun ns' p1 perm asc n1 => ?_⟩
    have is := row_is hw.ok perm asc
    subst is
    have x5 := (x3.trans x4).trans (Ext.new (o := .lst ((rowOf ps x).map V.int)) n1)
    refine ⟨p1, _, rfl, .inl ⟨SqL.of upd_same, fun p2 n2 => ?_⟩⟩
    have x6 := x5.trans (Ext.new (o := .tup ((rowOf ps x).map V.int)) n2)
    have lay := ints_lay (rowOf ps x)
    have shaped : SeqAt.shaped (.tuple ((rowOf ps x).map PyData.int)) = true := shaped_of (by rw [PyData.canLay0]; exact lay.1) (by rw [PyData.depth]; have := lay.2; omega)
    have t1 : Tp (upd (upd H4 p1 (.lst ((rowOf ps x).map V.int))) p2 (.tup ((rowOf ps x).map V.int))) (.ref r) (.tuple ((rowOf ps x).map PyData.int)) := .tup (((TK.new n1).trans (TK.new n2)) _ _ hr4) (Tps.ints _)
    have t2 : Tp (upd (upd H4 p1 (.lst ((rowOf ps x).map V.int))) p2 (.tup ((rowOf ps x).map V.int))) (.ref p2) (.tuple ((rowOf ps x).map PyData.int)) := .tup upd_same (Tps.ints _)
    refine ⟨_, _, t1.dp, t2.dp, shaped, shaped, ?_⟩
    rw [SeqAt.eqv_refl _ (by rw [PyData.canLay0]; exact lay.1)]
    exact k _ _ x6 rfl
end
end R
end

-- LawG
section
set_option Elab.async false
set_option linter.all false
set_option maxRecDepth 100000
set_option maxHeartbeats 4000000
set_option exponentiation.threshold 100
namespace R
open PySem PySem.Spec PyProof.Rows L2 LamX NdefX LamP TryA
section
variable {P : Program} {w : World} {K : PySem.W.Frag} {mg : Str → Option Value} {base : Heap}
theorem bits_lt {z : Int} (h : Builtin.Int.intBits z ≤ 1048576) : z.natAbs < 2 ^ 1048576 := by
  unfold Builtin.Int.intBits at h
  by_cases e : z = 0
  · subst e
    exact Nat.two_pow_pos _
  · rw [if_neg (by simpa using e)] at h
    exact Nat.lt_of_lt_of_le Nat.lt_log2_self (Nat.pow_le_pow_right (by decide) h)
theorem big_lt {c : Int} {v : Nat} (h : c.natAbs < 2 ^ 1048576) (hv : v ≤ c.natAbs) : v < 2 ^ BIG :=
  Nat.lt_of_le_of_lt hv (Nat.lt_of_lt_of_le h (Nat.pow_le_pow_right (by decide) (by unfold BIG; decide)))
def spPool (K : PySem.W.Frag) (TT : List NTab) : Sp := fun vs H Q _ => ∃ (l : Addr) (ns : List Int), vs = [.ref l, .int 0] ∧ SqL K H l (ns.map V.int) ∧ (∀ z ∈ ns, Builtin.Int.intBits z ≤ 1048576) ∧ Ret TT H Q fun v H' => ∃ so, v = .ref so ∧ Src H' so
theorem ok_pool (T : Txt K mg) (TT : List NTab) : FnOk P w K mg base CX0 1 T.a_Lpool T.d_Lpool ["_law_script", "_law_k"] (spPool K TT) := by
  refine T.F_Lpool.ok sc_Lpool (fun vs H Q E h => ?_) (fun cdv A outer s H vs Q E hr h => ?_)
  · obtain ⟨l, ns, rfl, _⟩ := h
    rfl
  · obtain ⟨l, ns, rfl, hl, hb, k⟩ := h
    have nd := sc_Lpool.nd
    refine ⟨_, pss_cons (ps_set (i := 2) nd rfl (Or.inl rfl) pe_int)
      (pss_cons (ps_if (pt_cmpR op_lt (pv 1) (pe_callB call_len_seq (by rfl) T.n_len PySem.boot_len (pa_cons (pv 0) pa_nil)) (nomark _)) (pss_one (ps_set (i := 2) nd rfl (Or.inl rfl) (pe_ix ix_list (pv 0) (pv 1) (fun _ _ => rfl))))
        (pss_one (ps_if (pt_truth (pv 0) (by intro _; rfl)) (pss_one (ps_set (i := 2) nd rfl (Or.inl rfl) (pe_ix ix_list (pv 0) pe_int (fun _ _ => rfl)))) pss_nil)))
      (pss_cons (ps_set (i := 3) nd rfl (Or.inl rfl) (pe_callB (call_max2 rfl) (by rfl) T.n_max (by decide +kernel) (pa_cons (pe_callTy call_int1 (by rfl) T.n_int (by decide +kernel) (pa_cons (pv 2) pa_nil)) (pa_cons (pe_callTy call_int1 (by rfl) T.n_int (by decide +kernel) (pa_cons (pe_op op_sub (pe_un un_neg pe_int) (pv 2)) pa_nil)) pa_nil))))
      (pss_cons (ps_set (i := 4) nd rfl (Or.inl rfl) (pe_op op_mod (pe_callTy call_int1 (by rfl) T.n_int (by decide +kernel) (pa_cons (pe_op op_mul (pe_op op_add (pe_op op_add (pe_op op_add (pe_op op_mod (pe_callTy call_int1 (by rfl) T.n_int (by decide +kernel) (pa_cons (pv 3) pa_nil)) pe_int)
          (pe_op op_mul (pe_op op_mul pe_int (pv 1)) (pv 1))) (pe_op op_mul pe_int (pv 1))) pe_int) pe_int) pa_nil)) pe_int))
      (pss_one (ps_ret (pe_lst (pa_cons (pe_op op_mul (pv 3) (pe_callTy call_int1 (by rfl) T.n_int (by decide +kernel) (pa_cons (pe_cmpR op_ge (pv 3) (pe_op op_pow pe_int pe_int) (nomark _)) pa_nil))) (pa_cons (pv 4) pa_nil)))))))), ?_⟩
    refine ⟨_, rfl, _, rfl, l, _, rfl, .inl hl, _, _, rfl, rfl, _, rfl, ?_⟩
    refine iteB (fun h => ?_) (fun h => ?_)
    · have h0 : (0 : Int) < ((ns.map V.int).length : Nat) := of_decide_eq_true h
      cases ns with
      | nil => simp at h0
      | cons c r =>
        have hcb := bits_lt (hb c List.mem_cons_self)
        refine ⟨_, rfl, _, rfl, l, _, 0, .int c, rfl, rfl, hl, atI_nat (j := 0) rfl, ?_⟩
        obtain ⟨B, hB⟩ : ∃ B : Int, B = (if (-1 - c) > c then (-1 - c) else c) := ⟨_, rfl⟩
        have B0 : 0 ≤ B := by rw [hB]; split <;> omega
        have B1 : B.natAbs ≤ (c).natAbs := by rw [hB]; split <;> omega
        have BB := big_lt hcb B1
        refine ⟨_, rfl, .inl ⟨_, rfl, _, rfl, _, rfl, _, _, rfl, rfl, .inl ⟨_, rfl, c, -1 - c, rfl, ?_⟩⟩⟩
        rw [← hB]
        refine ⟨_, rfl, .inl ⟨_, rfl, _, _, rfl, rfl, (by show (0 : Int) < 2147483629; decide), _, rfl, _, _, rfl, rfl, .inl ⟨by decide, by decide⟩, _, rfl, _, _, rfl, rfl, .inl ⟨by decide, by decide⟩, _, _, rfl, rfl, _, rfl, _, _, rfl, rfl, .inl ⟨by decide, by decide⟩, _, _, rfl, rfl, _, _, rfl, rfl, _, _, rfl, rfl, .inr ⟨by decide, by decide⟩, .inl ⟨_, rfl, _, _, rfl, rfl, (by show (0 : Int) < 2147483647; decide), ?_⟩⟩⟩
        refine ⟨_, rfl, _, rfl, _, _, rfl, rfl, ⟨by decide, by decide, by decide⟩, _, _, rfl, rfl, .inr ⟨_, rfl, _, _, rfl, rfl, .inr ?_, _, rfl, (by show 2 ≤ sizeLine; decide), fun so nso => ?_⟩⟩
        · split <;> exact ⟨by decide, by decide⟩
        · refine k _ _ (Ext.new nso) ⟨so, rfl, _, _, upd_same, ?_, ?_, Int.emod_nonneg _ (by decide), Int.emod_lt_of_pos _ (by decide)⟩
          · split
            · rw [Int.mul_one]; exact B0
            · rw [Int.mul_zero]; exact Int.le_refl _
          · split
            · rw [Int.mul_one]; exact BB
            · rw [Int.mul_zero]; exact Nat.two_pow_pos _
    · have h0 : ¬ (0 : Int) < ((ns.map V.int).length : Nat) := of_decide_eq_false h
      cases ns with
      | cons c r => exact absurd (by simp) h0
      | nil =>
        have hcb : (0 : Int).natAbs < 2 ^ 1048576 := Nat.two_pow_pos _
        refine ⟨_, rfl, false, .inl ⟨_, hl, rfl⟩, ?_⟩
        refine iteF ?_
        obtain ⟨B, hB⟩ : ∃ B : Int, B = (if (-1 - (0 : Int)) > (0 : Int) then (-1 - (0 : Int)) else (0 : Int)) := ⟨_, rfl⟩
        have B0 : 0 ≤ B := by rw [hB]; split <;> omega
        have B1 : B.natAbs ≤ ((0 : Int)).natAbs := by rw [hB]; split <;> omega
        have BB := big_lt hcb B1
        refine ⟨_, rfl, .inl ⟨_, rfl, _, rfl, _, rfl, _, _, rfl, rfl, .inl ⟨_, rfl, (0 : Int), -1 - (0 : Int), rfl, ?_⟩⟩⟩
        rw [← hB]
        refine ⟨_, rfl, .inl ⟨_, rfl, _, _, rfl, rfl, (by show (0 : Int) < 2147483629; decide), _, rfl, _, _, rfl, rfl, .inl ⟨by decide, by decide⟩, _, rfl, _, _, rfl, rfl, .inl ⟨by decide, by decide⟩, _, _, rfl, rfl, _, rfl, _, _, rfl, rfl, .inl ⟨by decide, by decide⟩, _, _, rfl, rfl, _, _, rfl, rfl, _, _, rfl, rfl, .inr ⟨by decide, by decide⟩, .inl ⟨_, rfl, _, _, rfl, rfl, (by show (0 : Int) < 2147483647; decide), ?_⟩⟩⟩
        refine ⟨_, rfl, _, rfl, _, _, rfl, rfl, ⟨by decide, by decide, by decide⟩, _, _, rfl, rfl, .inr ⟨_, rfl, _, _, rfl, rfl, .inr ?_, _, rfl, (by show 2 ≤ sizeLine; decide), fun so nso => ?_⟩⟩
        · split <;> exact ⟨by decide, by decide⟩
        · refine k _ _ (Ext.new nso) ⟨so, rfl, _, _, upd_same, ?_, ?_, Int.emod_nonneg _ (by decide), Int.emod_lt_of_pos _ (by decide)⟩
          · split
            · rw [Int.mul_one]; exact B0
            · rw [Int.mul_zero]; exact Int.le_refl _
          · split
            · rw [Int.mul_one]; exact BB
            · rw [Int.mul_zero]; exact Nat.two_pow_pos _
end
end R
end

-- LawH
section
set_option Elab.async false
set_option linter.all false
set_option maxRecDepth 100000
set_option maxHeartbeats 4000000
namespace R
open PySem PySem.Spec PyProof.Rows L2 LamX NdefX LamP TryA
open SrtO (lexB lexB_iff lexB_no)
/-- a web's size and links that the law may hold -/
structure Good (n : Int) (ps : List Pr) : Prop where
  ok : Valid n ps
  n1 : 1 ≤ n
  n2 : n ≤ 40
  z : ps.length ≤ 160
theorem due_good {c n a b m : Int} {ps qs : List Pr} (g : Good n ps) (hc : c = 0 ∨ c = 1 ∨ c = 2) (h : due c n ps a b = .web m qs) : Good m qs ∧ 0 ≤ a ∧ a < n ∧ (c ≠ 2 → m = n ∧ 0 ≤ b ∧ b < n) := by
  unfold due at h
  by_cases ha : 0 ≤ a ∧ a < n
  · rw [if_neg (not_not_intro ha)] at h
    by_cases h2 : c = 2
    · rw [if_pos h2] at h
      by_cases hn : n = 1
      · rw [if_pos hn] at h
        cases h
      · rw [if_neg hn] at h
        cases h
        exact ⟨⟨valid_drop ha g.ok, by have := g.n1; omega, by have := g.n2; omega, Nat.le_trans (dropC_len _ _) g.z⟩, ha.1, ha.2, fun z => absurd h2 z⟩
    · rw [if_neg h2] at h
      by_cases hb : 0 ≤ b ∧ b < n
      · rw [if_neg (not_not_intro hb)] at h
        by_cases hp : a = b ∨ ¬ (lnk a b ∈ ps ↔ c = 1)
        · rw [if_pos hp] at h
          cases h
        · rw [if_neg hp] at h
          have hab : a ≠ b := fun z => hp (.inl z)
          by_cases h1 : c = 1
          · rw [if_pos h1] at h
            cases h
            exact ⟨⟨valid_filter _ g.ok, g.n1, g.n2, Nat.le_trans (List.length_filter_le _ _) g.z⟩, ha.1, ha.2, fun _ => ⟨rfl, hb⟩⟩
          · rw [if_neg h1] at h
            by_cases hz : ps.length = 160
            · rw [if_pos hz] at h
              cases h
            · rw [if_neg hz] at h
              cases h
              have hn : lnk a b ∉ ps := fun z => hp (.inr fun q => h1 (q.mp z))
              exact ⟨⟨valid_put g.ok (lnk_in ha hb hab) hn, g.n1, g.n2, by rw [srt_len, List.length_append, List.length_singleton]; have := g.z; omega⟩, ha.1, ha.2, fun _ => ⟨rfl, hb⟩⟩
      · rw [if_pos hb] at h
        cases h
  · rw [if_pos ha] at h
    cases h
theorem filter_out {l : Pr} {ps : List Pr} (h : l ∉ ps) : ps.filter (fun p => !decide (p = l)) = ps := List.filter_eq_self.mpr fun p m => by
  have : p ≠ l := fun z => h (z ▸ m)
  simp [this]
/-- a link put and taken again, or taken and put again -/
theorem due_back {c n a b m : Int} {ps qs : List Pr} (g : Good n ps) (hc : c = 0 ∨ c = 1) (h : due c n ps a b = .web m qs) : due (1 - c) m qs b a = .web n ps := by
  have h0 := h
  obtain ⟨_, a0, a1, hm⟩ := due_good g (by omega) h
  obtain ⟨rfl, b0, b1⟩ := hm (by omega)
  have ha : 0 ≤ a ∧ a < m := ⟨a0, a1⟩
  have hb : 0 ≤ b ∧ b < m := ⟨b0, b1⟩
  unfold due at h ⊢
  rw [if_neg (not_not_intro ha), if_neg (show ¬ c = 2 by omega), if_neg (not_not_intro hb)] at h
  rw [if_neg (not_not_intro hb), if_neg (show ¬ 1 - c = 2 by omega), if_neg (not_not_intro ha), lnk_comm b a]
  have nodup := asc_nodup g.ok.asc
  by_cases hp : a = b ∨ ¬ (lnk a b ∈ ps ↔ c = 1)
  · rw [if_pos hp] at h
    cases h
  · rw [if_neg hp] at h
    have hab : a ≠ b := fun z => hp (.inl z)
    have hin : lnk a b ∈ ps ↔ c = 1 := Classical.byContradiction fun z => hp (.inr z)
    rcases hc with rfl | rfl
    · have hn : lnk a b ∉ ps := fun z => absurd (hin.mp z) (by decide)
      rw [if_neg (by decide)] at h
      by_cases hz : ps.length = 160
      · rw [if_pos hz] at h
        cases h
      · rw [if_neg hz] at h
        cases h
        have mem : lnk a b ∈ srt (ps ++ [lnk a b]) := (srt_perm _).mem_iff.mpr (by simp)
        rw [if_neg (by simp [Ne.symm hab, mem]), if_pos (by decide)]
        congr 1
        refine srt_uniq ((srt_srt _).filter _) (asc_srt g.ok.asc) (((srt_perm _).filter _).trans ?_)
        rw [List.filter_append, filter_out hn]
        simp
    · have hn : lnk a b ∈ ps := hin.mpr rfl
      rw [if_pos rfl] at h
      cases h
      have out : lnk a b ∉ ps.filter (fun p => !decide (p = lnk a b)) := fun z => by simpa using (List.mem_filter.mp z).2
      have e : ps.erase (lnk a b) = ps.filter (fun p => !decide (p = lnk a b)) := by
        rw [List.Nodup.erase_eq_filter nodup]
        congr 1
        funext p
        by_cases q : p = lnk a b
        · simp [q]
        · simp [q]
      have pm : ((ps.filter fun p => !decide (p = lnk a b)) ++ [lnk a b]).Perm ps := by
        rw [← e]
        exact (List.perm_append_singleton _ _).trans (List.perm_cons_erase hn).symm
      have len : (ps.filter fun p => !decide (p = lnk a b)).length ≠ 160 := fun z => by
        have q := pm.length_eq
        rw [List.length_append, z, List.length_singleton] at q
        have := g.z
        omega
      rw [if_neg (by simp [Ne.symm hab, out]), if_neg (by decide), if_neg len]
      congr 1
      exact (srt_of (asc_srt g.ok.asc) pm.symm).symm
end R
end

-- LawI
section
set_option Elab.async false
set_option linter.all false
set_option maxRecDepth 100000
set_option maxHeartbeats 4000000
namespace R
open PySem PySem.Spec PyProof.Rows L2 LamX NdefX LamP TryA
section
variable {P : Program} {w : World} {K : PySem.W.Frag} {mg : Str → Option Value} {base : Heap}
theorem iteF' {c : Bool} {A B : Prop} (h : c = false) (k : B) : if c = true then A else B := by rw [h]; exact iteF k
theorem iteT' {c : Bool} {A B : Prop} (h : c = true) (k : A) : if c = true then A else B := by rw [h]; exact iteT k
theorem seq_cut {t R : TS} {D : Ends} {σ : L2.St} {H : Hp} (J : L2.St → Hp → Prop) (h1 : ∀ R' : L2.St → Hp → Prop, (∀ σ' H', J σ' H' → R' σ' H') → t { D with nx := R' } σ H) (h2 : ∀ σ' H', J σ' H' → R D σ' H') : tSeq t R D σ H := h1 (R D) h2
theorem WebIn.extS {T : Txt K mg} {TT : List NTab} {so : Addr} {H H1 : Hp} {p : Addr} {n : Int} {lt : Addr} {ps : List Pr} (h : WebIn T TT H p n lt ps) (q : Src H so) (x : Ext TT (some so) H H1) : WebIn T TT H1 p n lt ps := by
  refine ⟨h.at_.mono x (x.tkS q) (fun z => ?_), h.ok, h.hn, h.hz, x.tb h.tb⟩
  obtain ⟨⟨dx, rt, hp, _⟩, _⟩ := h.at_
  obtain ⟨_, _, e, _⟩ := q
  cases z
  rw [hp] at e
  cases e
theorem IsLinks.ext {TT : List NTab} {H H1 : Hp} {l : Addr} {ps : List Pr} (h : IsLinks H l ps) (x : Ext TT none H H1) : IsLinks H1 l ps := h.elim fun xs z => ⟨xs, x.lst z.1, z.2.mono x.tk⟩
theorem str_first {H : Hp} {v : V} {q : Str} {r : List PyData} (h : Tp H v (.tuple (.str q :: r))) : ∃ d ys, v = .ref d ∧ H d = some (.tup (.str q :: ys)) ∧ Tps H ys r := by
  obtain ⟨d, ys, e, hd, t⟩ := tup_of h
  cases t with
  | cons h1 h2 =>
    cases h1
    exact ⟨d, _, e, hd, h2⟩
/-- between two turns of the law's loop -/
def LI (TT : List NTab) (H1 : Hp) (l0 so : Addr) (σ : L2.St) (H' : Hp) : Prop := ∃ (n : Int) (l : Addr) (ps : List Pr) (u4 u5 u6 u7 u8 u9 u10 : Option V), σ = [some (.ref l0), some (.ref so), some (.int n), some (.ref l), u4, u5, u6, u7, u8, u9, u10] ∧
  Ext TT (some so) H1 H' ∧ Src H' so ∧ l ≠ so ∧ IsLinks H' l ps ∧ Good n ps
def spLaw (K : PySem.W.Frag) (TT : List NTab) : Sp := fun vs H Q _ => ∃ (l : Addr) (ns : List Int), vs = [.ref l] ∧ SqL K H l (ns.map V.int) ∧ (∀ z ∈ ns, Builtin.Int.intBits z ≤ 1048576) ∧ TabsN TT H ∧ ∀ H', Q (.bl true) H'
theorem ok_law (T : Txt K mg) (TB : TabB base mg T.c_check_links T.P_check_links) : FnOk P w K mg base CX0 13 T.a_law T.d_law ["_law_script"] (spLaw K (TTof T)) := by
  refine T.F_law.ok sc_law (fun vs H Q E h => ?_) (fun cdv A outer s H vs Q E hr h => ?_)
  · obtain ⟨l, ns, rfl, _⟩ := h
    rfl
  · obtain ⟨l0, ns, rfl, hl0, hb, hT, k⟩ := h
    have nd := sc_law.nd
    have px : Passes (L2.CX P w) (cxOf CX0 P w K mg base N_law "law" (defScope s_law) T.a_law cdv A outer s H E).nox (fun _ _ _ => False) := passes_call takes_none5 (fun _ _ _ _ h => h)
    refine ⟨_, pss_cons (ps_set (i := 1) nd rfl (Or.inl rfl) (pe_call (ok_pool T (TTof T)) (hr.mono (by decide)) rfl T.g_Lpool T.F_Lpool.kp T.b_Lpool .nil pass0 (pa_cons (pv 0) (pa_cons pe_int pa_nil))))
      (pss_cons (ps_asg (pe_call (ok_any T (TTof T)) (hr.mono (by decide)) rfl T.g_Lany T.F_Lany.kp T.b_Lany .nil pass0 (pa_cons (pv 1) (pa_cons (pe_op op_add pe_int (pe_call (ok_take T (TTof T)) (hr.mono (by decide)) rfl T.g_Ltake T.F_Ltake.kp T.b_Ltake .nil pass0 (pa_cons (pv 1) (pa_cons pe_int pa_nil)))) pa_nil)))
          (pg_tup rfl (pgs_cons (pg_name (i := 2) nd rfl (Or.inl rfl)) (pgs_cons (pg_name (i := 3) nd rfl (Or.inl rfl)) pgs_nil))))
      (pss_cons (ps_if (pt_cmpR op_eq (pe_call (ok_take T (TTof T)) (hr.mono (by decide)) rfl T.g_Ltake T.F_Ltake.kp T.b_Ltake .nil pass0 (pa_cons (pv 1) (pa_cons pe_int pa_nil))) pe_int (nomark _))
          (pss_one (ps_asg (pe_call (ok_full T (TTof T)) (hr.mono (by decide)) rfl T.g_Lfull T.F_Lfull.kp T.b_Lfull .nil pass0 (pa_cons (pv 1) pa_nil)) (pg_tup rfl (pgs_cons (pg_name (i := 2) nd rfl (Or.inl rfl)) (pgs_cons (pg_name (i := 3) nd rfl (Or.inl rfl)) pgs_nil))))) pss_nil)
      (pss_cons (ps_for PassesOwn.never rfl (pi_range1 (by rfl) T.n_range (pa_cons (pe_op op_add pe_int (pe_call (ok_take T (TTof T)) (hr.mono (by decide)) rfl T.g_Ltake T.F_Ltake.kp T.b_Ltake .nil pass0 (pa_cons (pv 1) (pa_cons pe_int pa_nil)))) pa_nil)) (pg_name (i := 4) nd rfl (Or.inl rfl))
        (pss_cons (ps_set (i := 5) nd rfl (Or.inl rfl) (pe_make T.mk_Web (ok_web_init T TB) (hr.mono (by decide)) rfl T.mg_Web T.b_Web_init .nil px (pa_cons (pv 2) (pa_cons (pe_callTy call_tuple_of (by rfl) T.n_tuple (by decide +kernel) (pa_cons (pv 3) pa_nil)) pa_nil))))
        (pss_cons (ps_set (i := 6) nd rfl (Or.inl rfl) (pe_call (ok_one T (TTof T)) (hr.mono (by decide)) rfl T.g_Lone T.F_Lone.kp T.b_Lone .nil pass0 (pa_cons (pv 1) (pa_cons (pe_lst (pa_cons pe_int (pa_cons pe_int (pa_cons pe_int (pa_cons pe_int (pa_cons pe_int (pa_cons pe_int pa_nil))))))) pa_nil))))
        (pss_cons (ps_par (i := 7) (j := 8) (by rfl) nd rfl rfl (by decide) rfl rfl (pa_cons (pe_call (ok_cell T (TTof T)) (hr.mono (by decide)) rfl T.g_Lcell T.F_Lcell.kp T.b_Lcell .nil pass0 (pa_cons (pv 1) (pa_cons (pv 2) pa_nil))) (pa_cons (pe_call (ok_cell T (TTof T)) (hr.mono (by decide)) rfl T.g_Lcell T.F_Lcell.kp T.b_Lcell .nil pass0 (pa_cons (pv 1) (pa_cons (pv 2) pa_nil))) pa_nil)) (by rfl))
        (pss_cons (ps_if (PW.pt (pw_and (pt_truth (pv 3) (by intro _; rfl)) (pw_and1 (pt_cmpR op_eq (pe_call (ok_take T (TTof T)) (hr.mono (by decide)) rfl T.g_Ltake T.F_Ltake.kp T.b_Ltake .nil pass0 (pa_cons (pv 1) (pa_cons pe_int pa_nil))) pe_int (nomark _)))))
            (pss_one (ps_asg (pe_call (ok_one T (TTof T)) (hr.mono (by decide)) rfl T.g_Lone T.F_Lone.kp T.b_Lone .nil pass0 (pa_cons (pv 1) (pa_cons (pv 3) pa_nil))) (pg_tup rfl (pgs_cons (pg_name (i := 7) nd rfl (Or.inl rfl)) (pgs_cons (pg_name (i := 8) nd rfl (Or.inl rfl)) pgs_nil))))) pss_nil)
        (pss_cons (ps_if (pt_cmpR op_eq (pe_call (ok_take T (TTof T)) (hr.mono (by decide)) rfl T.g_Ltake T.F_Ltake.kp T.b_Ltake .nil pass0 (pa_cons (pv 1) (pa_cons pe_int pa_nil))) pe_int (nomark _))
            (pss_one (ps_par (i := 7) (j := 8) (by rfl) nd rfl rfl (by decide) rfl rfl (pa_cons (pv 8) (pa_cons (pv 7) pa_nil)) (by rfl))) pss_nil)
        (pss_cons (ps_set (i := 9) nd rfl (Or.inl rfl) (pe_call (ok_due T (TTof T)) (hr.mono (by decide)) rfl T.g_Ldue T.F_Ldue.kp T.b_Ldue .nil pass0 (pa_cons (pv 6) (pa_cons (pv 2) (pa_cons (pv 3) (pa_cons (pv 7) (pa_cons (pv 8) pa_nil)))))))
        (pss_cons (ps_if (PW.pt (pw_or (pt_cmpR (op_neD hr.units) (pe_call (ok_told T TB) hr rfl T.g_Ltold T.F_Ltold.kp T.b_Ltold .nil pass0 (pa_cons (pv 6) (pa_cons (pv 5) (pa_cons (pv 7) (pa_cons (pv 8) pa_nil))))) (pv 9) (nomark _))
              (pw_or (pt_cmpR op_ne (pe_fld (pv 5) rfl) (pv 2) (nomark _)) (pw_or1 (pt_cmpR (op_neD hr.units) (pe_fld (pv 5) rfl) (pe_callTy call_tuple_of (by rfl) T.n_tuple (by decide +kernel) (pa_cons (pv 3) pa_nil)) (nomark _))))))
            (pss_one (ps_ret pe_bl)) pss_nil)
        (pss_cons (ps_if (PW.pt (pw_and (pt_cmpR op_eq (pe_ix ix_tup (pv 9) pe_int (fun _ _ => rfl)) pe_str (nomark _)) (pw_and1 (pt_cmpR op_lt (pv 6) pe_int (nomark _)))))
            (pss_cons (ps_set (i := 10) nd rfl (Or.inl rfl) (pe_call (ok_changed T TB) (hr.mono (by decide)) rfl T.g_Lchanged T.F_Lchanged.kp T.b_Lchanged .nil px (pa_cons (pe_op op_sub pe_int (pv 6)) (pa_cons (pe_call (ok_changed T TB) (hr.mono (by decide)) rfl T.g_Lchanged T.F_Lchanged.kp T.b_Lchanged .nil px (pa_cons (pv 6) (pa_cons (pv 5) (pa_cons (pv 7) (pa_cons (pv 8) pa_nil))))) (pa_cons (pv 8) (pa_cons (pv 7) pa_nil))))))
            (pss_one (ps_if (PW.pt (pw_or (pt_cmpR op_ne (pe_fld (pv 10) rfl) (pv 2) (nomark _)) (pw_or (pt_cmpR (op_neD hr.units) (pe_fld (pv 10) rfl) (pe_callTy call_tuple_of (by rfl) T.n_tuple (by decide +kernel) (pa_cons (pv 3) pa_nil)) (nomark _))
                (pw_or1 (pt_not (pt_val (pe_call (ok_near_right T (TTof T)) (hr.mono (by decide)) rfl T.g_Lnear_right T.F_Lnear_right.kp T.b_Lnear_right .nil pass0 (pa_cons (pv 10) (pa_cons (pv 3) (pa_cons (pv 7) pa_nil)))))))))) (pss_one (ps_ret pe_bl)) pss_nil))) pss_nil)
        (pss_one (ps_if (pt_cmpR op_eq (pe_ix ix_tup (pv 9) pe_int (fun _ _ => rfl)) pe_str (nomark _))
            (pss_one (ps_par (i := 2) (j := 3) (by rfl) nd rfl rfl (by decide) rfl rfl (pa_cons (pe_ix ix_tup (pv 9) pe_int (fun _ _ => rfl)) (pa_cons (pe_callTy call_list_of (by rfl) T.n_list (by decide +kernel) (pa_cons (pe_ix ix_tup (pv 9) pe_int (fun _ _ => rfl)) pa_nil)) pa_nil)) (by rfl))) pss_nil)))))))))))
      (pss_one (ps_ret pe_bl))))), ?_⟩
    refine ⟨_, rfl, l0, ns, rfl, hl0, hb, fun v H1 x1 hv => ?_⟩
    obtain ⟨so, rfl, s1⟩ := hv
    have tb1 := x1.tb hT
    refine ⟨_, rfl, _, rfl, so, 7, rfl, s1, by decide, by decide, fun v H2 x2 s2 hv => ?_⟩
    obtain ⟨m, rfl, m0, m1⟩ := hv
    refine ⟨_, _, rfl, rfl, so, 1 + m, rfl, s2, by omega, by omega, fun v H3 x3 s3 hv => ?_⟩
    obtain ⟨t, l, ps, rfl, ht, ls, hl, vd, z⟩ := hv
    refine ⟨t, _, rfl, SqT.of ht, rfl, _, _, rfl, _, _, rfl, rfl, ?_⟩
    dsimp only
    refine seq_cut (LI (TTof T) H1 l0 so) (fun R join => ?_) (fun σ H4 J => ?_)
    · refine ⟨_, rfl, so, 12, rfl, s3, by decide, by decide, fun v H4 x4 s4 hv => ?_⟩
      obtain ⟨m2, rfl, _, _⟩ := hv
      refine ⟨rfl, _, rfl, ?_⟩
      refine iteB (fun _ => ?_) (fun _ => ?_)
      · refine ⟨_, rfl, so, rfl, s4, fun v H5 x5 s5 hv => ?_⟩
        obtain ⟨t2, l2, qs, rfl, ht2, ls2, hl2, vd2, z2⟩ := hv
        refine ⟨t2, _, rfl, SqT.of ht2, rfl, _, _, rfl, _, _, rfl, rfl, ?_⟩
        exact join _ _ ⟨19, l2, qs, _, _, _, _, _, _, _, rfl, ((x2.trans x3).trans x4).trans x5, s5, ls2, hl2, vd2, by decide, by decide, z2⟩
      · exact join _ _ ⟨1 + m, l, ps, _, _, _, _, _, _, _, rfl, (x2.trans x3).trans x4, s4, ls, hl.extS ls s3 x4, vd, by omega, by omega, z⟩
    · obtain ⟨n, l, ps, u4, u5, u6, u7, u8, u9, u10, rfl, x4, s4, ls, hl, g⟩ := J
      refine ⟨_, rfl, so, 5, rfl, s4, by decide, by decide, fun v H5 x5 s5 hv => ?_⟩
      obtain ⟨m, rfl, m0, m1⟩ := hv
      refine ⟨_, _, rfl, rfl, 2 + m, rfl, by omega, by omega, for_range (lo := 0) (n := (2 + m).toNat) (fun _ => LI (TTof T) H1 l0 so) ⟨n, l, ps, _, _, _, _, _, _, _, rfl, x4.trans x5, s5, ls, hl.extS ls s4 x5, g⟩ ?_ ?_⟩
      · rintro i σ H6 hi ⟨n, l, ps, u4, u5, u6, u7, u8, u9, u10, rfl, x6, s6, ls, hl, g⟩
        obtain ⟨xs, hx, hxs⟩ := hl
        have lx := lk_len hxs
        have gz := g.z
        have g1 := g.n1
        have g2 := g.n2
        refine ⟨_, rfl, _, rfl, l, xs, rfl, .inl ⟨SqL.of hx, fun lt nlt => ?_⟩⟩
        have x7 : Ext (TTof T) (some so) H1 (upd H6 lt (.tup xs)) := x6.trans (Ext.new nlt)
        refine fun p dx np ndx ne => ?_
        have e := make_new (TT := TTof T) (C := T.C_Web) np ndx ne
        have hlt : Tp (upd H6 lt (.tup xs)) (.ref lt) (.tuple (lkD ps)) := .tup upd_same (hxs.mono (TK.new nlt))
        refine ⟨p, dx, n, lt, ps, rfl, upd_same, hlt.mono e.tk, e.tb (x7.tb tb1), fun z => absurd ⟨g1, g2⟩ z, fun _ z => absurd z (by omega), fun _ _ i hi z => absurd (valid_nofault g.ok i hi) z, fun _ _ _ H8 x2 hw0 => ⟨rfl, ?_⟩⟩
        have x8 := make_ext np ndx x2
        have x08 := x7.trans x8.toS
        have hw8 : WebIn T (TTof T) H8 p n lt ps := ⟨hw0, g.ok, ⟨g1, g2⟩, gz, x08.tb tb1⟩
        have s8 := x08.src s1
        have hl8 : IsLinks H8 l ps := (IsLinks.new ⟨xs, hx, hxs⟩ nlt).ext x8
        refine ⟨_, rfl, (by show 6 ≤ sizeLine; decide), fun lw nlw => ?_⟩
        have x9 := x08.trans (Ext.new (o := .lst [.int 0, .int 0, .int 0, .int 1, .int 1, .int 2]) nlw)
        refine ⟨so, lw, _, rfl, x9.src s1, upd_same, src_ne s8 nlw, by show 0 < 6; decide, by show 6 < 1000; decide, fun v H10 x10 s10 hv => ?_⟩
        have x89 : Ext (TTof T) (some so) H8 (upd H8 lw (.lst [.int 0, .int 0, .int 0, .int 1, .int 1, .int 2])) := Ext.new nlw
        have x810 := x89.trans x10
        have hc : ∃ c : Int, v = .int c ∧ (c = 0 ∨ c = 1 ∨ c = 2) := by
          simp only [List.mem_cons, List.not_mem_nil, or_false] at hv
          rcases hv with z | z | z | z | z | z
          · exact ⟨0, z, .inl rfl⟩
          · exact ⟨0, z, .inl rfl⟩
          · exact ⟨0, z, .inl rfl⟩
          · exact ⟨1, z, .inr (.inl rfl)⟩
          · exact ⟨1, z, .inr (.inl rfl)⟩
          · exact ⟨2, z, .inr (.inr rfl)⟩
        obtain ⟨c, rfl, hc⟩ := hc
        refine ⟨_, rfl, _, rfl, so, n, rfl, s10, by omega, by omega, fun v H11 x11 s11 hv => ?_⟩
        obtain ⟨a, rfl⟩ := hv
        refine ⟨_, rfl, _, rfl, so, n, rfl, s11, by omega, by omega, fun v H12 x12 s12 hv => ?_⟩
        obtain ⟨b, rfl⟩ := hv
        refine ⟨_, _, rfl, ?_⟩
        have x812 := (x810.trans x11).trans x12
        dsimp only
        refine seq_cut (fun σ H' => ∃ a b : Int, σ = [some (.ref l0), some (.ref so), some (.int n), some (.ref l), some (.int (0 + (i : Int))), some (.ref p), some (.int c), some (.int a), some (.int b), u9, u10] ∧ Ext (TTof T) (some so) H8 H' ∧ Src H' so) (fun R join => ?_) (fun σ H13 J => ?_)
        · have hl12 := hl8.extS ls s8 x812
          obtain ⟨ys, hy, hys⟩ := hl12
          have ly := lk_len hys
          refine ⟨_, rfl, !ys.isEmpty, .inl ⟨ys, SqL.of hy, rfl⟩, ?_⟩
          refine iteB (fun ne => ?_) (fun _ => ?_)
          · refine ⟨_, rfl, so, 3, rfl, s12, by decide, by decide, fun v H13 x13 s13 hv => ?_⟩
            obtain ⟨m, rfl, _, _⟩ := hv
            refine ⟨rfl, _, rfl, ?_⟩
            refine iteB (fun _ => ?_) (fun _ => ?_)
            · have y0 : 0 < ys.length := by
                cases ys with
                | nil => cases ne
                | cons _ _ => exact Nat.succ_pos _
              refine ⟨_, rfl, _, rfl, so, l, ys, rfl, s13, x13.lstS ls hy, ls, y0, by omega, fun v H14 x14 s14 hv => ?_⟩
              obtain ⟨j, hj⟩ := List.getElem?_of_mem hv
              have hys14 := hys.mono ((x13.trans x14).tkS s12)
              obtain ⟨d, hd, hdz⟩ := hys14.get hj
              unfold lkD at hd
              rw [List.getElem?_map] at hd
              cases ep : ps[j]? with
              | none => rw [ep] at hd; cases hd
              | some q =>
                rw [ep] at hd
                cases hd
                obtain ⟨az, rfl, haz⟩ := tp_pr hdz
                refine ⟨az, _, rfl, SqT.of haz, rfl, _, _, rfl, _, _, rfl, rfl, ?_⟩
                exact join _ _ ⟨q.1, q.2, rfl, (x812.trans x13).trans x14, s14⟩
            · exact join _ _ ⟨a, b, rfl, x812.trans x13, s13⟩
          · exact join _ _ ⟨a, b, rfl, x812, s12⟩
        · obtain ⟨a, b, rfl, x813, s13⟩ := J
          refine seq_cut (fun σ H' => ∃ a b : Int, σ = [some (.ref l0), some (.ref so), some (.int n), some (.ref l), some (.int (0 + (i : Int))), some (.ref p), some (.int c), some (.int a), some (.int b), u9, u10] ∧ Ext (TTof T) (some so) H8 H' ∧ Src H' so) (fun R join => ?_) (fun σ H14 J => ?_)
          · refine ⟨_, rfl, so, 2, rfl, s13, by decide, by decide, fun v H14 x14 s14 hv => ?_⟩
            obtain ⟨m, rfl, _, _⟩ := hv
            refine ⟨rfl, _, rfl, ?_⟩
            refine iteB (fun _ => ?_) (fun _ => ?_)
            · refine ⟨_, rfl, _, rfl, _, _, rfl, ?_⟩
              exact join _ _ ⟨b, a, rfl, x813.trans x14, s14⟩
            · exact join _ _ ⟨a, b, rfl, x813.trans x14, s14⟩
          · obtain ⟨a, b, rfl, x814, s14⟩ := J
            have x14 := x08.trans x814
            have hw := hw8.extS s8 x814
            have hl := hl8.extS ls s8 x814
            clear x813 s13 x812 x12 x11 x10 x9 x89 x810
            obtain ⟨ys, hy, hys⟩ := hl
            have ly := lk_len hys
            refine ⟨_, rfl, _, rfl, _, rfl, _, rfl, _, rfl, c, n, a, b, l, ps, rfl, ⟨ys, hy, hys⟩, by omega, fun dv H15 x15 hdv => ?_⟩
            have x115 := x14.trans x15.toS
            have s15 := x15.toS (so := some so) |>.src s14
            have hw15 := hw.ext x15
            refine ⟨_, rfl, _, rfl, _, rfl, _, rfl, c, n, a, b, p, lt, ps, rfl, hc, hw15, fun tv H16 x16 htv => ?_⟩
            refine ⟨_, rfl, _, _, htv.dp, (hdv.mono x16.tk).dp, res_shaped _, res_shaped _, _, rfl, ?_⟩
            rw [res_eqv]
            refine iteF ?_
            have hw16 := hw15.ext x16
            have x116 := x115.trans x16.toS
            have s16 : Src H16 so := (x16.toS (so := some so)).src s15
            have hdv16 := hdv.mono x16.tk
            have hy16 := (x15.trans x16).lst hy
            have hys16 := hys.mono (x15.trans x16).tk
            obtain ⟨⟨dx16, rt16, hp16, _⟩, hlt16⟩ := hw16.at_
            refine ⟨_, rfl, p, T.C_Web, dx16, _, _, rfl, hp16, T.cl_Web, T.na_Web_size, webF_size _ _ _, _, rfl, rfl, _, rfl, ?_⟩
            refine iteF' (by simp) ?_
            refine ⟨_, rfl, p, T.C_Web, dx16, _, _, rfl, hp16, T.cl_Web, T.na_Web_links, webF_links _ _ _, _, rfl, l, ys, rfl, .inl ⟨SqL.of hy16, fun t nt => ?_⟩⟩
            have hT1 : Tp (upd H16 t (.tup ys)) (.ref t) (.tuple (lkD ps)) := .tup upd_same (hys16.mono (TK.new nt))
            refine ⟨_, _, (hlt16.mono (TK.new nt)).dp, hT1.dp, shaped_lkT _, shaped_lkT _, _, rfl, ?_⟩
            rw [SeqAt.eqv_refl _ (by rw [PyData.canLay0]; exact lay_lk ps)]
            refine iteF ?_
            have x17 : Ext (TTof T) none H16 (upd H16 t (.tup ys)) := Ext.new nt
            generalize upd H16 t (.tup ys) = H17 at x17
            have x117 := x116.trans x17.toS
            have s17 := (x17.toS (so := some so)).src s16
            have hw17 := hw16.ext x17
            have hdv17 := hdv16.mono x17.tk
            have hl17 : IsLinks H17 l ps := ⟨ys, x17.lst hy16, hys16.mono x17.tk⟩
            cases e : due c n ps a b with
            | cell x =>
              obtain ⟨d, zs, rfl, hd, _⟩ := str_first (show Tp H17 dv (.tuple (.str "cell" :: _)) by rw [e] at hdv17; exact hdv17)
              refine ⟨_, rfl, d, _, 0, _, rfl, rfl, SqT.of hd, atI_nat (j := 0) rfl, rfl, _, rfl, ?_⟩
              refine iteF' (by decide +kernel) (iteF ?_)
              refine ⟨_, rfl, d, _, 0, _, rfl, rfl, SqT.of hd, atI_nat (j := 0) rfl, rfl, _, rfl, ?_⟩
              refine iteF' (by decide +kernel) ?_
              exact ⟨n, l, ps, _, _, _, _, _, _, _, rfl, x117, s17, ls, hl17, g⟩
            | size x =>
              obtain ⟨d, zs, rfl, hd, _⟩ := str_first (show Tp H17 dv (.tuple (.str "size" :: _)) by rw [e] at hdv17; exact hdv17)
              refine ⟨_, rfl, d, _, 0, _, rfl, rfl, SqT.of hd, atI_nat (j := 0) rfl, rfl, _, rfl, ?_⟩
              refine iteF' (by decide +kernel) (iteF ?_)
              refine ⟨_, rfl, d, _, 0, _, rfl, rfl, SqT.of hd, atI_nat (j := 0) rfl, rfl, _, rfl, ?_⟩
              refine iteF' (by decide +kernel) ?_
              exact ⟨n, l, ps, _, _, _, _, _, _, _, rfl, x117, s17, ls, hl17, g⟩
            | pair x y =>
              obtain ⟨d, zs, rfl, hd, _⟩ := str_first (show Tp H17 dv (.tuple (.str "pair" :: _)) by rw [e] at hdv17; exact hdv17)
              refine ⟨_, rfl, d, _, 0, _, rfl, rfl, SqT.of hd, atI_nat (j := 0) rfl, rfl, _, rfl, ?_⟩
              refine iteF' (by decide +kernel) (iteF ?_)
              refine ⟨_, rfl, d, _, 0, _, rfl, rfl, SqT.of hd, atI_nat (j := 0) rfl, rfl, _, rfl, ?_⟩
              refine iteF' (by decide +kernel) ?_
              exact ⟨n, l, ps, _, _, _, _, _, _, _, rfl, x117, s17, ls, hl17, g⟩
            | many x =>
              obtain ⟨d, zs, rfl, hd, _⟩ := str_first (show Tp H17 dv (.tuple (.str "many" :: _)) by rw [e] at hdv17; exact hdv17)
              refine ⟨_, rfl, d, _, 0, _, rfl, rfl, SqT.of hd, atI_nat (j := 0) rfl, rfl, _, rfl, ?_⟩
              refine iteF' (by decide +kernel) (iteF ?_)
              refine ⟨_, rfl, d, _, 0, _, rfl, rfl, SqT.of hd, atI_nat (j := 0) rfl, rfl, _, rfl, ?_⟩
              refine iteF' (by decide +kernel) ?_
              exact ⟨n, l, ps, _, _, _, _, _, _, _, rfl, x117, s17, ls, hl17, g⟩
            | web m qs =>
              obtain ⟨d, zs, rfl, hd, hzs⟩ := str_first (show Tp H17 dv (.tuple (.str "web" :: _)) by rw [e] at hdv17; exact hdv17)
              cases hzs with
              | cons h1 h2 =>
              cases h1
              cases h2 with
              | cons h3 h4 =>
              cases h4
              obtain ⟨ql, qv, rfl, hql, hqs⟩ := tup_of h3
              have gd := due_good g hc e
              dsimp only [tNext]
              refine seq_cut (fun σ H' => ∃ u, σ = [some (.ref l0), some (.ref so), some (.int n), some (.ref l), some (.int (0 + (i : Int))), some (.ref p), some (.int c), some (.int a), some (.int b), some (.ref d), u] ∧ Ext (TTof T) none H17 H') (fun R join => ?_) (fun σ H18 J => ?_)
              · refine ⟨_, rfl, d, _, 0, _, rfl, rfl, SqT.of hd, atI_nat (j := 0) rfl, rfl, _, rfl, ?_⟩
                refine iteT' (by decide +kernel) ?_
                refine ⟨_, rfl, _, _, rfl, rfl, _, rfl, ?_⟩
                refine iteB (fun lt2 => ?_) (fun _ => ?_)
                · have hc2 : c = 0 ∨ c = 1 := by
                    have := of_decide_eq_true lt2
                    omega
                  refine ⟨_, rfl, _, _, rfl, rfl, _, rfl, _, rfl, _, rfl, _, rfl, c, n, a, b, p, lt, ps, rfl, hc, hw17, ?_⟩
                  rw [e]
                  intro p2 lt2 H18 x18 hw18
                  refine ⟨_, rfl, _, rfl, 1 - c, m, b, a, p2, lt2, qs, rfl, by omega, hw18, ?_⟩
                  rw [due_back g hc2 e]
                  intro p3 lt3 H19 x19 hw19
                  have x1719 := x18.trans x19
                  obtain ⟨ys', hy', hys'⟩ := hl17.ext x1719
                  obtain ⟨⟨dx19, rt19, hp19, _⟩, hlt19⟩ := hw19.at_
                  refine ⟨_, rfl, p3, T.C_Web, dx19, _, _, rfl, hp19, T.cl_Web, T.na_Web_size, webF_size _ _ _, _, rfl, rfl, _, rfl, ?_⟩
                  refine iteF' (by simp) ?_
                  refine ⟨_, rfl, p3, T.C_Web, dx19, _, _, rfl, hp19, T.cl_Web, T.na_Web_links, webF_links _ _ _, _, rfl, l, ys', rfl, .inl ⟨SqL.of hy', fun t nt => ?_⟩⟩
                  have hT1 : Tp (upd H19 t (.tup ys')) (.ref t) (.tuple (lkD ps)) := .tup upd_same (hys'.mono (TK.new nt))
                  refine ⟨_, _, (hlt19.mono (TK.new nt)).dp, hT1.dp, shaped_lkT _, shaped_lkT _, _, rfl, ?_⟩
                  rw [SeqAt.eqv_refl _ (by rw [PyData.canLay0]; exact lay_lk ps)]
                  refine iteF ?_
                  have x20 : Ext (TTof T) none H19 (upd H19 t (.tup ys')) := Ext.new nt
                  refine ⟨_, rfl, _, rfl, _, rfl, p3, lt3, l, n, a, ps, rfl, hw19.ext x20, IsLinks.ext ⟨ys', hy', hys'⟩ x20, gd.2.1, gd.2.2.1, fun v H21 x21 hv => ?_⟩
                  subst hv
                  refine ⟨true, rfl, ?_⟩
                  refine iteF ?_
                  exact join _ _ ⟨_, rfl, (x1719.trans x20).trans x21⟩
                · exact join _ _ ⟨_, rfl, Ext.refl ..⟩
              · obtain ⟨u, rfl, x18⟩ := J
                have hd18 := x18.tup hd
                refine ⟨_, rfl, d, _, 0, _, rfl, rfl, SqT.of hd18, atI_nat (j := 0) rfl, rfl, _, rfl, ?_⟩
                refine iteT' (by decide +kernel) ?_
                refine ⟨_, rfl, d, _, 1, _, rfl, rfl, SqT.of hd18, atI_nat (j := 1) rfl, _, rfl, d, _, 2, _, rfl, rfl, SqT.of hd18, atI_nat (j := 2) rfl, ql, qv, rfl, .inr (SqT.of (x18.tup hql)), fun l2 nl2 => ⟨_, _, rfl, ?_⟩⟩
                have x118 := x117.trans x18.toS
                have x19 := x118.trans (Ext.new (o := .lst qv) nl2)
                exact ⟨m, l2, qs, _, _, _, _, _, _, _, rfl, x19, x19.src s1, src_ne (x118.src s1) nl2, ⟨qv, upd_same, hqs.mono (x18.tk.trans (TK.new nl2))⟩, gd.1⟩
      · rintro σ H6 ⟨n, l, ps, u4, u5, u6, u7, u8, u9, u10, rfl, x6, s6, ls, hl, g⟩
        exact k _
end
end R
end

-- EndMk
section
set_option Elab.async false
set_option linter.all false
set_option maxRecDepth 100000
set_option maxHeartbeats 4000000
namespace R
open PySem PySem.Spec PyProof.Rows L2 LamX NdefX LamP TryA
theorem exm_by {K : PySem.W.Frag} {S F : Addr} {b : Bool} (h1 : PySem.W.subIn K (.ref F) (.type "BaseException") = some true) (h2 : PySem.W.isClsIn K F = true) (h3 : PySem.W.typeIn K (.ref F) = some (.type "type")) (h4 : PySem.W.subIn K (.ref S) (.ref F) = some b) : PySem.W.exmOne K (.ref S) (.ref F) = some b := by
  have a1 : (PySem.W.subIn K (.ref F) (.type "BaseException") == some true) = true := by rw [h1] <;> rfl
  have a2 : ((PySem.W.clsIn K F).isSome && PySem.W.typeIn K (.ref F) == some (.type "type")) = true := by
    rw [show (PySem.W.clsIn K F).isSome = true from h2, h3] <;> rfl
  unfold PySem.W.exmOne
  first
    | rw [if_pos a1, if_pos a2, h4]
    | (show (if _ = true then (if _ = true then _ else _) else _) = _; rw [if_pos a1, if_pos a2, h4])
theorem law_at {l : PySem.W.OpenLaw} {w : World} {K : PySem.W.Frag} {h : Heap} {mg : Str → Option Value} {fa : Addr} (X : K.In h) (T : Txt K mg) (hfa : mg "law" = some (.ref fa)) (ht : h.get? T.P_check_links = some { cls := .none, data := .fields #[] })
    (hb : ∀ (s : Shared) (u : Value), BindsTo s T.d_law ⟨[u], []⟩ [("_law_script", u)]) : LawAtS l w K CX0 13 63 "_law_script" mg fa h := by
  have e := hfa.symm.trans T.g_law
  cases e
  refine ⟨T.d_law, [(T.c_check_links, T.P_check_links)], spLaw K (TTof T), ?_, ?_, ?_, hb, ?_, ?_⟩
  · intro p hp
    cases List.mem_singleton.mp hp
    exact ht
  · intro p hp
    cases List.mem_singleton.mp hp
    exact T.nl_check_links
  · intro p hp
    cases List.mem_singleton.mp hp
    exact PySem.W.codeHd_of_K X T.ch_check_links
  · intro H a ns _ hbits htab hS
    refine ⟨a, ns, rfl, hS, hbits, ?_, fun _ => rfl⟩
    intro p hp
    cases List.mem_singleton.mp hp
    exact TabN.nil (htab (T.c_check_links, T.P_check_links) List.mem_cons_self)
  · intro base _ _ TB
    exact ok_law T (TB (T.c_check_links, T.P_check_links) List.mem_cons_self)
theorem all_mk {l : PySem.W.OpenLaw} {w : World} {K : PySem.W.Frag} {h : Heap} {mg : Str → Option Value} {fa : Addr} (X : K.In h) (G : h.Ns mainGlobals mg) (hfa : mg "law" = some (.ref fa))
    {C_Refused N_Refused : Addr} {nm_Refused q_Refused : Str} {bs_Refused bm_Refused sub_Refused : List Value} {sn_Refused : List Str} {ab_Refused : Bool} {col_Refused : Option Bool} {dd_Refused : Option Addr} {m0_Refused m1_Refused m2_Refused m3_Refused m5_Refused : Option Value}
    {C_BadSize N_BadSize : Addr} {nm_BadSize q_BadSize : Str} {bs_BadSize bm_BadSize sub_BadSize : List Value} {sn_BadSize : List Str} {ab_BadSize : Bool} {col_BadSize : Option Bool} {dd_BadSize : Option Addr} {m0_BadSize m1_BadSize m2_BadSize m3_BadSize m5_BadSize : Option Value}
    {C_BadLink N_BadLink : Addr} {nm_BadLink q_BadLink : Str} {bs_BadLink bm_BadLink sub_BadLink : List Value} {sn_BadLink : List Str} {ab_BadLink : Bool} {col_BadLink : Option Bool} {dd_BadLink : Option Addr} {m0_BadLink m1_BadLink m2_BadLink m3_BadLink m5_BadLink : Option Value}
    {C_TooMany N_TooMany : Addr} {nm_TooMany q_TooMany : Str} {bs_TooMany bm_TooMany sub_TooMany : List Value} {sn_TooMany : List Str} {ab_TooMany : Bool} {col_TooMany : Option Bool} {dd_TooMany : Option Addr} {m0_TooMany m1_TooMany m2_TooMany m3_TooMany m5_TooMany : Option Value}
    {C_BadCell N_BadCell : Addr} {nm_BadCell q_BadCell : Str} {bs_BadCell bm_BadCell sub_BadCell : List Value} {sn_BadCell : List Str} {ab_BadCell : Bool} {col_BadCell : Option Bool} {dd_BadCell : Option Addr} {m0_BadCell m1_BadCell m2_BadCell m3_BadCell m5_BadCell : Option Value}
    {C_BadPair N_BadPair : Addr} {nm_BadPair q_BadPair : Str} {bs_BadPair bm_BadPair sub_BadPair : List Value} {sn_BadPair : List Str} {ab_BadPair : Bool} {col_BadPair : Option Bool} {dd_BadPair : Option Addr} {m0_BadPair m1_BadPair m2_BadPair m3_BadPair m5_BadPair : Option Value}
    {C_Web : Addr}
    {a_Refused_init : Addr} {od_Refused_init an_Refused_init : Option Addr} {sl_Refused_init : Array (Option Value)} {oc_Refused_init kV_Refused_init dc_Refused_init pm_Refused_init ct_Refused_init : Value} {cd_Refused_init : Value}
    {a_is_number : Addr} {od_is_number an_is_number : Option Addr} {sl_is_number : Array (Option Value)} {oc_is_number kV_is_number dc_is_number pm_is_number ct_is_number : Value} {cd_is_number : Value}
    {a_is_below : Addr} {od_is_below an_is_below : Option Addr} {sl_is_below : Array (Option Value)} {oc_is_below kV_is_below dc_is_below pm_is_below ct_is_below : Value} {cd_is_below : Value}
    {a_are_numbers : Addr} {od_are_numbers an_are_numbers : Option Addr} {sl_are_numbers : Array (Option Value)} {oc_are_numbers kV_are_numbers dc_are_numbers pm_are_numbers ct_are_numbers : Value} {cd_are_numbers : Value}
    {a_is_rising_pair : Addr} {od_is_rising_pair an_is_rising_pair : Option Addr} {sl_is_rising_pair : Array (Option Value)} {oc_is_rising_pair kV_is_rising_pair dc_is_rising_pair pm_is_rising_pair ct_is_rising_pair : Value} {cd_is_rising_pair : Value}
    {a_first_fault : Addr} {od_first_fault an_first_fault : Option Addr} {sl_first_fault : Array (Option Value)} {oc_first_fault kV_first_fault dc_first_fault pm_first_fault ct_first_fault : Value} {cd_first_fault : Value}
    {a_check_cell : Addr} {od_check_cell an_check_cell : Option Addr} {sl_check_cell : Array (Option Value)} {oc_check_cell kV_check_cell dc_check_cell pm_check_cell ct_check_cell : Value} {cd_check_cell : Value}
    {a_Web_init : Addr} {od_Web_init an_Web_init : Option Addr} {sl_Web_init : Array (Option Value)} {oc_Web_init kV_Web_init dc_Web_init pm_Web_init ct_Web_init : Value} {cd_Web_init : Value}
    {a_Web_near : Addr} {od_Web_near an_Web_near : Option Addr} {sl_Web_near : Array (Option Value)} {oc_Web_near kV_Web_near dc_Web_near pm_Web_near ct_Web_near : Value} {cd_Web_near : Value}
    {a_Web_linked : Addr} {od_Web_linked an_Web_linked : Option Addr} {sl_Web_linked : Array (Option Value)} {oc_Web_linked kV_Web_linked dc_Web_linked pm_Web_linked ct_Web_linked : Value} {cd_Web_linked : Value}
    {a_check_links : Addr} {od_check_links an_check_links : Option Addr} {sl_check_links : Array (Option Value)} {oc_check_links kV_check_links dc_check_links pm_check_links ct_check_links : Value} {c_check_links P_check_links : Addr}
    {a_near_rows : Addr} {od_near_rows an_near_rows : Option Addr} {sl_near_rows : Array (Option Value)} {oc_near_rows kV_near_rows dc_near_rows pm_near_rows ct_near_rows : Value} {cd_near_rows : Value}
    {a_web_within : Addr} {od_web_within an_web_within : Option Addr} {sl_web_within : Array (Option Value)} {oc_web_within kV_web_within dc_web_within pm_web_within ct_web_within : Value} {cd_web_within : Value}
    {a_with_link : Addr} {od_with_link an_with_link : Option Addr} {sl_with_link : Array (Option Value)} {oc_with_link kV_with_link dc_with_link pm_with_link ct_with_link : Value} {cd_with_link : Value}
    {a_without_link : Addr} {od_without_link an_without_link : Option Addr} {sl_without_link : Array (Option Value)} {oc_without_link kV_without_link dc_without_link pm_without_link ct_without_link : Value} {cd_without_link : Value}
    {a_without_cell : Addr} {od_without_cell an_without_cell : Option Addr} {sl_without_cell : Array (Option Value)} {oc_without_cell kV_without_cell dc_without_cell pm_without_cell ct_without_cell : Value} {cd_without_cell : Value}
    {a_rising : Addr} {od_rising an_rising : Option Addr} {sl_rising : Array (Option Value)} {oc_rising kV_rising dc_rising pm_rising ct_rising : Value} {cd_rising : Value}
    {a_Lpool : Addr} {od_Lpool an_Lpool : Option Addr} {sl_Lpool : Array (Option Value)} {oc_Lpool kV_Lpool dc_Lpool pm_Lpool ct_Lpool : Value} {cd_Lpool : Value}
    {a_Ltake : Addr} {od_Ltake an_Ltake : Option Addr} {sl_Ltake : Array (Option Value)} {oc_Ltake kV_Ltake dc_Ltake pm_Ltake ct_Ltake : Value} {cd_Ltake : Value}
    {a_Lone : Addr} {od_Lone an_Lone : Option Addr} {sl_Lone : Array (Option Value)} {oc_Lone kV_Lone dc_Lone pm_Lone ct_Lone : Value} {cd_Lone : Value}
    {a_Llink : Addr} {od_Llink an_Llink : Option Addr} {sl_Llink : Array (Option Value)} {oc_Llink kV_Llink dc_Llink pm_Llink ct_Llink : Value} {cd_Llink : Value}
    {a_Lany : Addr} {od_Lany an_Lany : Option Addr} {sl_Lany : Array (Option Value)} {oc_Lany kV_Lany dc_Lany pm_Lany ct_Lany : Value} {cd_Lany : Value}
    {a_Lfull : Addr} {od_Lfull an_Lfull : Option Addr} {sl_Lfull : Array (Option Value)} {oc_Lfull kV_Lfull dc_Lfull pm_Lfull ct_Lfull : Value} {cd_Lfull : Value}
    {a_Lcell : Addr} {od_Lcell an_Lcell : Option Addr} {sl_Lcell : Array (Option Value)} {oc_Lcell kV_Lcell dc_Lcell pm_Lcell ct_Lcell : Value} {cd_Lcell : Value}
    {a_Ldue : Addr} {od_Ldue an_Ldue : Option Addr} {sl_Ldue : Array (Option Value)} {oc_Ldue kV_Ldue dc_Ldue pm_Ldue ct_Ldue : Value} {cd_Ldue : Value}
    {a_Lchanged : Addr} {od_Lchanged an_Lchanged : Option Addr} {sl_Lchanged : Array (Option Value)} {oc_Lchanged kV_Lchanged dc_Lchanged pm_Lchanged ct_Lchanged : Value} {cd_Lchanged : Value}
    {a_Ltold : Addr} {od_Ltold an_Ltold : Option Addr} {sl_Ltold : Array (Option Value)} {oc_Ltold kV_Ltold dc_Ltold pm_Ltold ct_Ltold : Value} {cd_Ltold : Value}
    {a_Lnear_right : Addr} {od_Lnear_right an_Lnear_right : Option Addr} {sl_Lnear_right : Array (Option Value)} {oc_Lnear_right kV_Lnear_right dc_Lnear_right pm_Lnear_right ct_Lnear_right : Value} {cd_Lnear_right : Value}
    {a_law : Addr} {od_law an_law : Option Addr} {sl_law : Array (Option Value)} {oc_law kV_law dc_law pm_law ct_law : Value} {cd_law : Value}
    {t_MOST_CELLS : Tok}
    {t_MOST_LINKS : Tok}
    (aC_Refused : PySem.W.nsIn K mainGlobals "Refused" = some (some (.ref C_Refused)))
    (xL_Refused : K.lookup C_Refused = some (excClassObj nm_Refused q_Refused C_Refused N_Refused bs_Refused bm_Refused true sn_Refused sub_Refused ab_Refused col_Refused dd_Refused m0_Refused m1_Refused m2_Refused m3_Refused m5_Refused "ValueError.__new__"))
    (rV_Refused : PySem.HandSPX.refsVE bm_Refused = true)
    (sa_Refused : PySem.W.findIn K (.ref C_Refused) "__setattr__" = some (some (.builtin "object.__setattr__")))
    (ex_Refused : PySem.W.subIn K (.ref C_Refused) (.type "BaseException") = some true)
    (ty_Refused : PySem.W.typeIn K (.ref C_Refused) = some (.type "type"))
    (kC_Refused : PySem.W.keepIn K (.ref C_Refused) = true)
    (ga_Refused : PySem.W.findIn K (.ref C_Refused) "__getattribute__" = some (some (.builtin "BaseException.__getattribute__")))
    (gg_Refused : PySem.W.findIn K (.ref C_Refused) "__getattr__" = some none)
    (hd_Refused : PySem.W.hasDictIn K C_Refused = true)
    (is_Refused : PySem.W.isClsIn K C_Refused = true)
    (iC_Refused : PySem.W.findIn K (.ref C_Refused) "__init__" = some (some (.ref a_Refused_init)))
    (nw_Refused : PySem.W.findIn K (.ref C_Refused) "what" = some none)
    (aC_BadSize : PySem.W.nsIn K mainGlobals "BadSize" = some (some (.ref C_BadSize)))
    (xL_BadSize : K.lookup C_BadSize = some (excClassObj nm_BadSize q_BadSize C_BadSize N_BadSize bs_BadSize bm_BadSize true sn_BadSize sub_BadSize ab_BadSize col_BadSize dd_BadSize m0_BadSize m1_BadSize m2_BadSize m3_BadSize m5_BadSize "ValueError.__new__"))
    (rV_BadSize : PySem.HandSPX.refsVE bm_BadSize = true)
    (sa_BadSize : PySem.W.findIn K (.ref C_BadSize) "__setattr__" = some (some (.builtin "object.__setattr__")))
    (ex_BadSize : PySem.W.subIn K (.ref C_BadSize) (.type "BaseException") = some true)
    (ty_BadSize : PySem.W.typeIn K (.ref C_BadSize) = some (.type "type"))
    (kC_BadSize : PySem.W.keepIn K (.ref C_BadSize) = true)
    (ga_BadSize : PySem.W.findIn K (.ref C_BadSize) "__getattribute__" = some (some (.builtin "BaseException.__getattribute__")))
    (gg_BadSize : PySem.W.findIn K (.ref C_BadSize) "__getattr__" = some none)
    (hd_BadSize : PySem.W.hasDictIn K C_BadSize = true)
    (is_BadSize : PySem.W.isClsIn K C_BadSize = true)
    (iC_BadSize : PySem.W.findIn K (.ref C_BadSize) "__init__" = some (some (.ref a_Refused_init)))
    (nw_BadSize : PySem.W.findIn K (.ref C_BadSize) "what" = some none)
    (aC_BadLink : PySem.W.nsIn K mainGlobals "BadLink" = some (some (.ref C_BadLink)))
    (xL_BadLink : K.lookup C_BadLink = some (excClassObj nm_BadLink q_BadLink C_BadLink N_BadLink bs_BadLink bm_BadLink true sn_BadLink sub_BadLink ab_BadLink col_BadLink dd_BadLink m0_BadLink m1_BadLink m2_BadLink m3_BadLink m5_BadLink "ValueError.__new__"))
    (rV_BadLink : PySem.HandSPX.refsVE bm_BadLink = true)
    (sa_BadLink : PySem.W.findIn K (.ref C_BadLink) "__setattr__" = some (some (.builtin "object.__setattr__")))
    (ex_BadLink : PySem.W.subIn K (.ref C_BadLink) (.type "BaseException") = some true)
    (ty_BadLink : PySem.W.typeIn K (.ref C_BadLink) = some (.type "type"))
    (kC_BadLink : PySem.W.keepIn K (.ref C_BadLink) = true)
    (ga_BadLink : PySem.W.findIn K (.ref C_BadLink) "__getattribute__" = some (some (.builtin "BaseException.__getattribute__")))
    (gg_BadLink : PySem.W.findIn K (.ref C_BadLink) "__getattr__" = some none)
    (hd_BadLink : PySem.W.hasDictIn K C_BadLink = true)
    (is_BadLink : PySem.W.isClsIn K C_BadLink = true)
    (iC_BadLink : PySem.W.findIn K (.ref C_BadLink) "__init__" = some (some (.ref a_Refused_init)))
    (nw_BadLink : PySem.W.findIn K (.ref C_BadLink) "what" = some none)
    (aC_TooMany : PySem.W.nsIn K mainGlobals "TooMany" = some (some (.ref C_TooMany)))
    (xL_TooMany : K.lookup C_TooMany = some (excClassObj nm_TooMany q_TooMany C_TooMany N_TooMany bs_TooMany bm_TooMany true sn_TooMany sub_TooMany ab_TooMany col_TooMany dd_TooMany m0_TooMany m1_TooMany m2_TooMany m3_TooMany m5_TooMany "ValueError.__new__"))
    (rV_TooMany : PySem.HandSPX.refsVE bm_TooMany = true)
    (sa_TooMany : PySem.W.findIn K (.ref C_TooMany) "__setattr__" = some (some (.builtin "object.__setattr__")))
    (ex_TooMany : PySem.W.subIn K (.ref C_TooMany) (.type "BaseException") = some true)
    (ty_TooMany : PySem.W.typeIn K (.ref C_TooMany) = some (.type "type"))
    (kC_TooMany : PySem.W.keepIn K (.ref C_TooMany) = true)
    (ga_TooMany : PySem.W.findIn K (.ref C_TooMany) "__getattribute__" = some (some (.builtin "BaseException.__getattribute__")))
    (gg_TooMany : PySem.W.findIn K (.ref C_TooMany) "__getattr__" = some none)
    (hd_TooMany : PySem.W.hasDictIn K C_TooMany = true)
    (is_TooMany : PySem.W.isClsIn K C_TooMany = true)
    (iC_TooMany : PySem.W.findIn K (.ref C_TooMany) "__init__" = some (some (.ref a_Refused_init)))
    (nw_TooMany : PySem.W.findIn K (.ref C_TooMany) "what" = some none)
    (aC_BadCell : PySem.W.nsIn K mainGlobals "BadCell" = some (some (.ref C_BadCell)))
    (xL_BadCell : K.lookup C_BadCell = some (excClassObj nm_BadCell q_BadCell C_BadCell N_BadCell bs_BadCell bm_BadCell true sn_BadCell sub_BadCell ab_BadCell col_BadCell dd_BadCell m0_BadCell m1_BadCell m2_BadCell m3_BadCell m5_BadCell "ValueError.__new__"))
    (rV_BadCell : PySem.HandSPX.refsVE bm_BadCell = true)
    (sa_BadCell : PySem.W.findIn K (.ref C_BadCell) "__setattr__" = some (some (.builtin "object.__setattr__")))
    (ex_BadCell : PySem.W.subIn K (.ref C_BadCell) (.type "BaseException") = some true)
    (ty_BadCell : PySem.W.typeIn K (.ref C_BadCell) = some (.type "type"))
    (kC_BadCell : PySem.W.keepIn K (.ref C_BadCell) = true)
    (ga_BadCell : PySem.W.findIn K (.ref C_BadCell) "__getattribute__" = some (some (.builtin "BaseException.__getattribute__")))
    (gg_BadCell : PySem.W.findIn K (.ref C_BadCell) "__getattr__" = some none)
    (hd_BadCell : PySem.W.hasDictIn K C_BadCell = true)
    (is_BadCell : PySem.W.isClsIn K C_BadCell = true)
    (iC_BadCell : PySem.W.findIn K (.ref C_BadCell) "__init__" = some (some (.ref a_Refused_init)))
    (nw_BadCell : PySem.W.findIn K (.ref C_BadCell) "what" = some none)
    (aC_BadPair : PySem.W.nsIn K mainGlobals "BadPair" = some (some (.ref C_BadPair)))
    (xL_BadPair : K.lookup C_BadPair = some (excClassObj nm_BadPair q_BadPair C_BadPair N_BadPair bs_BadPair bm_BadPair true sn_BadPair sub_BadPair ab_BadPair col_BadPair dd_BadPair m0_BadPair m1_BadPair m2_BadPair m3_BadPair m5_BadPair "ValueError.__new__"))
    (rV_BadPair : PySem.HandSPX.refsVE bm_BadPair = true)
    (sa_BadPair : PySem.W.findIn K (.ref C_BadPair) "__setattr__" = some (some (.builtin "object.__setattr__")))
    (ex_BadPair : PySem.W.subIn K (.ref C_BadPair) (.type "BaseException") = some true)
    (ty_BadPair : PySem.W.typeIn K (.ref C_BadPair) = some (.type "type"))
    (kC_BadPair : PySem.W.keepIn K (.ref C_BadPair) = true)
    (ga_BadPair : PySem.W.findIn K (.ref C_BadPair) "__getattribute__" = some (some (.builtin "BaseException.__getattribute__")))
    (gg_BadPair : PySem.W.findIn K (.ref C_BadPair) "__getattr__" = some none)
    (hd_BadPair : PySem.W.hasDictIn K C_BadPair = true)
    (is_BadPair : PySem.W.isClsIn K C_BadPair = true)
    (iC_BadPair : PySem.W.findIn K (.ref C_BadPair) "__init__" = some (some (.ref a_Refused_init)))
    (nw_BadPair : PySem.W.findIn K (.ref C_BadPair) "what" = some none)
    (s_BadCell_BadCell : PySem.W.subIn K (.ref C_BadCell) (.ref C_BadCell) = some true)
    (s_BadPair_BadCell : PySem.W.subIn K (.ref C_BadPair) (.ref C_BadCell) = some false)
    (s_BadPair_BadPair : PySem.W.subIn K (.ref C_BadPair) (.ref C_BadPair) = some true)
    (s_BadSize_BadCell : PySem.W.subIn K (.ref C_BadSize) (.ref C_BadCell) = some false)
    (s_BadSize_BadPair : PySem.W.subIn K (.ref C_BadSize) (.ref C_BadPair) = some false)
    (s_BadSize_BadSize : PySem.W.subIn K (.ref C_BadSize) (.ref C_BadSize) = some true)
    (s_TooMany_BadCell : PySem.W.subIn K (.ref C_TooMany) (.ref C_BadCell) = some false)
    (s_TooMany_BadPair : PySem.W.subIn K (.ref C_TooMany) (.ref C_BadPair) = some false)
    (s_TooMany_BadSize : PySem.W.subIn K (.ref C_TooMany) (.ref C_BadSize) = some false)
    (s_TooMany_TooMany : PySem.W.subIn K (.ref C_TooMany) (.ref C_TooMany) = some true)
    (aC_Web : PySem.W.nsIn K mainGlobals "Web" = some (some (.ref C_Web)))
    (pg_Web : PySem.W.plainGet K C_Web Str.empty = true)
    (hd_Web : PySem.W.hasDictIn K C_Web = true)
    (po_Web : PySem.W.plainOver K C_Web = true)
    (sa_Web : PySem.W.findIn K (.ref C_Web) "__setattr__" = some (some (.builtin "object.__setattr__")))
    (mk_Web : PySem.W.makesIn K C_Web = true)
    (kC_Web : PySem.W.keepIn K (.ref C_Web) = true)
    (na_Web__rows : PySem.W.findIn K (.ref C_Web) "_rows" = some none)
    (na_Web_links : PySem.W.findIn K (.ref C_Web) "links" = some none)
    (na_Web_size : PySem.W.findIn K (.ref C_Web) "size" = some none)
    (at_Web_init : PySem.W.findIn K (.ref C_Web) "__init__" = some (some (.ref a_Web_init)))
    (fn_Web_init : PySem.W.isFn K (.ref a_Web_init) = true)
    (at_Web_near : PySem.W.findIn K (.ref C_Web) "near" = some (some (.ref a_Web_near)))
    (fn_Web_near : PySem.W.isFn K (.ref a_Web_near) = true)
    (at_Web_linked : PySem.W.findIn K (.ref C_Web) "linked" = some (some (.ref a_Web_linked)))
    (fn_Web_linked : PySem.W.isFn K (.ref a_Web_linked) = true)
    (l_Refused_init : K.lookup a_Refused_init = some ⟨oc_Refused_init, od_Refused_init, .func (PySem.W.fnOf "__init__" "Refused.__init__" (defArgs s_Refused_init) (defBody s_Refused_init) (defScope s_Refused_init) .none kV_Refused_init dc_Refused_init pm_Refused_init an_Refused_init cd_Refused_init ct_Refused_init), sl_Refused_init⟩)
    (co_Refused_init : PySem.W.codeIn K cd_Refused_init "Refused.__init__" = true)
    (k_Refused_init : PySem.W.keepIn K (.ref a_Refused_init) = true)
    (g_is_number : PySem.W.nsIn K mainGlobals "is_number" = some (some (.ref a_is_number)))
    (l_is_number : K.lookup a_is_number = some ⟨oc_is_number, od_is_number, .func (PySem.W.fnOf "is_number" "is_number" (defArgs s_is_number) (defBody s_is_number) (defScope s_is_number) .none kV_is_number dc_is_number pm_is_number an_is_number cd_is_number ct_is_number), sl_is_number⟩)
    (co_is_number : PySem.W.codeIn K cd_is_number "is_number" = true)
    (k_is_number : PySem.W.keepIn K (.ref a_is_number) = true)
    (g_is_below : PySem.W.nsIn K mainGlobals "is_below" = some (some (.ref a_is_below)))
    (l_is_below : K.lookup a_is_below = some ⟨oc_is_below, od_is_below, .func (PySem.W.fnOf "is_below" "is_below" (defArgs s_is_below) (defBody s_is_below) (defScope s_is_below) .none kV_is_below dc_is_below pm_is_below an_is_below cd_is_below ct_is_below), sl_is_below⟩)
    (co_is_below : PySem.W.codeIn K cd_is_below "is_below" = true)
    (k_is_below : PySem.W.keepIn K (.ref a_is_below) = true)
    (g_are_numbers : PySem.W.nsIn K mainGlobals "are_numbers" = some (some (.ref a_are_numbers)))
    (l_are_numbers : K.lookup a_are_numbers = some ⟨oc_are_numbers, od_are_numbers, .func (PySem.W.fnOf "are_numbers" "are_numbers" (defArgs s_are_numbers) (defBody s_are_numbers) (defScope s_are_numbers) .none kV_are_numbers dc_are_numbers pm_are_numbers an_are_numbers cd_are_numbers ct_are_numbers), sl_are_numbers⟩)
    (co_are_numbers : PySem.W.codeIn K cd_are_numbers "are_numbers" = true)
    (k_are_numbers : PySem.W.keepIn K (.ref a_are_numbers) = true)
    (g_is_rising_pair : PySem.W.nsIn K mainGlobals "is_rising_pair" = some (some (.ref a_is_rising_pair)))
    (l_is_rising_pair : K.lookup a_is_rising_pair = some ⟨oc_is_rising_pair, od_is_rising_pair, .func (PySem.W.fnOf "is_rising_pair" "is_rising_pair" (defArgs s_is_rising_pair) (defBody s_is_rising_pair) (defScope s_is_rising_pair) .none kV_is_rising_pair dc_is_rising_pair pm_is_rising_pair an_is_rising_pair cd_is_rising_pair ct_is_rising_pair), sl_is_rising_pair⟩)
    (co_is_rising_pair : PySem.W.codeIn K cd_is_rising_pair "is_rising_pair" = true)
    (k_is_rising_pair : PySem.W.keepIn K (.ref a_is_rising_pair) = true)
    (g_first_fault : PySem.W.nsIn K mainGlobals "first_fault" = some (some (.ref a_first_fault)))
    (l_first_fault : K.lookup a_first_fault = some ⟨oc_first_fault, od_first_fault, .func (PySem.W.fnOf "first_fault" "first_fault" (defArgs s_first_fault) (defBody s_first_fault) (defScope s_first_fault) .none kV_first_fault dc_first_fault pm_first_fault an_first_fault cd_first_fault ct_first_fault), sl_first_fault⟩)
    (co_first_fault : PySem.W.codeIn K cd_first_fault "first_fault" = true)
    (k_first_fault : PySem.W.keepIn K (.ref a_first_fault) = true)
    (g_check_cell : PySem.W.nsIn K mainGlobals "check_cell" = some (some (.ref a_check_cell)))
    (l_check_cell : K.lookup a_check_cell = some ⟨oc_check_cell, od_check_cell, .func (PySem.W.fnOf "check_cell" "check_cell" (defArgs s_check_cell) (defBody s_check_cell) (defScope s_check_cell) .none kV_check_cell dc_check_cell pm_check_cell an_check_cell cd_check_cell ct_check_cell), sl_check_cell⟩)
    (co_check_cell : PySem.W.codeIn K cd_check_cell "check_cell" = true)
    (k_check_cell : PySem.W.keepIn K (.ref a_check_cell) = true)
    (l_Web_init : K.lookup a_Web_init = some ⟨oc_Web_init, od_Web_init, .func (PySem.W.fnOf "__init__" "Web.__init__" (defArgs s_Web_init) (defBody s_Web_init) (defScope s_Web_init) .none kV_Web_init dc_Web_init pm_Web_init an_Web_init cd_Web_init ct_Web_init), sl_Web_init⟩)
    (co_Web_init : PySem.W.codeIn K cd_Web_init "Web.__init__" = true)
    (k_Web_init : PySem.W.keepIn K (.ref a_Web_init) = true)
    (l_Web_near : K.lookup a_Web_near = some ⟨oc_Web_near, od_Web_near, .func (PySem.W.fnOf "near" "Web.near" (defArgs s_Web_near) (defBody s_Web_near) (defScope s_Web_near) .none kV_Web_near dc_Web_near pm_Web_near an_Web_near cd_Web_near ct_Web_near), sl_Web_near⟩)
    (co_Web_near : PySem.W.codeIn K cd_Web_near "Web.near" = true)
    (k_Web_near : PySem.W.keepIn K (.ref a_Web_near) = true)
    (l_Web_linked : K.lookup a_Web_linked = some ⟨oc_Web_linked, od_Web_linked, .func (PySem.W.fnOf "linked" "Web.linked" (defArgs s_Web_linked) (defBody s_Web_linked) (defScope s_Web_linked) .none kV_Web_linked dc_Web_linked pm_Web_linked an_Web_linked cd_Web_linked ct_Web_linked), sl_Web_linked⟩)
    (co_Web_linked : PySem.W.codeIn K cd_Web_linked "Web.linked" = true)
    (k_Web_linked : PySem.W.keepIn K (.ref a_Web_linked) = true)
    (g_check_links : PySem.W.nsIn K mainGlobals "check_links" = some (some (.ref a_check_links)))
    (l_check_links : K.lookup a_check_links = some ⟨oc_check_links, od_check_links, .func (PySem.W.fnOf "check_links" "check_links" (defArgs s_check_links) (defBody s_check_links) (defScope s_check_links) .none kV_check_links dc_check_links pm_check_links an_check_links (.ref c_check_links) ct_check_links), sl_check_links⟩)
    (co_check_links : PySem.W.codeIn K (.ref c_check_links) "check_links" = true)
    (k_check_links : PySem.W.keepIn K (.ref a_check_links) = true)
    (ch_check_links : PySem.W.codeHdIn K c_check_links P_check_links = true)
    (nl_check_links : K.lookup P_check_links = none)
    (g_near_rows : PySem.W.nsIn K mainGlobals "near_rows" = some (some (.ref a_near_rows)))
    (l_near_rows : K.lookup a_near_rows = some ⟨oc_near_rows, od_near_rows, .func (PySem.W.fnOf "near_rows" "near_rows" (defArgs s_near_rows) (defBody s_near_rows) (defScope s_near_rows) .none kV_near_rows dc_near_rows pm_near_rows an_near_rows cd_near_rows ct_near_rows), sl_near_rows⟩)
    (co_near_rows : PySem.W.codeIn K cd_near_rows "near_rows" = true)
    (k_near_rows : PySem.W.keepIn K (.ref a_near_rows) = true)
    (g_web_within : PySem.W.nsIn K mainGlobals "web_within" = some (some (.ref a_web_within)))
    (l_web_within : K.lookup a_web_within = some ⟨oc_web_within, od_web_within, .func (PySem.W.fnOf "web_within" "web_within" (defArgs s_web_within) (defBody s_web_within) (defScope s_web_within) .none kV_web_within dc_web_within pm_web_within an_web_within cd_web_within ct_web_within), sl_web_within⟩)
    (co_web_within : PySem.W.codeIn K cd_web_within "web_within" = true)
    (k_web_within : PySem.W.keepIn K (.ref a_web_within) = true)
    (g_with_link : PySem.W.nsIn K mainGlobals "with_link" = some (some (.ref a_with_link)))
    (l_with_link : K.lookup a_with_link = some ⟨oc_with_link, od_with_link, .func (PySem.W.fnOf "with_link" "with_link" (defArgs s_with_link) (defBody s_with_link) (defScope s_with_link) .none kV_with_link dc_with_link pm_with_link an_with_link cd_with_link ct_with_link), sl_with_link⟩)
    (co_with_link : PySem.W.codeIn K cd_with_link "with_link" = true)
    (k_with_link : PySem.W.keepIn K (.ref a_with_link) = true)
    (g_without_link : PySem.W.nsIn K mainGlobals "without_link" = some (some (.ref a_without_link)))
    (l_without_link : K.lookup a_without_link = some ⟨oc_without_link, od_without_link, .func (PySem.W.fnOf "without_link" "without_link" (defArgs s_without_link) (defBody s_without_link) (defScope s_without_link) .none kV_without_link dc_without_link pm_without_link an_without_link cd_without_link ct_without_link), sl_without_link⟩)
    (co_without_link : PySem.W.codeIn K cd_without_link "without_link" = true)
    (k_without_link : PySem.W.keepIn K (.ref a_without_link) = true)
    (g_without_cell : PySem.W.nsIn K mainGlobals "without_cell" = some (some (.ref a_without_cell)))
    (l_without_cell : K.lookup a_without_cell = some ⟨oc_without_cell, od_without_cell, .func (PySem.W.fnOf "without_cell" "without_cell" (defArgs s_without_cell) (defBody s_without_cell) (defScope s_without_cell) .none kV_without_cell dc_without_cell pm_without_cell an_without_cell cd_without_cell ct_without_cell), sl_without_cell⟩)
    (co_without_cell : PySem.W.codeIn K cd_without_cell "without_cell" = true)
    (k_without_cell : PySem.W.keepIn K (.ref a_without_cell) = true)
    (g_rising : PySem.W.nsIn K mainGlobals "rising" = some (some (.ref a_rising)))
    (l_rising : K.lookup a_rising = some ⟨oc_rising, od_rising, .func (PySem.W.fnOf "rising" "rising" (defArgs s_rising) (defBody s_rising) (defScope s_rising) .none kV_rising dc_rising pm_rising an_rising cd_rising ct_rising), sl_rising⟩)
    (co_rising : PySem.W.codeIn K cd_rising "rising" = true)
    (k_rising : PySem.W.keepIn K (.ref a_rising) = true)
    (g_Lpool : PySem.W.nsIn K mainGlobals "_law_pool" = some (some (.ref a_Lpool)))
    (l_Lpool : K.lookup a_Lpool = some ⟨oc_Lpool, od_Lpool, .func (PySem.W.fnOf "_law_pool" "_law_pool" (defArgs s_Lpool) (defBody s_Lpool) (defScope s_Lpool) .none kV_Lpool dc_Lpool pm_Lpool an_Lpool cd_Lpool ct_Lpool), sl_Lpool⟩)
    (co_Lpool : PySem.W.codeIn K cd_Lpool "_law_pool" = true)
    (k_Lpool : PySem.W.keepIn K (.ref a_Lpool) = true)
    (g_Ltake : PySem.W.nsIn K mainGlobals "_law_take" = some (some (.ref a_Ltake)))
    (l_Ltake : K.lookup a_Ltake = some ⟨oc_Ltake, od_Ltake, .func (PySem.W.fnOf "_law_take" "_law_take" (defArgs s_Ltake) (defBody s_Ltake) (defScope s_Ltake) .none kV_Ltake dc_Ltake pm_Ltake an_Ltake cd_Ltake ct_Ltake), sl_Ltake⟩)
    (co_Ltake : PySem.W.codeIn K cd_Ltake "_law_take" = true)
    (k_Ltake : PySem.W.keepIn K (.ref a_Ltake) = true)
    (g_Lone : PySem.W.nsIn K mainGlobals "_law_one" = some (some (.ref a_Lone)))
    (l_Lone : K.lookup a_Lone = some ⟨oc_Lone, od_Lone, .func (PySem.W.fnOf "_law_one" "_law_one" (defArgs s_Lone) (defBody s_Lone) (defScope s_Lone) .none kV_Lone dc_Lone pm_Lone an_Lone cd_Lone ct_Lone), sl_Lone⟩)
    (co_Lone : PySem.W.codeIn K cd_Lone "_law_one" = true)
    (k_Lone : PySem.W.keepIn K (.ref a_Lone) = true)
    (g_Llink : PySem.W.nsIn K mainGlobals "_law_link" = some (some (.ref a_Llink)))
    (l_Llink : K.lookup a_Llink = some ⟨oc_Llink, od_Llink, .func (PySem.W.fnOf "_law_link" "_law_link" (defArgs s_Llink) (defBody s_Llink) (defScope s_Llink) .none kV_Llink dc_Llink pm_Llink an_Llink cd_Llink ct_Llink), sl_Llink⟩)
    (co_Llink : PySem.W.codeIn K cd_Llink "_law_link" = true)
    (k_Llink : PySem.W.keepIn K (.ref a_Llink) = true)
    (g_Lany : PySem.W.nsIn K mainGlobals "_law_any" = some (some (.ref a_Lany)))
    (l_Lany : K.lookup a_Lany = some ⟨oc_Lany, od_Lany, .func (PySem.W.fnOf "_law_any" "_law_any" (defArgs s_Lany) (defBody s_Lany) (defScope s_Lany) .none kV_Lany dc_Lany pm_Lany an_Lany cd_Lany ct_Lany), sl_Lany⟩)
    (co_Lany : PySem.W.codeIn K cd_Lany "_law_any" = true)
    (k_Lany : PySem.W.keepIn K (.ref a_Lany) = true)
    (g_Lfull : PySem.W.nsIn K mainGlobals "_law_full" = some (some (.ref a_Lfull)))
    (l_Lfull : K.lookup a_Lfull = some ⟨oc_Lfull, od_Lfull, .func (PySem.W.fnOf "_law_full" "_law_full" (defArgs s_Lfull) (defBody s_Lfull) (defScope s_Lfull) .none kV_Lfull dc_Lfull pm_Lfull an_Lfull cd_Lfull ct_Lfull), sl_Lfull⟩)
    (co_Lfull : PySem.W.codeIn K cd_Lfull "_law_full" = true)
    (k_Lfull : PySem.W.keepIn K (.ref a_Lfull) = true)
    (g_Lcell : PySem.W.nsIn K mainGlobals "_law_cell" = some (some (.ref a_Lcell)))
    (l_Lcell : K.lookup a_Lcell = some ⟨oc_Lcell, od_Lcell, .func (PySem.W.fnOf "_law_cell" "_law_cell" (defArgs s_Lcell) (defBody s_Lcell) (defScope s_Lcell) .none kV_Lcell dc_Lcell pm_Lcell an_Lcell cd_Lcell ct_Lcell), sl_Lcell⟩)
    (co_Lcell : PySem.W.codeIn K cd_Lcell "_law_cell" = true)
    (k_Lcell : PySem.W.keepIn K (.ref a_Lcell) = true)
    (g_Ldue : PySem.W.nsIn K mainGlobals "_law_due" = some (some (.ref a_Ldue)))
    (l_Ldue : K.lookup a_Ldue = some ⟨oc_Ldue, od_Ldue, .func (PySem.W.fnOf "_law_due" "_law_due" (defArgs s_Ldue) (defBody s_Ldue) (defScope s_Ldue) .none kV_Ldue dc_Ldue pm_Ldue an_Ldue cd_Ldue ct_Ldue), sl_Ldue⟩)
    (co_Ldue : PySem.W.codeIn K cd_Ldue "_law_due" = true)
    (k_Ldue : PySem.W.keepIn K (.ref a_Ldue) = true)
    (g_Lchanged : PySem.W.nsIn K mainGlobals "_law_changed" = some (some (.ref a_Lchanged)))
    (l_Lchanged : K.lookup a_Lchanged = some ⟨oc_Lchanged, od_Lchanged, .func (PySem.W.fnOf "_law_changed" "_law_changed" (defArgs s_Lchanged) (defBody s_Lchanged) (defScope s_Lchanged) .none kV_Lchanged dc_Lchanged pm_Lchanged an_Lchanged cd_Lchanged ct_Lchanged), sl_Lchanged⟩)
    (co_Lchanged : PySem.W.codeIn K cd_Lchanged "_law_changed" = true)
    (k_Lchanged : PySem.W.keepIn K (.ref a_Lchanged) = true)
    (g_Ltold : PySem.W.nsIn K mainGlobals "_law_told" = some (some (.ref a_Ltold)))
    (l_Ltold : K.lookup a_Ltold = some ⟨oc_Ltold, od_Ltold, .func (PySem.W.fnOf "_law_told" "_law_told" (defArgs s_Ltold) (defBody s_Ltold) (defScope s_Ltold) .none kV_Ltold dc_Ltold pm_Ltold an_Ltold cd_Ltold ct_Ltold), sl_Ltold⟩)
    (co_Ltold : PySem.W.codeIn K cd_Ltold "_law_told" = true)
    (k_Ltold : PySem.W.keepIn K (.ref a_Ltold) = true)
    (g_Lnear_right : PySem.W.nsIn K mainGlobals "_law_near_right" = some (some (.ref a_Lnear_right)))
    (l_Lnear_right : K.lookup a_Lnear_right = some ⟨oc_Lnear_right, od_Lnear_right, .func (PySem.W.fnOf "_law_near_right" "_law_near_right" (defArgs s_Lnear_right) (defBody s_Lnear_right) (defScope s_Lnear_right) .none kV_Lnear_right dc_Lnear_right pm_Lnear_right an_Lnear_right cd_Lnear_right ct_Lnear_right), sl_Lnear_right⟩)
    (co_Lnear_right : PySem.W.codeIn K cd_Lnear_right "_law_near_right" = true)
    (k_Lnear_right : PySem.W.keepIn K (.ref a_Lnear_right) = true)
    (g_law : PySem.W.nsIn K mainGlobals "law" = some (some (.ref a_law)))
    (l_law : K.lookup a_law = some ⟨oc_law, od_law, .func (PySem.W.fnOf "law" "law" (defArgs s_law) (defBody s_law) (defScope s_law) .none kV_law dc_law pm_law an_law cd_law ct_law), sl_law⟩)
    (co_law : PySem.W.codeIn K cd_law "law" = true)
    (k_law : PySem.W.keepIn K (.ref a_law) = true)
    (tI : PySem.W.typeIn K (.ref a_Refused_init) = some (.type "function"))
    (c_MOST_CELLS : PySem.W.nsIn K mainGlobals "MOST_CELLS" = some (some (.int 40 t_MOST_CELLS)))
    (c_MOST_LINKS : PySem.W.nsIn K mainGlobals "MOST_LINKS" = some (some (.int 160 t_MOST_LINKS)))
    (n_all : PySem.W.nsIn K mainGlobals "all" = some (none))
    (n_bool : PySem.W.nsIn K mainGlobals "bool" = some (none))
    (n_enumerate : PySem.W.nsIn K mainGlobals "enumerate" = some (none))
    (n_int : PySem.W.nsIn K mainGlobals "int" = some (none))
    (n_isinstance : PySem.W.nsIn K mainGlobals "isinstance" = some (none))
    (n_len : PySem.W.nsIn K mainGlobals "len" = some (none))
    (n_list : PySem.W.nsIn K mainGlobals "list" = some (none))
    (n_max : PySem.W.nsIn K mainGlobals "max" = some (none))
    (n_min : PySem.W.nsIn K mainGlobals "min" = some (none))
    (n_range : PySem.W.nsIn K mainGlobals "range" = some (none))
    (n_sorted : PySem.W.nsIn K mainGlobals "sorted" = some (none))
    (n_tuple : PySem.W.nsIn K mainGlobals "tuple" = some (none))
    (ht : h.get? P_check_links = some { cls := .none, data := .fields #[] }) : LawAtS l w K CX0 13 63 "_law_script" mg fa h :=
  law_at X {
    C_Refused := C_Refused,
    e_Refused := ⟨PySem.W.mg_of X G aC_Refused, ⟨⟨_, _, _, _, _, _, _, _, _, _, _, _, _, _, _, xL_Refused, rV_Refused⟩, sa_Refused, ex_Refused, ty_Refused, kC_Refused⟩, ⟨ga_Refused, gg_Refused, ex_Refused, hd_Refused⟩, iC_Refused, nw_Refused⟩,
    C_BadSize := C_BadSize,
    e_BadSize := ⟨PySem.W.mg_of X G aC_BadSize, ⟨⟨_, _, _, _, _, _, _, _, _, _, _, _, _, _, _, xL_BadSize, rV_BadSize⟩, sa_BadSize, ex_BadSize, ty_BadSize, kC_BadSize⟩, ⟨ga_BadSize, gg_BadSize, ex_BadSize, hd_BadSize⟩, iC_BadSize, nw_BadSize⟩,
    C_BadLink := C_BadLink,
    e_BadLink := ⟨PySem.W.mg_of X G aC_BadLink, ⟨⟨_, _, _, _, _, _, _, _, _, _, _, _, _, _, _, xL_BadLink, rV_BadLink⟩, sa_BadLink, ex_BadLink, ty_BadLink, kC_BadLink⟩, ⟨ga_BadLink, gg_BadLink, ex_BadLink, hd_BadLink⟩, iC_BadLink, nw_BadLink⟩,
    C_TooMany := C_TooMany,
    e_TooMany := ⟨PySem.W.mg_of X G aC_TooMany, ⟨⟨_, _, _, _, _, _, _, _, _, _, _, _, _, _, _, xL_TooMany, rV_TooMany⟩, sa_TooMany, ex_TooMany, ty_TooMany, kC_TooMany⟩, ⟨ga_TooMany, gg_TooMany, ex_TooMany, hd_TooMany⟩, iC_TooMany, nw_TooMany⟩,
    C_BadCell := C_BadCell,
    e_BadCell := ⟨PySem.W.mg_of X G aC_BadCell, ⟨⟨_, _, _, _, _, _, _, _, _, _, _, _, _, _, _, xL_BadCell, rV_BadCell⟩, sa_BadCell, ex_BadCell, ty_BadCell, kC_BadCell⟩, ⟨ga_BadCell, gg_BadCell, ex_BadCell, hd_BadCell⟩, iC_BadCell, nw_BadCell⟩,
    C_BadPair := C_BadPair,
    e_BadPair := ⟨PySem.W.mg_of X G aC_BadPair, ⟨⟨_, _, _, _, _, _, _, _, _, _, _, _, _, _, _, xL_BadPair, rV_BadPair⟩, sa_BadPair, ex_BadPair, ty_BadPair, kC_BadPair⟩, ⟨ga_BadPair, gg_BadPair, ex_BadPair, hd_BadPair⟩, iC_BadPair, nw_BadPair⟩,
    x_BadCell_BadCell := exm_by ex_BadCell is_BadCell ty_BadCell s_BadCell_BadCell,
    x_BadPair_BadCell := exm_by ex_BadCell is_BadCell ty_BadCell s_BadPair_BadCell,
    x_BadPair_BadPair := exm_by ex_BadPair is_BadPair ty_BadPair s_BadPair_BadPair,
    x_BadSize_BadCell := exm_by ex_BadCell is_BadCell ty_BadCell s_BadSize_BadCell,
    x_BadSize_BadPair := exm_by ex_BadPair is_BadPair ty_BadPair s_BadSize_BadPair,
    x_BadSize_BadSize := exm_by ex_BadSize is_BadSize ty_BadSize s_BadSize_BadSize,
    x_TooMany_BadCell := exm_by ex_BadCell is_BadCell ty_BadCell s_TooMany_BadCell,
    x_TooMany_BadPair := exm_by ex_BadPair is_BadPair ty_BadPair s_TooMany_BadPair,
    x_TooMany_BadSize := exm_by ex_BadSize is_BadSize ty_BadSize s_TooMany_BadSize,
    x_TooMany_TooMany := exm_by ex_TooMany is_TooMany ty_TooMany s_TooMany_TooMany,
    C_Web := C_Web,
    cl_Web := ⟨pg_Web, hd_Web, po_Web, sa_Web⟩,
    mg_Web := PySem.W.mg_of X G aC_Web,
    na_Web__rows := na_Web__rows,
    na_Web_links := na_Web_links,
    na_Web_size := na_Web_size,
    mk_Web := ⟨mk_Web, at_Web_init, fn_Web_init, kC_Web⟩,
    mt_Web_near := ⟨at_Web_near, fn_Web_near, k_Web_near⟩,
    mt_Web_linked := ⟨at_Web_linked, fn_Web_linked, k_Web_linked⟩,
    a_Refused_init := a_Refused_init,
    d_Refused_init := (PySem.W.fnOf "__init__" "Refused.__init__" (defArgs s_Refused_init) (defBody s_Refused_init) (defScope s_Refused_init) .none kV_Refused_init dc_Refused_init pm_Refused_init an_Refused_init cd_Refused_init ct_Refused_init),
    F_Refused_init := fun_mk l_Refused_init co_Refused_init k_Refused_init,
    b_Refused_init := (fun_mk (st := s_Refused_init) l_Refused_init co_Refused_init k_Refused_init).binds (ps := ["self", "what"]) (fun _ _ _ _ _ _ us hl => match us, hl with | [_, _], _ => rfl),
    g_is_number := PySem.W.mg_of X G g_is_number,
    a_is_number := a_is_number,
    d_is_number := (PySem.W.fnOf "is_number" "is_number" (defArgs s_is_number) (defBody s_is_number) (defScope s_is_number) .none kV_is_number dc_is_number pm_is_number an_is_number cd_is_number ct_is_number),
    F_is_number := fun_mk l_is_number co_is_number k_is_number,
    b_is_number := (fun_mk (st := s_is_number) l_is_number co_is_number k_is_number).binds (ps := ["value"]) (fun _ _ _ _ _ _ us hl => match us, hl with | [_], _ => rfl),
    g_is_below := PySem.W.mg_of X G g_is_below,
    a_is_below := a_is_below,
    d_is_below := (PySem.W.fnOf "is_below" "is_below" (defArgs s_is_below) (defBody s_is_below) (defScope s_is_below) .none kV_is_below dc_is_below pm_is_below an_is_below cd_is_below ct_is_below),
    F_is_below := fun_mk l_is_below co_is_below k_is_below,
    b_is_below := (fun_mk (st := s_is_below) l_is_below co_is_below k_is_below).binds (ps := ["value", "limit"]) (fun _ _ _ _ _ _ us hl => match us, hl with | [_, _], _ => rfl),
    g_are_numbers := PySem.W.mg_of X G g_are_numbers,
    a_are_numbers := a_are_numbers,
    d_are_numbers := (PySem.W.fnOf "are_numbers" "are_numbers" (defArgs s_are_numbers) (defBody s_are_numbers) (defScope s_are_numbers) .none kV_are_numbers dc_are_numbers pm_are_numbers an_are_numbers cd_are_numbers ct_are_numbers),
    F_are_numbers := fun_mk l_are_numbers co_are_numbers k_are_numbers,
    b_are_numbers := (fun_mk (st := s_are_numbers) l_are_numbers co_are_numbers k_are_numbers).binds (ps := ["value", "many"]) (fun _ _ _ _ _ _ us hl => match us, hl with | [_, _], _ => rfl),
    g_is_rising_pair := PySem.W.mg_of X G g_is_rising_pair,
    a_is_rising_pair := a_is_rising_pair,
    d_is_rising_pair := (PySem.W.fnOf "is_rising_pair" "is_rising_pair" (defArgs s_is_rising_pair) (defBody s_is_rising_pair) (defScope s_is_rising_pair) .none kV_is_rising_pair dc_is_rising_pair pm_is_rising_pair an_is_rising_pair cd_is_rising_pair ct_is_rising_pair),
    F_is_rising_pair := fun_mk l_is_rising_pair co_is_rising_pair k_is_rising_pair,
    b_is_rising_pair := (fun_mk (st := s_is_rising_pair) l_is_rising_pair co_is_rising_pair k_is_rising_pair).binds (ps := ["value", "limit"]) (fun _ _ _ _ _ _ us hl => match us, hl with | [_, _], _ => rfl),
    g_first_fault := PySem.W.mg_of X G g_first_fault,
    a_first_fault := a_first_fault,
    d_first_fault := (PySem.W.fnOf "first_fault" "first_fault" (defArgs s_first_fault) (defBody s_first_fault) (defScope s_first_fault) .none kV_first_fault dc_first_fault pm_first_fault an_first_fault cd_first_fault ct_first_fault),
    F_first_fault := fun_mk l_first_fault co_first_fault k_first_fault,
    b_first_fault := (fun_mk (st := s_first_fault) l_first_fault co_first_fault k_first_fault).binds (ps := ["things", "fits"]) (fun _ _ _ _ _ _ us hl => match us, hl with | [_, _], _ => rfl),
    g_check_cell := PySem.W.mg_of X G g_check_cell,
    a_check_cell := a_check_cell,
    d_check_cell := (PySem.W.fnOf "check_cell" "check_cell" (defArgs s_check_cell) (defBody s_check_cell) (defScope s_check_cell) .none kV_check_cell dc_check_cell pm_check_cell an_check_cell cd_check_cell ct_check_cell),
    F_check_cell := fun_mk l_check_cell co_check_cell k_check_cell,
    b_check_cell := (fun_mk (st := s_check_cell) l_check_cell co_check_cell k_check_cell).binds (ps := ["web", "x"]) (fun _ _ _ _ _ _ us hl => match us, hl with | [_, _], _ => rfl),
    a_Web_init := a_Web_init,
    d_Web_init := (PySem.W.fnOf "__init__" "Web.__init__" (defArgs s_Web_init) (defBody s_Web_init) (defScope s_Web_init) .none kV_Web_init dc_Web_init pm_Web_init an_Web_init cd_Web_init ct_Web_init),
    F_Web_init := fun_mk l_Web_init co_Web_init k_Web_init,
    b_Web_init := (fun_mk (st := s_Web_init) l_Web_init co_Web_init k_Web_init).binds (ps := ["self", "size", "links"]) (fun _ _ _ _ _ _ us hl => match us, hl with | [_, _, _], _ => rfl),
    a_Web_near := a_Web_near,
    d_Web_near := (PySem.W.fnOf "near" "Web.near" (defArgs s_Web_near) (defBody s_Web_near) (defScope s_Web_near) .none kV_Web_near dc_Web_near pm_Web_near an_Web_near cd_Web_near ct_Web_near),
    F_Web_near := fun_mk l_Web_near co_Web_near k_Web_near,
    b_Web_near := (fun_mk (st := s_Web_near) l_Web_near co_Web_near k_Web_near).binds (ps := ["self", "x"]) (fun _ _ _ _ _ _ us hl => match us, hl with | [_, _], _ => rfl),
    a_Web_linked := a_Web_linked,
    d_Web_linked := (PySem.W.fnOf "linked" "Web.linked" (defArgs s_Web_linked) (defBody s_Web_linked) (defScope s_Web_linked) .none kV_Web_linked dc_Web_linked pm_Web_linked an_Web_linked cd_Web_linked ct_Web_linked),
    F_Web_linked := fun_mk l_Web_linked co_Web_linked k_Web_linked,
    b_Web_linked := (fun_mk (st := s_Web_linked) l_Web_linked co_Web_linked k_Web_linked).binds (ps := ["self", "x", "y"]) (fun _ _ _ _ _ _ us hl => match us, hl with | [_, _, _], _ => rfl),
    g_check_links := PySem.W.mg_of X G g_check_links,
    a_check_links := a_check_links,
    d_check_links := (PySem.W.fnOf "check_links" "check_links" (defArgs s_check_links) (defBody s_check_links) (defScope s_check_links) .none kV_check_links dc_check_links pm_check_links an_check_links (.ref c_check_links) ct_check_links),
    F_check_links := fun_mk l_check_links co_check_links k_check_links,
    b_check_links := (fun_mk (st := s_check_links) l_check_links co_check_links k_check_links).binds (ps := ["size", "links"]) (fun _ _ _ _ _ _ us hl => match us, hl with | [_, _], _ => rfl),
    c_check_links := c_check_links,
    P_check_links := P_check_links,
    FC_check_links := ⟨_, _, _, _, _, _, _, _, rfl, l_check_links, co_check_links⟩,
    ch_check_links := ch_check_links,
    nl_check_links := nl_check_links,
    g_near_rows := PySem.W.mg_of X G g_near_rows,
    a_near_rows := a_near_rows,
    d_near_rows := (PySem.W.fnOf "near_rows" "near_rows" (defArgs s_near_rows) (defBody s_near_rows) (defScope s_near_rows) .none kV_near_rows dc_near_rows pm_near_rows an_near_rows cd_near_rows ct_near_rows),
    F_near_rows := fun_mk l_near_rows co_near_rows k_near_rows,
    b_near_rows := (fun_mk (st := s_near_rows) l_near_rows co_near_rows k_near_rows).binds (ps := ["many", "pairs"]) (fun _ _ _ _ _ _ us hl => match us, hl with | [_, _], _ => rfl),
    g_web_within := PySem.W.mg_of X G g_web_within,
    a_web_within := a_web_within,
    d_web_within := (PySem.W.fnOf "web_within" "web_within" (defArgs s_web_within) (defBody s_web_within) (defScope s_web_within) .none kV_web_within dc_web_within pm_web_within an_web_within cd_web_within ct_web_within),
    F_web_within := fun_mk l_web_within co_web_within k_web_within,
    b_web_within := (fun_mk (st := s_web_within) l_web_within co_web_within k_web_within).binds (ps := ["web", "cells"]) (fun _ _ _ _ _ _ us hl => match us, hl with | [_, _], _ => rfl),
    g_with_link := PySem.W.mg_of X G g_with_link,
    a_with_link := a_with_link,
    d_with_link := (PySem.W.fnOf "with_link" "with_link" (defArgs s_with_link) (defBody s_with_link) (defScope s_with_link) .none kV_with_link dc_with_link pm_with_link an_with_link cd_with_link ct_with_link),
    F_with_link := fun_mk l_with_link co_with_link k_with_link,
    b_with_link := (fun_mk (st := s_with_link) l_with_link co_with_link k_with_link).binds (ps := ["web", "a", "b"]) (fun _ _ _ _ _ _ us hl => match us, hl with | [_, _, _], _ => rfl),
    g_without_link := PySem.W.mg_of X G g_without_link,
    a_without_link := a_without_link,
    d_without_link := (PySem.W.fnOf "without_link" "without_link" (defArgs s_without_link) (defBody s_without_link) (defScope s_without_link) .none kV_without_link dc_without_link pm_without_link an_without_link cd_without_link ct_without_link),
    F_without_link := fun_mk l_without_link co_without_link k_without_link,
    b_without_link := (fun_mk (st := s_without_link) l_without_link co_without_link k_without_link).binds (ps := ["web", "a", "b"]) (fun _ _ _ _ _ _ us hl => match us, hl with | [_, _, _], _ => rfl),
    g_without_cell := PySem.W.mg_of X G g_without_cell,
    a_without_cell := a_without_cell,
    d_without_cell := (PySem.W.fnOf "without_cell" "without_cell" (defArgs s_without_cell) (defBody s_without_cell) (defScope s_without_cell) .none kV_without_cell dc_without_cell pm_without_cell an_without_cell cd_without_cell ct_without_cell),
    F_without_cell := fun_mk l_without_cell co_without_cell k_without_cell,
    b_without_cell := (fun_mk (st := s_without_cell) l_without_cell co_without_cell k_without_cell).binds (ps := ["web", "x"]) (fun _ _ _ _ _ _ us hl => match us, hl with | [_, _], _ => rfl),
    g_rising := PySem.W.mg_of X G g_rising,
    a_rising := a_rising,
    d_rising := (PySem.W.fnOf "rising" "rising" (defArgs s_rising) (defBody s_rising) (defScope s_rising) .none kV_rising dc_rising pm_rising an_rising cd_rising ct_rising),
    F_rising := fun_mk l_rising co_rising k_rising,
    b_rising := (fun_mk (st := s_rising) l_rising co_rising k_rising).binds (ps := ["a", "b"]) (fun _ _ _ _ _ _ us hl => match us, hl with | [_, _], _ => rfl),
    g_Lpool := PySem.W.mg_of X G g_Lpool,
    a_Lpool := a_Lpool,
    d_Lpool := (PySem.W.fnOf "_law_pool" "_law_pool" (defArgs s_Lpool) (defBody s_Lpool) (defScope s_Lpool) .none kV_Lpool dc_Lpool pm_Lpool an_Lpool cd_Lpool ct_Lpool),
    F_Lpool := fun_mk l_Lpool co_Lpool k_Lpool,
    b_Lpool := (fun_mk (st := s_Lpool) l_Lpool co_Lpool k_Lpool).binds (ps := ["_law_script", "_law_k"]) (fun _ _ _ _ _ _ us hl => match us, hl with | [_, _], _ => rfl),
    g_Ltake := PySem.W.mg_of X G g_Ltake,
    a_Ltake := a_Ltake,
    d_Ltake := (PySem.W.fnOf "_law_take" "_law_take" (defArgs s_Ltake) (defBody s_Ltake) (defScope s_Ltake) .none kV_Ltake dc_Ltake pm_Ltake an_Ltake cd_Ltake ct_Ltake),
    F_Ltake := fun_mk l_Ltake co_Ltake k_Ltake,
    b_Ltake := (fun_mk (st := s_Ltake) l_Ltake co_Ltake k_Ltake).binds (ps := ["_law_source", "_law_top"]) (fun _ _ _ _ _ _ us hl => match us, hl with | [_, _], _ => rfl),
    g_Lone := PySem.W.mg_of X G g_Lone,
    a_Lone := a_Lone,
    d_Lone := (PySem.W.fnOf "_law_one" "_law_one" (defArgs s_Lone) (defBody s_Lone) (defScope s_Lone) .none kV_Lone dc_Lone pm_Lone an_Lone cd_Lone ct_Lone),
    F_Lone := fun_mk l_Lone co_Lone k_Lone,
    b_Lone := (fun_mk (st := s_Lone) l_Lone co_Lone k_Lone).binds (ps := ["_law_source", "_law_things"]) (fun _ _ _ _ _ _ us hl => match us, hl with | [_, _], _ => rfl),
    g_Llink := PySem.W.mg_of X G g_Llink,
    a_Llink := a_Llink,
    d_Llink := (PySem.W.fnOf "_law_link" "_law_link" (defArgs s_Llink) (defBody s_Llink) (defScope s_Llink) .none kV_Llink dc_Llink pm_Llink an_Llink cd_Llink ct_Llink),
    F_Llink := fun_mk l_Llink co_Llink k_Llink,
    b_Llink := (fun_mk (st := s_Llink) l_Llink co_Llink k_Llink).binds (ps := ["_law_a", "_law_b"]) (fun _ _ _ _ _ _ us hl => match us, hl with | [_, _], _ => rfl),
    g_Lany := PySem.W.mg_of X G g_Lany,
    a_Lany := a_Lany,
    d_Lany := (PySem.W.fnOf "_law_any" "_law_any" (defArgs s_Lany) (defBody s_Lany) (defScope s_Lany) .none kV_Lany dc_Lany pm_Lany an_Lany cd_Lany ct_Lany),
    F_Lany := fun_mk l_Lany co_Lany k_Lany,
    b_Lany := (fun_mk (st := s_Lany) l_Lany co_Lany k_Lany).binds (ps := ["_law_source", "_law_count"]) (fun _ _ _ _ _ _ us hl => match us, hl with | [_, _], _ => rfl),
    g_Lfull := PySem.W.mg_of X G g_Lfull,
    a_Lfull := a_Lfull,
    d_Lfull := (PySem.W.fnOf "_law_full" "_law_full" (defArgs s_Lfull) (defBody s_Lfull) (defScope s_Lfull) .none kV_Lfull dc_Lfull pm_Lfull an_Lfull cd_Lfull ct_Lfull),
    F_Lfull := fun_mk l_Lfull co_Lfull k_Lfull,
    b_Lfull := (fun_mk (st := s_Lfull) l_Lfull co_Lfull k_Lfull).binds (ps := ["_law_source"]) (fun _ _ _ _ _ _ us hl => match us, hl with | [_], _ => rfl),
    g_Lcell := PySem.W.mg_of X G g_Lcell,
    a_Lcell := a_Lcell,
    d_Lcell := (PySem.W.fnOf "_law_cell" "_law_cell" (defArgs s_Lcell) (defBody s_Lcell) (defScope s_Lcell) .none kV_Lcell dc_Lcell pm_Lcell an_Lcell cd_Lcell ct_Lcell),
    F_Lcell := fun_mk l_Lcell co_Lcell k_Lcell,
    b_Lcell := (fun_mk (st := s_Lcell) l_Lcell co_Lcell k_Lcell).binds (ps := ["_law_source", "_law_size"]) (fun _ _ _ _ _ _ us hl => match us, hl with | [_, _], _ => rfl),
    g_Ldue := PySem.W.mg_of X G g_Ldue,
    a_Ldue := a_Ldue,
    d_Ldue := (PySem.W.fnOf "_law_due" "_law_due" (defArgs s_Ldue) (defBody s_Ldue) (defScope s_Ldue) .none kV_Ldue dc_Ldue pm_Ldue an_Ldue cd_Ldue ct_Ldue),
    F_Ldue := fun_mk l_Ldue co_Ldue k_Ldue,
    b_Ldue := (fun_mk (st := s_Ldue) l_Ldue co_Ldue k_Ldue).binds (ps := ["_law_which", "_law_size", "_law_links", "_law_a", "_law_b"]) (fun _ _ _ _ _ _ us hl => match us, hl with | [_, _, _, _, _], _ => rfl),
    g_Lchanged := PySem.W.mg_of X G g_Lchanged,
    a_Lchanged := a_Lchanged,
    d_Lchanged := (PySem.W.fnOf "_law_changed" "_law_changed" (defArgs s_Lchanged) (defBody s_Lchanged) (defScope s_Lchanged) .none kV_Lchanged dc_Lchanged pm_Lchanged an_Lchanged cd_Lchanged ct_Lchanged),
    F_Lchanged := fun_mk l_Lchanged co_Lchanged k_Lchanged,
    b_Lchanged := (fun_mk (st := s_Lchanged) l_Lchanged co_Lchanged k_Lchanged).binds (ps := ["_law_which", "_law_web", "_law_a", "_law_b"]) (fun _ _ _ _ _ _ us hl => match us, hl with | [_, _, _, _], _ => rfl),
    g_Ltold := PySem.W.mg_of X G g_Ltold,
    a_Ltold := a_Ltold,
    d_Ltold := (PySem.W.fnOf "_law_told" "_law_told" (defArgs s_Ltold) (defBody s_Ltold) (defScope s_Ltold) .none kV_Ltold dc_Ltold pm_Ltold an_Ltold cd_Ltold ct_Ltold),
    F_Ltold := fun_mk l_Ltold co_Ltold k_Ltold,
    b_Ltold := (fun_mk (st := s_Ltold) l_Ltold co_Ltold k_Ltold).binds (ps := ["_law_which", "_law_web", "_law_a", "_law_b"]) (fun _ _ _ _ _ _ us hl => match us, hl with | [_, _, _, _], _ => rfl),
    g_Lnear_right := PySem.W.mg_of X G g_Lnear_right,
    a_Lnear_right := a_Lnear_right,
    d_Lnear_right := (PySem.W.fnOf "_law_near_right" "_law_near_right" (defArgs s_Lnear_right) (defBody s_Lnear_right) (defScope s_Lnear_right) .none kV_Lnear_right dc_Lnear_right pm_Lnear_right an_Lnear_right cd_Lnear_right ct_Lnear_right),
    F_Lnear_right := fun_mk l_Lnear_right co_Lnear_right k_Lnear_right,
    b_Lnear_right := (fun_mk (st := s_Lnear_right) l_Lnear_right co_Lnear_right k_Lnear_right).binds (ps := ["_law_web", "_law_links", "_law_x"]) (fun _ _ _ _ _ _ us hl => match us, hl with | [_, _, _], _ => rfl),
    g_law := PySem.W.mg_of X G g_law,
    a_law := a_law,
    d_law := (PySem.W.fnOf "law" "law" (defArgs s_law) (defBody s_law) (defScope s_law) .none kV_law dc_law pm_law an_law cd_law ct_law),
    F_law := fun_mk l_law co_law k_law,
    b_law := (fun_mk (st := s_law) l_law co_law k_law).binds (ps := ["_law_script"]) (fun _ _ _ _ _ _ us hl => match us, hl with | [_], _ => rfl),
    tI := tI,
    t_MOST_CELLS := t_MOST_CELLS,
    c_MOST_CELLS := PySem.W.mg_of X G c_MOST_CELLS,
    t_MOST_LINKS := t_MOST_LINKS,
    c_MOST_LINKS := PySem.W.mg_of X G c_MOST_LINKS,
    n_all := PySem.W.mg_none_of X G n_all,
    n_bool := PySem.W.mg_none_of X G n_bool,
    n_enumerate := PySem.W.mg_none_of X G n_enumerate,
    n_int := PySem.W.mg_none_of X G n_int,
    n_isinstance := PySem.W.mg_none_of X G n_isinstance,
    n_len := PySem.W.mg_none_of X G n_len,
    n_list := PySem.W.mg_none_of X G n_list,
    n_max := PySem.W.mg_none_of X G n_max,
    n_min := PySem.W.mg_none_of X G n_min,
    n_range := PySem.W.mg_none_of X G n_range,
    n_sorted := PySem.W.mg_none_of X G n_sorted,
    n_tuple := PySem.W.mg_none_of X G n_tuple } hfa ht fun s u => .of_eq rfl
end R
end

-- Final
section
set_option Elab.async false
open PySem PySem.W PyProof.Rows
set_option maxRecDepth 100000 in
set_option maxHeartbeats 0 in
theorem PySem.Challenge.cw_pairfloors_k13_links_and_cells_put_and_t_holds : PySem.Challenge.rw_pairfloors_k13_links_and_cells_put_and_t.Holds := by
  w_on; o_law; k_head; (case hw => w_witness2)
  k_fill
  refine LamX.walk_ofTs (l := PySem.Challenge.rw_pairfloors_k13_links_and_cells_put_and_t) (n := 63) (k := 13) (CX := fun _ => L2.CX0) (x := "_law_script") rfl (by decide) rfl ⟨rfl, by decide, by decide⟩ (fun w h Y => PySem.W.km_in_of Y) ?F (fun _ _ _ _ _ z => z)
  case F =>
    intro w mg fa h Y KX G hmg
    refine' R.all_mk (P_check_links := 171) KX G hmg ?aC_Refused ?xL_Refused ?rV_Refused ?sa_Refused ?ex_Refused ?ty_Refused ?kC_Refused ?ga_Refused ?gg_Refused ?hd_Refused ?is_Refused ?iC_Refused ?nw_Refused ?aC_BadSize ?xL_BadSize ?rV_BadSize ?sa_BadSize ?ex_BadSize ?ty_BadSize ?kC_BadSize ?ga_BadSize ?gg_BadSize ?hd_BadSize ?is_BadSize ?iC_BadSize ?nw_BadSize ?aC_BadLink ?xL_BadLink ?rV_BadLink ?sa_BadLink ?ex_BadLink ?ty_BadLink ?kC_BadLink ?ga_BadLink ?gg_BadLink ?hd_BadLink ?is_BadLink ?iC_BadLink ?nw_BadLink ?aC_TooMany ?xL_TooMany ?rV_TooMany ?sa_TooMany ?ex_TooMany ?ty_TooMany ?kC_TooMany ?ga_TooMany ?gg_TooMany ?hd_TooMany ?is_TooMany ?iC_TooMany ?nw_TooMany ?aC_BadCell ?xL_BadCell ?rV_BadCell ?sa_BadCell ?ex_BadCell ?ty_BadCell ?kC_BadCell ?ga_BadCell ?gg_BadCell ?hd_BadCell ?is_BadCell ?iC_BadCell ?nw_BadCell ?aC_BadPair ?xL_BadPair ?rV_BadPair ?sa_BadPair ?ex_BadPair ?ty_BadPair ?kC_BadPair ?ga_BadPair ?gg_BadPair ?hd_BadPair ?is_BadPair ?iC_BadPair ?nw_BadPair ?s_BadCell_BadCell ?s_BadPair_BadCell ?s_BadPair_BadPair ?s_BadSize_BadCell ?s_BadSize_BadPair ?s_BadSize_BadSize ?s_TooMany_BadCell ?s_TooMany_BadPair ?s_TooMany_BadSize ?s_TooMany_TooMany ?aC_Web ?pg_Web ?hd_Web ?po_Web ?sa_Web ?mk_Web ?kC_Web ?na_Web__rows ?na_Web_links ?na_Web_size ?at_Web_init ?fn_Web_init ?at_Web_near ?fn_Web_near ?at_Web_linked ?fn_Web_linked ?l_Refused_init ?co_Refused_init ?k_Refused_init ?g_is_number ?l_is_number ?co_is_number ?k_is_number ?g_is_below ?l_is_below ?co_is_below ?k_is_below ?g_are_numbers ?l_are_numbers ?co_are_numbers ?k_are_numbers ?g_is_rising_pair ?l_is_rising_pair ?co_is_rising_pair ?k_is_rising_pair ?g_first_fault ?l_first_fault ?co_first_fault ?k_first_fault ?g_check_cell ?l_check_cell ?co_check_cell ?k_check_cell ?l_Web_init ?co_Web_init ?k_Web_init ?l_Web_near ?co_Web_near ?k_Web_near ?l_Web_linked ?co_Web_linked ?k_Web_linked ?g_check_links ?l_check_links ?co_check_links ?k_check_links ?ch_check_links ?nl_check_links ?g_near_rows ?l_near_rows ?co_near_rows ?k_near_rows ?g_web_within ?l_web_within ?co_web_within ?k_web_within ?g_with_link ?l_with_link ?co_with_link ?k_with_link ?g_without_link ?l_without_link ?co_without_link ?k_without_link ?g_without_cell ?l_without_cell ?co_without_cell ?k_without_cell ?g_rising ?l_rising ?co_rising ?k_rising ?g_Lpool ?l_Lpool ?co_Lpool ?k_Lpool ?g_Ltake ?l_Ltake ?co_Ltake ?k_Ltake ?g_Lone ?l_Lone ?co_Lone ?k_Lone ?g_Llink ?l_Llink ?co_Llink ?k_Llink ?g_Lany ?l_Lany ?co_Lany ?k_Lany ?g_Lfull ?l_Lfull ?co_Lfull ?k_Lfull ?g_Lcell ?l_Lcell ?co_Lcell ?k_Lcell ?g_Ldue ?l_Ldue ?co_Ldue ?k_Ldue ?g_Lchanged ?l_Lchanged ?co_Lchanged ?k_Lchanged ?g_Ltold ?l_Ltold ?co_Ltold ?k_Ltold ?g_Lnear_right ?l_Lnear_right ?co_Lnear_right ?k_Lnear_right ?g_law ?l_law ?co_law ?k_law ?tI ?c_MOST_CELLS ?c_MOST_LINKS ?n_all ?n_bool ?n_enumerate ?n_int ?n_isinstance ?n_len ?n_list ?n_max ?n_min ?n_range ?n_sorted ?n_tuple ?ht
    case aC_Refused => k_is
    case xL_Refused => k_is
    case rV_Refused => first | rfl | decide +kernel | k_is
    case sa_Refused => k_is
    case ex_Refused => k_is
    case ty_Refused => k_is
    case kC_Refused => k_is
    case ga_Refused => k_is
    case gg_Refused => k_is
    case hd_Refused => k_is
    case is_Refused => k_is
    case iC_Refused => k_is
    case nw_Refused => k_is
    case aC_BadSize => k_is
    case xL_BadSize => k_is
    case rV_BadSize => first | rfl | decide +kernel | k_is
    case sa_BadSize => k_is
    case ex_BadSize => k_is
    case ty_BadSize => k_is
    case kC_BadSize => k_is
    case ga_BadSize => k_is
    case gg_BadSize => k_is
    case hd_BadSize => k_is
    case is_BadSize => k_is
    case iC_BadSize => k_is
    case nw_BadSize => k_is
    case aC_BadLink => k_is
    case xL_BadLink => k_is
    case rV_BadLink => first | rfl | decide +kernel | k_is
    case sa_BadLink => k_is
    case ex_BadLink => k_is
    case ty_BadLink => k_is
    case kC_BadLink => k_is
    case ga_BadLink => k_is
    case gg_BadLink => k_is
    case hd_BadLink => k_is
    case is_BadLink => k_is
    case iC_BadLink => k_is
    case nw_BadLink => k_is
    case aC_TooMany => k_is
    case xL_TooMany => k_is
    case rV_TooMany => first | rfl | decide +kernel | k_is
    case sa_TooMany => k_is
    case ex_TooMany => k_is
    case ty_TooMany => k_is
    case kC_TooMany => k_is
    case ga_TooMany => k_is
    case gg_TooMany => k_is
    case hd_TooMany => k_is
    case is_TooMany => k_is
    case iC_TooMany => k_is
    case nw_TooMany => k_is
    case aC_BadCell => k_is
    case xL_BadCell => k_is
    case rV_BadCell => first | rfl | decide +kernel | k_is
    case sa_BadCell => k_is
    case ex_BadCell => k_is
    case ty_BadCell => k_is
    case kC_BadCell => k_is
    case ga_BadCell => k_is
    case gg_BadCell => k_is
    case hd_BadCell => k_is
    case is_BadCell => k_is
    case iC_BadCell => k_is
    case nw_BadCell => k_is
    case aC_BadPair => k_is
    case xL_BadPair => k_is
    case rV_BadPair => first | rfl | decide +kernel | k_is
    case sa_BadPair => k_is
    case ex_BadPair => k_is
    case ty_BadPair => k_is
    case kC_BadPair => k_is
    case ga_BadPair => k_is
    case gg_BadPair => k_is
    case hd_BadPair => k_is
    case is_BadPair => k_is
    case iC_BadPair => k_is
    case nw_BadPair => k_is
    case s_BadCell_BadCell => first | rfl | k_is | decide +kernel
    case s_BadPair_BadCell => first | rfl | k_is | decide +kernel
    case s_BadPair_BadPair => first | rfl | k_is | decide +kernel
    case s_BadSize_BadCell => first | rfl | k_is | decide +kernel
    case s_BadSize_BadPair => first | rfl | k_is | decide +kernel
    case s_BadSize_BadSize => first | rfl | k_is | decide +kernel
    case s_TooMany_BadCell => first | rfl | k_is | decide +kernel
    case s_TooMany_BadPair => first | rfl | k_is | decide +kernel
    case s_TooMany_BadSize => first | rfl | k_is | decide +kernel
    case s_TooMany_TooMany => first | rfl | k_is | decide +kernel
    case aC_Web => k_is
    case pg_Web => k_is
    case hd_Web => k_is
    case po_Web => k_is
    case sa_Web => k_is
    case mk_Web => k_is
    case kC_Web => k_is
    case na_Web__rows => k_is
    case na_Web_links => k_is
    case na_Web_size => k_is
    case at_Web_init => k_is
    case fn_Web_init => k_is
    case at_Web_near => k_is
    case fn_Web_near => k_is
    case at_Web_linked => k_is
    case fn_Web_linked => k_is
    case l_Refused_init => k_is
    case co_Refused_init => k_is
    case k_Refused_init => k_is
    case g_is_number => k_is
    case l_is_number => k_is
    case co_is_number => k_is
    case k_is_number => k_is
    case g_is_below => k_is
    case l_is_below => k_is
    case co_is_below => k_is
    case k_is_below => k_is
    case g_are_numbers => k_is
    case l_are_numbers => k_is
    case co_are_numbers => k_is
    case k_are_numbers => k_is
    case g_is_rising_pair => k_is
    case l_is_rising_pair => k_is
    case co_is_rising_pair => k_is
    case k_is_rising_pair => k_is
    case g_first_fault => k_is
    case l_first_fault => k_is
    case co_first_fault => k_is
    case k_first_fault => k_is
    case g_check_cell => k_is
    case l_check_cell => k_is
    case co_check_cell => k_is
    case k_check_cell => k_is
    case l_Web_init => k_is
    case co_Web_init => k_is
    case k_Web_init => k_is
    case l_Web_near => k_is
    case co_Web_near => k_is
    case k_Web_near => k_is
    case l_Web_linked => k_is
    case co_Web_linked => k_is
    case k_Web_linked => k_is
    case g_check_links => k_is
    case l_check_links => k_is
    case co_check_links => k_is
    case k_check_links => k_is
    case ch_check_links => first | rfl | decide +kernel | kernel_rfl
    case nl_check_links => first | rfl | decide +kernel | k_is
    case g_near_rows => k_is
    case l_near_rows => k_is
    case co_near_rows => k_is
    case k_near_rows => k_is
    case g_web_within => k_is
    case l_web_within => k_is
    case co_web_within => k_is
    case k_web_within => k_is
    case g_with_link => k_is
    case l_with_link => k_is
    case co_with_link => k_is
    case k_with_link => k_is
    case g_without_link => k_is
    case l_without_link => k_is
    case co_without_link => k_is
    case k_without_link => k_is
    case g_without_cell => k_is
    case l_without_cell => k_is
    case co_without_cell => k_is
    case k_without_cell => k_is
    case g_rising => k_is
    case l_rising => k_is
    case co_rising => k_is
    case k_rising => k_is
    case g_Lpool => k_is
    case l_Lpool => k_is
    case co_Lpool => k_is
    case k_Lpool => k_is
    case g_Ltake => k_is
    case l_Ltake => k_is
    case co_Ltake => k_is
    case k_Ltake => k_is
    case g_Lone => k_is
    case l_Lone => k_is
    case co_Lone => k_is
    case k_Lone => k_is
    case g_Llink => k_is
    case l_Llink => k_is
    case co_Llink => k_is
    case k_Llink => k_is
    case g_Lany => k_is
    case l_Lany => k_is
    case co_Lany => k_is
    case k_Lany => k_is
    case g_Lfull => k_is
    case l_Lfull => k_is
    case co_Lfull => k_is
    case k_Lfull => k_is
    case g_Lcell => k_is
    case l_Lcell => k_is
    case co_Lcell => k_is
    case k_Lcell => k_is
    case g_Ldue => k_is
    case l_Ldue => k_is
    case co_Ldue => k_is
    case k_Ldue => k_is
    case g_Lchanged => k_is
    case l_Lchanged => k_is
    case co_Lchanged => k_is
    case k_Lchanged => k_is
    case g_Ltold => k_is
    case l_Ltold => k_is
    case co_Ltold => k_is
    case k_Ltold => k_is
    case g_Lnear_right => k_is
    case l_Lnear_right => k_is
    case co_Lnear_right => k_is
    case k_Lnear_right => k_is
    case g_law => k_is
    case l_law => k_is
    case co_law => k_is
    case k_law => k_is
    case tI => k_is
    case c_MOST_CELLS => k_is
    case c_MOST_LINKS => k_is
    case n_all => k_is
    case n_bool => k_is
    case n_enumerate => k_is
    case n_int => k_is
    case n_isinstance => k_is
    case n_len => k_is
    case n_list => k_is
    case n_max => k_is
    case n_min => k_is
    case n_range => k_is
    case n_sorted => k_is
    case n_tuple => k_is
    case ht => exact PySem.W.km_tabs_of Y 171 (by simp)
end
