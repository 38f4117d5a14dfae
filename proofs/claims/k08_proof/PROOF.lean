import PyProof.Rows.All
import Wide.All
import OpenK.AllK
import Wide.FinOn
import HandS.ForMost
import HandS.Walk
import HandS.IsInst
import HandS.TupAny
import HandS.NoneIn
import HandS.Conv
import HandS.More
import HandS.Lambda
import KE.KDflt
import KE.SortCalls
import KE.DataMinMax
import HandS.FStr
import PySem.Challenge.RW_unknowntables_k08_whole_texts
import HandS.Codes
import HandS.ForExc
import HandS.TryElse
import HandS.RaiseOp
import HandS.ExcIs
import HandS.SuiteRaise
import HandS.RaiseFrom
import HandS.RaiseMore
import HandS.ExcInit
import HandS.Deep
import HandS.TupMul
import HandS.Star
import HandS.CallLocal
import KE.KDictZip
import KE.GoesMore
import HandS.Zip
import KE.GoesEnum
import HandS.List
import KE.KDictDisplayH
import HandS.Set
import HandS.SetFor
import HandS.Strs
import HandS.Dict
import KE.KDictCopyH
import PyProof.EqAt
import HandS.Text
import PyProof.P3In
import HandS.SortKw
import HandS.Style
import HandS.ExcBuiltin
import KE.KExcSuper
import HandS.EndTab
import KE.KNestM
set_option Elab.async false
set_option linter.all false
set_option maxRecDepth 100000
set_option maxHeartbeats 0
namespace MP
open PySem PySem.Spec PyProof.Rows L2 LamX

/-! a lambda without parameters, or with one that has a whole number for its default -/
def lamP : Arguments → Bool
  | ⟨[], [], none, [], [], none, []⟩ => true
  | ⟨[], [_], none, [], [], none, [.Constant (.int _) _ _]⟩ => true
  | _ => false
def lamN (p : Arguments) : List Str := p.args.map (·.arg)
inductive LamForm : Arguments → Prop where
  | nil : LamForm ⟨[], [], none, [], [], none, []⟩
  | one (x : PySem.Arg) (i : Int) (k : Nat) (q : Pos) : LamForm ⟨[], [x], none, [], [], none, [.Constant (.int i) k q]⟩
theorem lamP_form {p : Arguments} (h : lamP p = true) : LamForm p := by
  unfold lamP at h
  split at h
  · exact .nil
  · exact .one _ _ _ _
  · cases h
/-- the tables that are known, and what they tell: all of it stands at clean places -/
def TabsX (T : List (Addr × Str)) (N : Addr → Prop) (H : Hp) : Prop := ∀ p ∈ T, ∃ ps : Array Value, H p.1 = some (.tbl ps) ∧ N p.1 ∧ TriplesOk ps.toList ∧
  ∀ (pos : Pos) (cv : Value), codeAmong pos ps.toList = some cv → ∃ c, cv = .ref c ∧ H c = some (CodeO c p.2) ∧ N c
theorem TabsX.step {T : List (Addr × Str)} {N N' : Addr → Prop} {H H' : Hp} (t : TabsX T N H) (h : ∀ b o, N b → H b = some o → H' b = some o ∧ N' b) : TabsX T N' H' := fun p hp => by
  obtain ⟨ps, h1, h2, h3, h4⟩ := t p hp
  obtain ⟨a1, a2⟩ := h _ _ h2 h1
  refine ⟨ps, a1, a2, h3, fun pos cv hc => ?_⟩
  obtain ⟨c, e, g1, g2⟩ := h4 pos cv hc
  obtain ⟨b1, b2⟩ := h _ _ g2 g1
  exact ⟨c, e, b1, b2⟩
section
variable {X : Cx} {pins : List (Addr × Obj)} {σ : L2.St} {H : Hp} {s : Shared}
abbrev lamO (X : Cx) (params : Arguments) (body : Expr) (scope : Scope) (dV doc pm : Value) (c' : Addr) (ctv : Value) : Obj :=
  PySem.W.kdv_obj "<lambda>" (X.env.qual ++ "<lambda>") params (.expr body) scope (cloFrom X.env.cells scope.names []) dV doc pm c' ctv
theorem lam_tail {T : List (Addr × Str)} {N : Addr → Prop} {c P : Addr} {params : Arguments} {body : Expr} {scope : Scope} {pos : Pos} {dV : Value} {E Q : Value → Shared → Prop} (I : Inv X pins σ H s) (tb : TabB X.base X.mg c P) (hco : X.env.code = .ref c)
    (hmem : (P, X.env.qual ++ "<lambda>") ∈ T) (huq : ∀ p ∈ T, p.1 = P → p.2 = X.env.qual ++ "<lambda>") (hT : TabsX T N H) (hfrN : ∀ b, H b = none → N b) (hfr : ∀ y ∈ scope.names, y.2 = .free → ∃ c, X.env.cells.lookup y.1 = some c)
    (h : ∀ (f c' : Addr) (doc pm ctv : Value) (H1 : Hp) (s' : Shared), Inv X pins σ H1 s' → ExtN H H1 → TabsX T N H1 → s'.heap.get? f = some (lamO X params body scope dV doc pm c' ctv) → H1 f = none → f ∉ frs X.stack → H1 c' = some (CodeO c' (X.env.qual ++ "<lambda>")) →
      (∀ b o, H b = none → s.heap.get? b = some o → s'.heap.get? b = some o ∧ H1 b = none) → (∀ b, H b ≠ none → H1 b ≠ none) → Q (.ref f) s') :
    wpAny (model X.prog X.w) X.A (makeTail "<lambda>" (X.env.qual ++ "<lambda>") params (.expr body) scope X.env dV .none none pos pos.line) Q E s := by
  obtain ⟨ps, hP, hNP, htr, hin⟩ := hT _ hmem
  have hbP : s.heap.BuiltinsAt X.mg P := tb.bm.keeps I.bk
  have hgP : s.heap.get? P = some { cls := .none, data := .fields ps } := I.hok P _ hP
  have away : ∀ f, s.heap.objs.size ≤ f → f ∉ frs X.stack := fun f hf z => by
    rcases List.mem_cons.mp (I.stkSub _ z) with e | e
    · have := I.lt
      rw [← e] at this
      exact absurd hf (Nat.not_le_of_lt this)
    · exact I.nofs hf e
  cases hca : codeAmong pos ps.toList with
  | none =>
    refine PySem.W.kdv_makeTail (mg := X.mg) (c := c) (P := P) (ps := ps) (closure_ok hfr) I.ok.glob (I.mod.glob.keeps I.bk) hco (tb.code.keeps I.bk) hgP htr hca tb.gP hbP fun c' ctv doc h' tk hx hge hlt hrec htab => ?_
    obtain ⟨c2, oc, vs, t, e2, hoc, hd, hv⟩ := hrec
    cases e2
    have hsz : s.heap.objs.size ≤ h'.objs.size := Nat.le_trans hge (Nat.le_of_lt hlt)
    have nc : H c' = none := I.hok.fresh hge
    have up : ∀ b o, h'.get? b = some o → (h'.push (lamO X params body scope dV doc ((X.mg "__name__").getD .none) c' ctv)).get? b = some o := fun b o e => Heap.get?_push_of_some _ e
    have J := inv_table (t' := tk) (more := #[rawInt pos.line, rawInt pos.col, .ref c']) (h' := h'.push (lamO X params body scope dV doc ((X.mg "__name__").getD .none) c' ctv)) I hP (fun b o hb e => up _ _ (hx b o hb e)) (up _ _ htab) hge ⟨oc, vs, t, up _ _ hoc, hd, hv⟩
    have nP : ∀ b o, H b = some o → (∀ qs, o ≠ .tbl qs) → b ≠ P := fun b o e n z => n ps (Option.some.inj (e.symm.trans (by rw [z]; exact hP)))
    have hE : ExtN H (upd (upd H P (.tbl (ps ++ #[rawInt pos.line, rawInt pos.col, .ref c']))) c' (CodeO c' (X.env.qual ++ "<lambda>"))) := fun b o e n => by
      rw [upd_ne (ne_of_none e nc), upd_ne (nP b o e n)]
      exact e
    have els : (ps ++ #[rawInt pos.line, rawInt pos.col, .ref c']).toList = ps.toList ++ [rawInt pos.line, rawInt pos.col, .ref c'] := by simp
    have n1 : h'.objs.size ≠ c' := Nat.ne_of_gt hlt
    have n2 : h'.objs.size ≠ P := Nat.ne_of_gt (Nat.lt_of_lt_of_le (Heap.lt_size hgP) hsz)
    refine h h'.objs.size c' doc ((X.mg "__name__").getD .none) ctv _ _ J hE (fun p hp => ?_) (Heap.get?_push_size _ rfl) ?_ (away _ hsz) upd_same (fun b o hn he => ?_) ?_
    · by_cases hb : p.1 = P
      · rw [huq p hp hb, hb]
        refine ⟨_, by rw [upd_ne (ne_of_none hP nc), upd_same], hNP, by rw [els]; exact PySem.TriplesOk_snoc _ _ _ _ htr, fun p' cv hcv => ?_⟩
        rw [els] at hcv
        rcases among_app _ htr hcv with z | z
        · obtain ⟨c0, w1, w2, w3⟩ := hin p' cv z
          exact ⟨c0, w1, hE _ _ w2 codeO_ne, w3⟩
        · exact ⟨c', z, upd_same, hfrN _ nc⟩
      · obtain ⟨qs, a1, a0, a2, a3⟩ := hT p hp
        refine ⟨qs, by rw [upd_ne (ne_of_none a1 nc), upd_ne hb]; exact a1, a0, a2, fun p' cv hcv => ?_⟩
        obtain ⟨c0, w1, w2, w3⟩ := a3 p' cv hcv
        exact ⟨c0, w1, hE _ _ w2 codeO_ne, w3⟩
    · rw [upd_ne n1, upd_ne n2]
      exact I.hok.fresh hsz
    · have bP : b ≠ P := fun z => by rw [z, hP] at hn; cases hn
      have bc : b ≠ c' := fun z => by
        rw [z] at he
        exact absurd hge (Nat.not_le_of_lt (Heap.lt_size he))
      exact ⟨up _ _ (hx b o bP he), by rw [upd_ne bc, upd_ne bP]; exact hn⟩
    · intro b hb z
      by_cases h1 : b = c'
      · rw [h1, upd_same] at z; cases z
      rw [upd_ne h1] at z
      by_cases h2 : b = P
      · rw [h2, upd_same] at z; cases z
      rw [upd_ne h2] at z
      exact hb z
  | some cv =>
    obtain ⟨c', e, hc', _⟩ := hin pos cv hca
    subst e
    refine PySem.W.kdv_makeTailHit (mg := X.mg) (c := c) (P := P) (ps := ps) (closure_ok hfr) I.ok.glob (I.mod.glob.keeps I.bk) hco (tb.code.keeps I.bk) hgP htr hca hbP fun ctv doc h' tk hx hsz => ?_
    have up : ∀ b o, s.heap.get? b = some o → (h'.push (lamO X params body scope dV doc ((X.mg "__name__").getD .none) c' ctv)).get? b = some o := fun b o e => Heap.get?_push_of_some _ (hx b o e)
    have J : Inv X pins σ H { s with heap := h'.push (lamO X params body scope dV doc ((X.mg "__name__").getD .none) c' ctv), toks := tk } := I.kept up
    exact h h'.objs.size c' doc ((X.mg "__name__").getD .none) ctv H _ J (ExtN.refl H) hT (Heap.get?_push_size _ rfl) (I.hok.fresh hsz) (away _ hsz) hc' (fun b o hn he => ⟨up _ _ he, hn⟩) fun b hb => hb
/-- where its default lies -/
def DvOk (X : Cx) (H : Hp) (s : Shared) (params : Arguments) (dV : Value) : Prop := (params.defaults = [] ∧ dV = .none) ∨ ∃ (t : Addr) (v : Value), dV = .ref t ∧ s.heap.get? t = some (PySem.W.kdv_tup [v]) ∧ H t = none ∧ t ∉ frs X.stack
theorem lam_mk {T : List (Addr × Str)} {N : Addr → Prop} {c P : Addr} {params : Arguments} {body : Expr} {scope : Scope} {pos : Pos} {E Q : Value → Shared → Prop} (I : Inv X pins σ H s) (tb : TabB X.base X.mg c P) (hco : X.env.code = .ref c)
    (hmem : (P, X.env.qual ++ "<lambda>") ∈ T) (huq : ∀ p ∈ T, p.1 = P → p.2 = X.env.qual ++ "<lambda>") (hT : TabsX T N H) (hfrN : ∀ b, H b = none → N b) (hp : lamP params = true) (hfr : ∀ y ∈ scope.names, y.2 = .free → ∃ c, X.env.cells.lookup y.1 = some c)
    (h : ∀ (f c' : Addr) (dV doc pm ctv : Value) (H1 : Hp) (s' : Shared), Inv X pins σ H1 s' → ExtN H H1 → TabsX T N H1 → s'.heap.get? f = some (lamO X params body scope dV doc pm c' ctv) → H1 f = none → f ∉ frs X.stack → H1 c' = some (CodeO c' (X.env.qual ++ "<lambda>")) →
      DvOk X H1 s' params dV → (∀ b, H b ≠ none → H1 b ≠ none) → Q (.ref f) s') :
    wpAny (model X.prog X.w) X.A (eval (.Lambda params body scope pos) X.env) Q E s := by
  cases lamP_form hp with
  | nil =>
    refine PySem.W.kla_eval rfl ?_
    rw [makeFunction_eq]
    simp only [List.zip_nil_right, List.filterMap_nil, List.isEmpty_nil, if_true, pure_bind]
    exact lam_tail I tb hco hmem huq hT hfrN hfr fun f c' doc pm ctv H1 s' J eN T1 e1 e2 e3 e4 _ e6 => h f c' .none doc pm ctv H1 s' J eN T1 e1 e2 e3 e4 (.inl ⟨rfl, rfl⟩) e6
  | one x i k q =>
    refine PySem.W.kdv_lam rfl rfl (PySem.W.kdv_all1 (wpAny_Constant_int (PySem.W.kdv_all0 ?_)))
    rw [makeFunction_eq]
    simp only [List.zip_nil_right, List.filterMap_nil, List.isEmpty_nil, List.isEmpty_cons, Bool.false_eq_true, if_false, if_true, pure_bind]
    refine wpAny_bind (wpAny_newTextTuple ?_)
    have up : ∀ b o, s.heap.get? b = some o → (s.heap.push (PySem.W.kdv_tup [.int i s.toks])).get? b = some o := fun b o e => Heap.get?_push_of_some _ e
    have J0 : Inv X pins σ H { s with heap := s.heap.push (PySem.W.kdv_tup [.int i s.toks]), toks := s.toks + 1 } := I.kept up
    have aw : s.heap.objs.size ∉ frs X.stack := fun z => by
      rcases List.mem_cons.mp (I.stkSub _ z) with e | e
      · have := I.lt
        rw [← e] at this
        exact Nat.lt_irrefl _ this
      · exact I.nofs (Nat.le_refl _) e
    refine lam_tail J0 tb hco hmem huq hT hfrN hfr fun f c' doc pm ctv H1 s' J eN T1 e1 e2 e3 e4 e5 e6 => ?_
    obtain ⟨g1, g2⟩ := e5 s.heap.objs.size _ (I.hok.fresh (Nat.le_refl _)) (Heap.get?_push_size _ rfl)
    exact h f c' _ doc pm ctv H1 s' J eN T1 e1 e2 e3 e4 (.inr ⟨s.heap.objs.size, .int i s.toks, rfl, g1, g2, aw⟩) e6
end

/-- what its parameters get -/
theorem lam_binds {params : Arguments} {body : Expr} {scope : Scope} {q : Str} {cl : List (Str × Addr)} {dV doc pm cdv ctv : Value} {s1 : Shared} (hp : lamP params = true)
    (hd : (params.defaults = [] ∧ dV = .none) ∨ ∃ (t : Addr) (v : Value), dV = .ref t ∧ s1.heap.get? t = some (PySem.W.kdv_tup [v])) :
    ∃ binds, BindsTo s1 (PySem.W.kdv_fn "<lambda>" q params (.expr body) scope cl dV doc pm cdv ctv) ⟨[], []⟩ binds ∧ ∀ y ∈ binds, y.1 ∈ lamN params := by
  cases lamP_form hp with
  | nil =>
    rcases hd with ⟨_, rfl⟩ | ⟨t, v, rfl, ht⟩
    · exact ⟨[], BindsTo.of_eq rfl, fun y hy => absurd hy (by simp)⟩
    · exact ⟨[], BindsTo.of_defaults rfl ht rfl rfl rfl, fun y hy => absurd hy (by simp)⟩
  | one x i k qp =>
    rcases hd with ⟨h, _⟩ | ⟨t, v, rfl, ht⟩
    · cases h
    · refine ⟨[(x.arg, v)], BindsTo.of_defaults rfl ht rfl rfl ?_, fun y hy => ?_⟩
      · simp
      · simp only [List.mem_cons, List.not_mem_nil, or_false] at hy
        rw [hy]
        simp [lamN]

/-! its body -/
/-- its names: its parameters, none of them a name of the def around; captured ones; globals -/
structure LamQ (N : List Str) (sc scope : Scope) (own : List Str) : Prop where
  kind : scope.kind = .function
  co : scope.isCoroutine = false
  gen : scope.isGenerator = false
  cel : ∀ y ∈ scope.names, y.2 ≠ .cell
  loc : ∀ y ∈ N, scope.names.lookup y ≠ some .local
  par : ∀ y ∈ own, scope.names.lookup y = some .local
  free : ∀ y ∈ scope.names, y.2 = .free → sc.names.lookup y.1 = some .cell ∨ sc.names.lookup y.1 = some .free
def lamQB (N : List Str) (sc scope : Scope) (own : List Str) : Bool :=
  decide (scope.kind = .function) && (!scope.isCoroutine && (!scope.isGenerator && ((scope.names.all fun y => !decide (y.2 = .cell) && (!decide (y.2 = .free) || (decide (sc.names.lookup y.1 = some .cell) || decide (sc.names.lookup y.1 = some .free)))) &&
    ((N.all fun y => !decide (scope.names.lookup y = some .local)) && own.all fun y => decide (scope.names.lookup y = some .local)))))
theorem lamQ_by {N : List Str} {sc scope : Scope} {own : List Str} (h : lamQB N sc scope own = true) : LamQ N sc scope own := by
  unfold lamQB at h
  simp only [Bool.and_eq_true, Bool.or_eq_true, Bool.not_eq_true', decide_eq_true_eq, decide_eq_false_iff_not, List.all_eq_true] at h
  obtain ⟨h1, h2, h3, h4, h5, h6⟩ := h
  exact ⟨h1, h2, h3, fun y hy => (h4 y hy).1, h5, h6, fun y hy e => ((h4 y hy).2).resolve_left fun z => z e⟩
section
variable {X : Cx} {pins : List (Addr × Obj)} {σ : L2.St} {H HZ : Hp} {s s1 : Shared}
theorem LamQ.has {scope : Scope} {own : List Str} (L : LamQ X.N X.env.scope scope own) (ok : X.Ok) : ∀ y ∈ scope.names, y.2 = .free → ∃ c, X.env.cells.lookup y.1 = some c := fun y hy e =>
  (L.free y hy e).elim (fun k => ok.has _ (.inl k)) fun k => ok.has _ (.inr k)
theorem lam_begin {A : Around} {outer : List Env} {E : XK} {scope : Scope} {own : List Str} {f c' : Addr} {h₁ : Heap} {tk : Nat} {m : Str → Option Value} (I : Inv X pins σ H s) (L : LamQ X.N X.env.scope scope own) (e0 : Env0 X.prog X.w X.K X.mg X.base A outer s1 HZ) (ha : A.handled = none)
    (un : Un (frs X.stack) [] H HZ s.heap s1.heap) (hns : h₁.Ns s1.heap.objs.size m) (kp : ∀ b o, s1.heap.get? b = some o → h₁.get? b = some o) : Inv (lamCx X A outer s1 HZ E scope f c') [] σ HZ { s1 with heap := h₁, toks := tk } := by
  have hf := L.has I.ok
  have sub : ∀ {y c}, (cloFrom X.env.cells scope.names []).lookup y = some c → X.env.cells.lookup y = some c := fun {y c} e => by
    rcases cloFrom_mem (PySem.mem_of_lookup e) with z | ⟨z1, z2⟩
    · cases z
    · obtain ⟨c1, hc⟩ := hf _ z1 rfl
      have hc : X.env.cells.lookup y = some c1 := hc
      have : c = c1 := by rw [z2, hc] <;> rfl
      rw [this]
      exact hc
  have got : ∀ {y}, scope.names.lookup y = some .free → ∃ c, (cloFrom X.env.cells scope.names []).lookup y = some c := fun {y} hl =>
    mem_lookup (cloFrom_has (cells := X.env.cells) (acc := []) (show (y, NameKind.free) ∈ scope.names from PySem.mem_of_lookup hl))
  have cells : ∀ {c : Addr} {v : Option Value}, H c = none → s.heap.IsCell c v → h₁.IsCell c v := fun {c v} n ⟨o, ho, hdd⟩ => by
    obtain ⟨sl, q⟩ := un.any ho n (by simp)
    exact ⟨_, kp _ _ q, hdd⟩
  have nex : ∀ b : Addr, b ∉ (lamCx X A outer s1 HZ E scope f c').ex := fun b z => absurd (show b ∈ ([] : List Addr) from z) (by simp)
  refine ⟨⟨e0.mod, L.kind, rfl, rfl, Nat.le_refl _, fun y z c e1 e2 => I.ok.inj y z c (sub e1) (sub e2), fun y hy => ?_, fun y c z _ => ?_, fun _ => ha, Around.frames_deeper e0.frames, .inr ⟨rfl, rfl⟩, fun b z => absurd z (nex b), e0.bs, e0.bsz, fun b _ _ => nex b,
      fun b z => absurd z (nex b), e0.funs, e0.frf⟩, rfl, e0.bare, Un.kept kp, ⟨_, hns, fun i y v e1 e2 e3 => ?_⟩, fun y c e => ?_, e0.hok.fresh (Nat.le_refl _), fun y c e => ?_, fun q hq => absurd (show q ∈ ([] : List (Addr × Obj)) ++ [] from hq) (by simp), e0.hok.kept kp, I.len⟩
  · rcases (show scope.names.lookup y = some .cell ∨ scope.names.lookup y = some .free from hy) with z | z
    · exact absurd rfl (L.cel _ (PySem.mem_of_lookup z))
    · exact got z
  · cases (show false = true from z)
  · rcases (show Vis scope y from e3) with k | k | k
    · exact absurd k (L.loc y (List.mem_of_getElem? (show X.N[i]? = some y from e1)))
    · exact absurd rfl (L.cel _ (PySem.mem_of_lookup k))
    · obtain ⟨m0, hn, hl⟩ := I.loc
      have hv : Vis X.env.scope y := (L.free _ (PySem.mem_of_lookup k) rfl).elim (fun k => .inr (.inl k)) fun k => .inr (.inr k)
      obtain ⟨w', r, q⟩ := hl i y v e1 e2 hv
      obtain ⟨c2, h2⟩ := got k
      refine ⟨w', r, .inr ⟨.inr k, c2, h2, ?_⟩⟩
      have h3 := sub h2
      rcases q with ⟨k', _⟩ | ⟨_, c3, e', z⟩
      · have k3 : X.env.scope.names.lookup y = some .local := k'
        rcases L.free _ (PySem.mem_of_lookup k) rfl with k2 | k2
        · cases (show some NameKind.cell = some NameKind.local from (show X.env.scope.names.lookup y = some .cell from k2).symm.trans k3)
        · cases (show some NameKind.free = some NameKind.local from (show X.env.scope.names.lookup y = some .free from k2).symm.trans k3)
      · rw [h3] at e'
        cases e'
        exact cells (I.freeC y _ h3) z
  · obtain ⟨w', z⟩ := I.cell y c (sub e)
    exact ⟨w', cells (I.freeC y c (sub e)) z⟩
  · obtain ⟨v, o, ho, _⟩ := I.cell y c (sub e)
    exact un.free c o ho (I.freeC y c (sub e)) (by simp)
/-- its call, in the def that got it -/
theorem lam_act {CXg : CXT} {Eg : XK} {Ng : List Str} {qg : Str} {sg : Scope} {g f c' : Addr} {cdg dV doc pm ctv : Value} {params : Arguments} {body : Expr} {scope : Scope} {k i : Nat} {a : Str} {pn : List (Addr × Obj)} {xe : Value → Shared → Prop} {W : WX} {E : XK} {tb : TE} {p1 p2 : Pos}
    (I : Inv X pins σ H s) (hp : lamP params = true) (L : LamQ X.N X.env.scope scope (lamN params)) (hf : s.heap.get? f = some (lamO X params body scope dV doc pm c' ctv)) (hfn : H f = none) (hfs : f ∉ frs X.stack) (hD : DvOk X H s params dV)
    (tk : Takes ((cxOf CXg X.prog X.w X.K X.mg X.base Ng qg sg g cdg X.A X.stack s H Eg).tr pn xe) W) (hW : ∀ cls d σ' H', E cls d H' → W cls d σ' H') (hr : Room (k + 1) (X.A.deeper (envOfC qg sg s.heap.objs.size g cdg)))
    (hbody : ∀ (A : Around) (outer : List Env) (s : Shared) (H : Hp), Room k (A.deeper (lamEnv X scope s.heap.objs.size f c')) → PE (lamCx X A outer s H E scope f c') body tb)
    (hN : Ng[i]? = some a) (hv : Vis sg a) (hd : (a == ("__debug__" : Str)) = false) (hcd : (a == ("__classdict__" : Str)) = false) :
    PE ((cxOf CXg X.prog X.w X.K X.mg X.base Ng qg sg g cdg X.A X.stack s H Eg).tr pn xe) (.Call (.Name a p1) [] [] p2)
      (fun σZ HZ Q => σZ[i]? = some (some (.ref f)) ∧ HZ c' = some (CodeO c' (X.env.qual ++ "<lambda>")) ∧ tb σ HZ Q) := by
  refine ⟨fun pinsZ sZ σZ HZ Q IZ h => ?_⟩
  obtain ⟨hs, hc, ht⟩ := h
  refine wpAny_Call_Name_kw (thn ((pe_var (pos := p1) (i := i) hN hv hd hcd).run pinsZ sZ σZ HZ (fun v H1 => v = .ref f ∧ H1 = HZ) IZ ⟨.ref f, hs, rfl, rfl⟩) fun u s1 ⟨v, H1, I1, r1, q1⟩ => ?_)
  obtain ⟨rfl, rfl⟩ := q1
  obtain rfl : u = Value.ref f := r1
  have no : ∀ b : Addr, b ∉ ([] : List Addr) := fun b z => nomatch z
  have of1 : s1.heap.get? f = some (lamO X params body scope dV doc pm c' ctv) := I1.base.keep f _ hf hfn hfs (no f)
  refine PySem.W.callWith_F0 ⟨_, _, _, _, of1⟩ ?_
  have un : Un (frs X.stack) [] H H1 s.heap s1.heap := I1.base
  obtain ⟨⟨oc, vs, t, hoc, hdc, hvc⟩, _, _⟩ := I1.hok c' _ hc
  obtain ⟨binds, hb, hown⟩ := lam_binds (body := body) (scope := scope) (q := X.env.qual ++ "<lambda>") (cl := cloFrom X.env.cells scope.names []) (dV := dV) (doc := doc) (pm := pm) (cdv := .ref c') (ctv := ctv) (s1 := s1) hp (by
    rcases hD with z | ⟨t, v, e1, e2, e3, e4⟩
    · exact .inl z
    · exact .inr ⟨t, v, e1, I1.base.keep t _ e2 e3 e4 (no t)⟩)
  have rc : codeAny (model X.prog X.w) (X.A.deeper (envOfC qg sg s.heap.objs.size g cdg)) (.call (.ref f) ⟨[], []⟩) (CR (L2.CX X.prog X.w) (envOfC qg sg s.heap.objs.size g cdg :: X.stack) X.prog X.w H1 s1 Q E) s1 := by
    refine PySem.W.kla_callFunE hr.depth of1 rfl L.co L.gen rfl ⟨c', oc, vs, t, rfl, hoc, hdc, hvc⟩ (hb _ _ _ _ ?_)
    refine wpAny_newFunctionEnv L.cel (fun y hy => L.par _ (hown y hy)) (fun h₁ hns hsb => ⟨I1.nolimit.fresh _ hsb, ?_⟩) L.kind
    show codeAny _ _ (.expr body (lamEnv X scope s1.heap.objs.size f c')) _ _
    have kp : ∀ b o, s1.heap.get? b = some o → h₁.get? b = some o := fun b o e => hsb.extBut b o (Nat.ne_of_lt (Heap.lt_size e)) (Heap.get?_push_of_some _ e)
    have J : Inv (lamCx X (X.A.deeper (envOfC qg sg s.heap.objs.size g cdg)) (envOfC qg sg s.heap.objs.size g cdg :: X.stack) s1 H1 E scope f c') [] σ H1 { s1 with heap := h₁, toks := s1.toks + binds.length } := lam_begin I L I1.env0 hr.hd un hns kp
    refine PySem.W.kla_codeExpr (wpAny_mono ((hbody _ _ s1 H1 (hr.deeper _)).run [] _ _ H1 Q J ht) (fun v s' hq => ?_) fun e s' hq => hq)
    obtain ⟨w', H', J', rv, q⟩ := hq
    exact ⟨w', H', J'.os, J'.bare, J'.base, J'.hok, rv, q⟩
  have hx : Passes (L2.CX X.prog X.w) ((cxOf CXg X.prog X.w X.K X.mg X.base Ng qg sg g cdg X.A X.stack s H Eg).tr pn xe) E := passes_call tk hW
  refine wpAny_call (codeAny_mono rc fun r s' hq => ?_)
  cases r with
  | error e => exact hx pinsZ σZ H1 s1 e s' I1 hq
  | ok fl =>
    cases fl with
    | ret u => exact I1.after hq
    | next => exact False.elim hq
    | brk => exact False.elim hq
    | cont => exact False.elim hq
end
end MP
namespace MP
open PySem L2

/-- plain values: what a value of the program is, without the heap; obj: a thing that may change, by its place in the store -/
inductive W where
  | non | bl (b : Bool) | int (i : Int) | str (s : Str)
  | tup (l : List W) | lst (l : List W) | rl (l : List W)
  | dk (ks : List Key) (vs : List W) | dt (ks : List (List Key)) (vs : List W)
  | obj (n : Nat) | fn (f : Str) | ty (n : String)
  | kd (ks : List Str) (vs : List W)
  deriving Inhabited

mutual
/-- no live thing within -/
def still : W → Bool
  | .obj _ => false
  | .tup l => stillA l
  | .lst l => stillA l
  | .rl _ => true
  | .dk _ l => stillA l
  | .dt _ l => stillA l
  | .kd _ l => stillA l
  | _ => true
def stillA : List W → Bool
  | [] => true
  | w :: ws => still w && stillA ws
end
/-- things that may change -/
inductive O where
  | lst (l : List W)
  | dk (ks : List Key) (vs : List W)
  | dt (ks : List (List Key)) (vs : List W)
  deriving Inhabited

abbrev Sto := List O
abbrev Rho := List (Option W)

/-- a written tuple, list -/
def WrT (K : PySem.W.Frag) (a : Addr) (xs : List V) : Prop :=
  ∃ (o : Obj) (its : Array Value) (n : Nat), K.lookup a = some o ∧ o.cls = .type "tuple" ∧ o.data = .seq its n ∧ its.size ≤ sizeLine ∧ Vals xs its.toList
def WrL (K : PySem.W.Frag) (a : Addr) (xs : List V) : Prop :=
  ∃ (o : Obj) (its : Array Value) (n : Nat), K.lookup a = some o ∧ o.cls = .type "list" ∧ o.dict = none ∧ o.data = .seq its n ∧ its.size ≤ sizeLine ∧ Vals xs its.toList

/-- a written dict with text keys, entry by entry -/
def DL (P : Params) : List Str → List V → List DictEntry → Prop
  | [], xs, es => xs = [] ∧ es = []
  | k :: ks, xs, es => ∃ x xr e er, xs = x :: xr ∧ es = e :: er ∧ (∃ t, e.key = .str k t) ∧ e.hash = PyData.keyHash P k ∧ RelV x e.val ∧ DL P ks xr er
def WrD (K : PySem.W.Frag) (P : Params) (a : Addr) (ks : List Str) (xs : List V) : Prop :=
  ∃ (es : Array DictEntry) (n : Nat), K.lookup a = some ⟨.type "dict", none, .dict es n, #[]⟩ ∧ DL P ks xs es.toList ∧ ks.Nodup ∧ (a == sysModules) = false ∧ es.size ≤ sizeLine
/-- what stands fixed: the text, the world, what the top has written, where the defs are -/
structure Bd where
  P : Program
  w : World
  K : PySem.W.Frag
  fa : Str → Option Addr
/-- the tables of code objects that are known, by the name of what they tell -/
def tabsOf (fa : Str → Option Addr) : List (Addr × Str) := match fa "<lambda>" with
  | some P => [(P, ("law" : Str) ++ ".<locals>." ++ "<lambda>")]
  | none => []
def NoTbl (o : HO) : Prop := ∀ ps, o ≠ .tbl ps
abbrev bd (fa : Str → Option Addr) (X : Cx) : Bd := ⟨X.prog, X.w, X.K, fa⟩
/-- a dict whose keys are tuples, told by its entries: the key, the key's tuple, the value -/
def dtP (P : Program) (w : World) (a : Addr) (xs : List (List Key × Addr × V)) (h : Heap) : Prop :=
  xs.length ≤ sizeLine ∧ (a == sysModules) = false ∧ ∃ vs : List (List Key × Addr × Value), Paired (fun p q => p.1 = q.1 ∧ p.2.1 = q.2.1 ∧ RelV p.2.2 q.2.2) xs vs ∧
    ∃ o es ep, h.get? a = some o ∧ o.ExactDict ∧ o.data = .dict es ep ∧ es.toList = vs.map (entryOfKey (tupleKind (mixKind P w))) ∧ (vs.map (·.1)).Nodup
def dtO (P : Program) (w : World) (a : Addr) (xs : List (List Key × Addr × V)) : HO := .ext (dtP P w a xs)

section
variable (K : PySem.W.Frag) (μ ex : List Addr) (H : Hp)
def FrT (a : Addr) (xs : List V) : Prop := (Rd H a (.tup xs) ∧ a ∉ μ ∧ a ∉ ex) ∨ WrT K a xs
def FrL (a : Addr) (xs : List V) : Prop := H a = some (.lst xs) ∧ a ∉ μ ∧ a ∉ ex
def FrR (a : Addr) (xs : List V) : Prop := (Rd H a (.lst xs) ∧ a ∉ μ ∧ a ∉ ex) ∨ WrL K a xs
def FrK (a : Addr) (kvs : List (Key × V)) : Prop := H a = some (.dK kvs) ∧ a ∉ μ ∧ a ∉ ex
def FrD (P : Program) (w : World) (a : Addr) (xs : List (List Key × Addr × V)) : Prop := H a = some (dtO P w a xs) ∧ a ∉ μ ∧ a ∉ ex
def KeysT (xs : List (List Key × Addr × V)) : Prop := ∀ x ∈ xs, FrT K μ ex H x.2.1 (x.1.map kV)
end
section
variable (B : Bd) (μ ex : List Addr) (H : Hp)
mutual
def R : W → V → Prop
  | .non, v => v = .non
  | .bl b, v => v = .bl b
  | .int i, v => v = .int i
  | .str s, v => v = .str s
  | .tup l, v => ∃ a xs, v = .ref a ∧ FrT B.K μ ex H a xs ∧ RA l xs
  | .lst l, v => ∃ a xs, v = .ref a ∧ FrL μ ex H a xs ∧ RA l xs
  | .rl l, v => ∃ a xs, v = .ref a ∧ (FrR B.K μ ex H a xs ∧ stillA l = true) ∧ RA l xs
  | .dk ks vs, v => ∃ a kvs, v = .ref a ∧ FrK μ ex H a kvs ∧ kvs.map (·.1) = ks ∧ RA vs (kvs.map (·.2))
  | .dt ks vs, v => ∃ a kvs, v = .ref a ∧ FrD μ ex H B.P B.w a kvs ∧ KeysT B.K μ ex H kvs ∧ kvs.map (·.1) = ks ∧ RA vs (kvs.map (·.2.2))
  | .obj n, v => ∃ a, v = .ref a ∧ μ[n]? = some a
  | .fn f, v => ∃ a, v = .ref a ∧ B.fa f = some a
  | .ty n, v => v = .ty n
  | .kd ks vs, v => ∃ a xs, v = .ref a ∧ WrD B.K B.w.params a ks xs ∧ RA vs xs
def RA : List W → List V → Prop
  | [], vs => vs = []
  | w :: ws, vs => ∃ x xs, vs = x :: xs ∧ R w x ∧ RA ws xs
end
def OR (o : O) (a : Addr) (h : Option HO) : Prop := match o with
  | .lst l => ∃ xs, h = some (.lst xs) ∧ RA B μ ex H l xs
  | .dk ks vs => ∃ kvs, h = some (.dK kvs) ∧ kvs.map (·.1) = ks ∧ RA B μ ex H vs (kvs.map (·.2))
  | .dt ks vs => ∃ kvs, h = some (dtO B.P B.w a kvs) ∧ KeysT B.K μ ex H kvs ∧ kvs.map (·.1) = ks ∧ RA B μ ex H vs (kvs.map (·.2.2))
/-- the store is held -/
structure S (st : Sto) : Prop where
  nd : (μ ++ ex).Nodup
  len : μ.length = st.length
  obj : ∀ (n : Nat) (o : O), st[n]? = some o → ∃ a, μ[n]? = some a ∧ OR B μ ex H o a (H a)
  exs : ∀ a ∈ ex, H a ≠ none
  tab : TabsX (tabsOf B.fa) (fun b => b ∉ μ ∧ b ∉ ex) H
/-- the slots are held -/
structure EnvR (ρ : Rho) (σ : L2.St) : Prop where
  len : ρ.length = σ.length
  at_ : ∀ (i : Nat) (w : W), ρ[i]? = some (some w) → ∃ v, σ[i]? = some (some v) ∧ R B μ ex H w v
end

/-- from one heap to a later one: what may not change stands; new things that may change come at the end -/
structure Ext (μ : List Addr) (H : Hp) (μ' : List Addr) (H' : Hp) : Prop where
  pre : ∃ t, μ' = μ ++ t
  kept : ∀ a o, a ∉ μ → H a = some o → NoTbl o → H' a = some o ∧ a ∉ μ'
theorem Ext.refl (μ : List Addr) (H : Hp) : Ext μ H μ H := ⟨⟨[], by simp⟩, fun _ _ n e _ => ⟨e, n⟩⟩
theorem Ext.trans {μ μ1 μ2 : List Addr} {H H1 H2 : Hp} (a : Ext μ H μ1 H1) (b : Ext μ1 H1 μ2 H2) : Ext μ H μ2 H2 := by
  obtain ⟨t, rfl⟩ := a.pre
  obtain ⟨u, rfl⟩ := b.pre
  exact ⟨⟨t ++ u, by simp⟩, fun x o n e z => let ⟨e1, n1⟩ := a.kept x o n e z; b.kept x o n1 e1 z⟩

section
variable {K : PySem.W.Frag} {B : Bd} {μ μ' ex : List Addr} {H H' : Hp}
theorem FrT.sq {a : Addr} {xs : List V} (h : FrT K μ ex H a xs) : SqT K H a xs := by
  rcases h with ⟨h, _, _⟩ | h
  · exact .inl h
  · exact .inr h
theorem FrL.sq {a : Addr} {xs : List V} (h : FrL μ ex H a xs) : SqL K H a xs := .inl (.inl h.1)
theorem FrR.sq {a : Addr} {xs : List V} (h : FrR K μ ex H a xs) : SqL K H a xs := by
  rcases h with ⟨h, _, _⟩ | h
  · exact .inl h
  · exact .inr h
theorem rd_ext {a : Addr} {u : HO} (k : ∀ o, H a = some o → H' a = some o) (h : Rd H a u) : Rd H' a u := by
  rcases h with h | ⟨o, h⟩
  · exact .inl (k _ h)
  · exact .inr ⟨o, k _ h⟩
/-- a change that leaves what is no live thing -/
structure Chg (μ ex : List Addr) (H : Hp) (μ' ex' : List Addr) (H' : Hp) : Prop where
  ix : ∀ (n : Nat) (a : Addr), μ[n]? = some a → μ'[n]? = some a
  kept : ∀ a o, a ∉ μ → a ∉ ex → H a = some o → NoTbl o → H' a = some o ∧ a ∉ μ' ∧ a ∉ ex'
theorem Ext.chg {ex : List Addr} (e : Ext μ H μ' H') : Chg μ ex H μ' ex H' := by
  obtain ⟨t, rfl⟩ := e.pre
  exact ⟨fun n a h => by rw [List.getElem?_append_left (List.getElem?_eq_some_iff.mp h).1]; exact h, fun a o n nx h z => ⟨(e.kept a o n h z).1, (e.kept a o n h z).2, nx⟩⟩
theorem rd_some {a : Addr} {u : HO} (hu : NoTbl u) (h : Rd H a u) : ∃ o, H a = some o ∧ NoTbl o := by
  rcases h with h | ⟨o, h⟩
  · exact ⟨_, h, hu⟩
  · exact ⟨_, h, fun ps => by simp⟩
theorem nt_tup (xs : List V) : NoTbl (.tup xs) := fun ps => by simp
theorem nt_lst (xs : List V) : NoTbl (.lst xs) := fun ps => by simp
theorem nt_dK (xs : List (Key × V)) : NoTbl (.dK xs) := fun ps => by simp
theorem nt_dtO (P : Program) (w : World) (a : Addr) (xs : List (List Key × Addr × V)) : NoTbl (dtO P w a xs) := fun ps z => by
  unfold dtO at z
  cases z
theorem rd_chg {a : Addr} {u o : HO} (h0 : H a = some o) (k : H a = some o → H' a = some o) (h : Rd H a u) : Rd H' a u :=
  rd_ext (fun o' q => by rw [h0] at q; cases q; exact k h0) h
theorem FrT.chg {ex ex' : List Addr} (e : Chg μ ex H μ' ex' H') {a : Addr} {xs : List V} (f : FrT K μ ex H a xs) : FrT K μ' ex' H' a xs := by
  rcases f with ⟨f, n, nx⟩ | f
  · obtain ⟨o, ho, nt⟩ := rd_some (nt_tup _) f
    obtain ⟨k1, m, mx⟩ := e.kept a o n nx ho nt
    exact .inl ⟨rd_chg ho (fun _ => k1) f, m, mx⟩
  · exact .inr f
theorem KeysT.chg {ex ex' : List Addr} (e : Chg μ ex H μ' ex' H') {xs : List (List Key × Addr × V)} (f : KeysT K μ ex H xs) : KeysT K μ' ex' H' xs := fun x hx => (f x hx).chg e
mutual
theorem R.chg {ex ex' : List Addr} (e : Chg μ ex H μ' ex' H') : ∀ (w : W) (v : V), R B μ ex H w v → R B μ' ex' H' w v
  | .non, _, h => h
  | .bl _, _, h => h
  | .int _, _, h => h
  | .str _, _, h => h
  | .tup l, _, ⟨a, xs, e1, f, r⟩ => by
    refine ⟨a, xs, e1, ?_, RA.chg e l xs r⟩
    rcases f with ⟨f, n, nx⟩ | f
    · obtain ⟨o, ho, nt⟩ := rd_some (nt_tup _) f
      obtain ⟨k1, m, mx⟩ := e.kept a o n nx ho nt
      exact .inl ⟨rd_chg ho (fun _ => k1) f, m, mx⟩
    · exact .inr f
  | .lst l, _, ⟨a, xs, e1, ⟨f, n, nx⟩, r⟩ => by
    obtain ⟨q, m, mx⟩ := e.kept a _ n nx f (nt_lst _)
    exact ⟨a, xs, e1, ⟨q, m, mx⟩, RA.chg e l xs r⟩
  | .rl l, _, ⟨a, xs, e1, ⟨f, hs⟩, r⟩ => by
    refine ⟨a, xs, e1, ⟨?_, hs⟩, RA.chg e l xs r⟩
    rcases f with ⟨f, n, nx⟩ | f
    · obtain ⟨o, ho, nt⟩ := rd_some (nt_lst _) f
      obtain ⟨k1, m, mx⟩ := e.kept a o n nx ho nt
      exact .inl ⟨rd_chg ho (fun _ => k1) f, m, mx⟩
    · exact .inr f
  | .dk ks vs, _, ⟨a, kvs, e1, ⟨f, n, nx⟩, ek, r⟩ => by
    obtain ⟨q, m, mx⟩ := e.kept a _ n nx f (nt_dK _)
    exact ⟨a, kvs, e1, ⟨q, m, mx⟩, ek, RA.chg e vs _ r⟩
  | .dt ks vs, _, ⟨a, kvs, e1, ⟨f, n, nx⟩, kt, ek, r⟩ => by
    obtain ⟨q, m, mx⟩ := e.kept a _ n nx f (nt_dtO _ _ _ _)
    exact ⟨a, kvs, e1, ⟨q, m, mx⟩, kt.chg e, ek, RA.chg e vs _ r⟩
  | .obj n, _, ⟨a, e1, h⟩ => ⟨a, e1, e.ix n a h⟩
  | .fn f, _, h => h
  | .ty _, _, h => h
  | .kd ks vs, _, ⟨a, xs, e1, f, r⟩ => ⟨a, xs, e1, f, RA.chg e vs xs r⟩
theorem RA.chg {ex ex' : List Addr} (e : Chg μ ex H μ' ex' H') : ∀ (ws : List W) (vs : List V), RA B μ ex H ws vs → RA B μ' ex' H' ws vs
  | [], _, h => h
  | w :: ws, _, ⟨x, xs, e1, r, t⟩ => ⟨x, xs, e1, R.chg e w x r, RA.chg e ws xs t⟩
end
theorem R.ext {ex : List Addr} (e : Ext μ H μ' H') {w : W} {v : V} (h : R B μ ex H w v) : R B μ' ex H' w v := R.chg e.chg w v h
theorem RA.ext {ex : List Addr} (e : Ext μ H μ' H') {w : List W} {v : List V} (h : RA B μ ex H w v) : RA B μ' ex H' w v := RA.chg e.chg w v h
theorem EnvR.chg {ex' : List Addr} (e : Chg μ ex H μ' ex' H') {ρ : Rho} {σ : L2.St} (h : EnvR B μ ex H ρ σ) : EnvR B μ' ex' H' ρ σ :=
  ⟨h.len, fun i w q => let ⟨v, q1, r⟩ := h.at_ i w q; ⟨v, q1, R.chg e w v r⟩⟩
theorem EnvR.ext (e : Ext μ H μ' H') {ρ : Rho} {σ : L2.St} (h : EnvR B μ ex H ρ σ) : EnvR B μ' ex H' ρ σ := h.chg e.chg
theorem RA.length : ∀ {ws : List W} {vs : List V}, RA B μ ex H ws vs → ws.length = vs.length
  | [], _, h => by rw [show _ = _ from h]; rfl
  | _ :: _, _, ⟨_, _, e, _, t⟩ => by rw [e]; simp [RA.length t]
theorem RA.get : ∀ {ws : List W} {vs : List V} {i : Nat} {w : W}, RA B μ ex H ws vs → ws[i]? = some w → ∃ v, vs[i]? = some v ∧ R B μ ex H w v
  | [], _, _, _, _, q => by simp at q
  | w :: ws, _, 0, _, ⟨x, xs, e, r, _⟩, q => by simp at q; subst q; exact ⟨x, by rw [e]; rfl, r⟩
  | w :: ws, _, i + 1, _, ⟨x, xs, e, _, t⟩, q => by
    obtain ⟨v, a, b⟩ := RA.get t (by simpa using q)
    exact ⟨v, by rw [e]; simpa using a, b⟩
theorem RA.append : ∀ {ws ws' : List W} {vs vs' : List V}, RA B μ ex H ws vs → RA B μ ex H ws' vs' → RA B μ ex H (ws ++ ws') (vs ++ vs')
  | [], _, _, _, h, h' => by rw [show _ = _ from h]; exact h'
  | w :: ws, _, _, _, ⟨x, xs, e, r, t⟩, h' => by rw [e]; exact ⟨x, _, rfl, r, RA.append t h'⟩
theorem RA.one {w : W} {v : V} (h : R B μ ex H w v) : RA B μ ex H [w] [v] := ⟨v, [], rfl, h, rfl⟩
theorem RA.drop : ∀ {ws : List W} {vs : List V} (n : Nat), RA B μ ex H ws vs → RA B μ ex H (ws.drop n) (vs.drop n)
  | _, _, 0, h => by simpa using h
  | [], _, n + 1, h => by rw [show _ = _ from h]; simp; rfl
  | w :: ws, _, n + 1, ⟨x, xs, e, r, t⟩ => by rw [e]; simpa using RA.drop n t
theorem RA.take : ∀ {ws : List W} {vs : List V} (n : Nat), RA B μ ex H ws vs → RA B μ ex H (ws.take n) (vs.take n)
  | _, _, 0, h => by simp; rfl
  | [], _, n + 1, h => by rw [show _ = _ from h]; simp; rfl
  | w :: ws, _, n + 1, ⟨x, xs, e, r, t⟩ => by rw [e]; exact ⟨x, _, rfl, r, by simpa using RA.take n t⟩
theorem RA.set : ∀ {ws : List W} {vs : List V} {w : W} {v : V} (n : Nat), RA B μ ex H ws vs → R B μ ex H w v → RA B μ ex H (ws.set n w) (vs.set n v)
  | [], _, _, _, n, h, _ => by rw [show _ = _ from h]; simp; rfl
  | w :: ws, _, _, _, 0, ⟨x, xs, e, r, t⟩, h => by rw [e]; exact ⟨_, _, rfl, h, t⟩
  | w :: ws, _, _, _, n + 1, ⟨x, xs, e, r, t⟩, h => by rw [e]; exact ⟨x, _, rfl, r, RA.set n t h⟩
theorem OR.chg {ex' : List Addr} (e : Chg μ ex H μ' ex' H') {o : O} {a : Addr} {h : Option HO} (x : OR B μ ex H o a h) : OR B μ' ex' H' o a h := by
  cases o with
  | lst l => obtain ⟨xs, q, r⟩ := x; exact ⟨xs, q, RA.chg e _ _ r⟩
  | dk ks vs => obtain ⟨kvs, q, q2, r⟩ := x; exact ⟨kvs, q, q2, RA.chg e _ _ r⟩
  | dt ks vs => obtain ⟨kvs, q, kt, q2, r⟩ := x; exact ⟨kvs, q, kt.chg e, q2, RA.chg e _ _ r⟩
theorem EnvR.set {ρ : Rho} {σ : L2.St} {w : W} {v : V} (i : Nat) (h : EnvR B μ ex H ρ σ) (r : R B μ ex H w v) : EnvR B μ ex H (ρ.set i (some w)) (σ.set i (some v)) := by
  refine ⟨by simpa using h.len, fun j u q => ?_⟩
  by_cases hj : i = j
  · subst hj
    have hl : i < ρ.length := by
      have := (List.getElem?_eq_some_iff.mp q).1
      simpa using this
    rw [List.getElem?_set_self hl] at q
    cases q
    exact ⟨v, by rw [List.getElem?_set_self (by rw [← h.len]; exact hl)], r⟩
  · rw [List.getElem?_set_ne hj] at q
    obtain ⟨v', q', r'⟩ := h.at_ j u q
    exact ⟨v', by rw [List.getElem?_set_ne hj]; exact q', r'⟩
end
end MP
namespace MP
open PySem L2

/-! the evaluator: values and a store, by the text itself -/
def slot (x : Str) : List Str → Option Nat
  | [] => none
  | y :: ys => if y = x then some 0 else (slot x ys).map (· + 1)
def visB (sc : Scope) (x : Str) : Bool := match sc.names.lookup x with
  | some .local => true | some .cell => true | some .free => true | _ => false
def glB (sc : Scope) (x : Str) : Bool := match sc.names.lookup x with
  | some .globalImplicit => true | _ => false
def locB (sc : Scope) (x : Str) : Bool := match sc.names.lookup x with
  | some .local => true | _ => false

def keyOf : W → Option Key
  | .int i => some (.inl i)
  | .str s => some (.inr s)
  | _ => none
def keysOf : List W → Option (List Key)
  | [] => some []
  | w :: ws => (keyOf w).bind fun k => (keysOf ws).bind fun ks => some (k :: ks)
def getK {κ : Type} [DecidableEq κ] : List κ → List W → κ → Option W
  | k :: ks, v :: vs, x => if k = x then some v else getK ks vs x
  | _, _, _ => none
/-- in its place, or at the end -/
def setK {κ : Type} [DecidableEq κ] : List κ → List W → κ → W → List W
  | k :: ks, v :: vs, x, y => (if k = x then y else v) :: setK ks vs x y
  | _, _, _, _ => []
def putK1 {κ : Type} [DecidableEq κ] (ks : List κ) (x : κ) : List κ := if (ks.any fun j => decide (j = x)) = true then ks else ks ++ [x]
def putK2 {κ : Type} [DecidableEq κ] (ks : List κ) (vs : List W) (x : κ) (y : W) : List W := if (ks.any fun j => decide (j = x)) = true then setK ks vs x y else vs ++ [y]

mutual
def toPy : W → Option PyData
  | .non => some .none
  | .bl b => some (.bool b)
  | .int i => some (.int i)
  | .str s => some (.str s)
  | .tup l => (toPyA l).map .tuple
  | .lst l => (toPyA l).map .list
  | .rl l => (toPyA l).map .list
  | _ => none
def toPyA : List W → Option (List PyData)
  | [] => some []
  | w :: ws => (toPy w).bind fun d => (toPyA ws).bind fun ds => some (d :: ds)
end

/-- an answer of == -/
def eqW (a b : W) : Option Bool :=
  match a, b with
  | .str x, .str y => some (decide (x = y))
  | .int x, .int y => some (decide (x = y))
  | .bl x, .bl y => some (decide (x = y))
  | a, b => (toPy a).bind fun d => (toPy b).bind fun e => if SeqAt.shaped d = true ∧ SeqAt.shaped e = true then some (PyData.eqv d e) else none

def small (n : Nat) : Bool := decide (n ≤ sizeLine)
def binW (op : Operator) (a b : W) : Option W :=
  match op, a, b with
  | .Add, .int i, .int j => some (.int (i + j))
  | .Add, .str s, .str t => if s.length + t.length ≤ sizeLine then some (.str (s ++ t)) else none
  | .Add, .tup l, .tup m => if l.length + m.length ≤ sizeLine then some (.tup (l ++ m)) else none
  | .Add, .lst l, .lst m => if l.length + m.length ≤ sizeLine then some (.lst (l ++ m)) else none
  | .Sub, .int i, .int j => some (.int (i - j))
  | .Mult, .int i, .int j => if (-(2 ^ 64) < i ∧ i < 2 ^ 64) ∨ (-(2 ^ 64) < j ∧ j < 2 ^ 64) then some (.int (i * j)) else none
  | .Mult, .lst l, .int k => if -(2 ^ 63) ≤ k ∧ k < 2 ^ 63 ∧ l.length * k.toNat ≤ sizeLine then some (.lst (List.replicate k.toNat l).flatten) else none
  | .Mult, .tup l, .int k => if -(2 ^ 63) ≤ k ∧ k ≤ 1000 ∧ l.length ≤ 1000 ∧ l.isEmpty = false then some (.tup (List.replicate k.toNat l).flatten) else none
  | .Mult, .str s, .int k => if 1 ≤ k ∧ k ≤ 100 ∧ s.length ≤ 100 then some (.str (Txt.mul s k)) else none
  | .FloorDiv, .int i, .int j => if j ≠ 0 ∧ j.natAbs < 1073741824 then some (.int (i.fdiv j)) else none
  | .Mod, .int i, .int j => if j ≠ 0 then some (.int (i.fmod j)) else none
  | .Pow, .int i, .int j => if 0 ≤ j ∧ j ≤ 1000000 ∧ i.natAbs < 2 ^ 64 then some (.int (i ^ j.toNat)) else none
  | _, _, _ => none

/-- a flat value's data, for `in` -/
def flatW : W → Bool
  | .non => true | .bl _ => true | .int _ => true | .str _ => true | _ => false
def eqF : W → W → Bool
  | .non, .non => true
  | .bl a, .bl b => a == b
  | .bl a, .int b => (if a then 1 else 0) == b
  | .int a, .bl b => a == (if b then 1 else 0)
  | .int a, .int b => a == b
  | .str a, .str b => a == b
  | _, _ => false
def inSeq (x : W) (l : List W) : Option Bool := if flatW x = true ∧ l.all flatW = true then some (l.any fun y => eqF y x) else
  (toPy x).bind fun d => (toPyA l).bind fun ds => if SeqAt.shaped d = true ∧ SeqAt.shaped (.list ds) = true then some (ds.any fun z => PyData.eqv z d) else none
def inW (x c : W) : Option Bool :=
  match c with
  | .tup l => inSeq x l
  | .lst l => inSeq x l
  | .rl l => inSeq x l
  | .dk ks _ => (keyOf x).map fun k => ks.any fun j => decide (j = k)
  | .kd ks _ => match x with
    | .str s => some (ks.any fun j => decide (j = s))
    | _ => none
  | .str t => match x with
    | .str s => some (!(Builtin.Str.occurrences t s 0 t.length 1).isEmpty)
    | _ => none
  | _ => none
def isNon : W → Bool
  | .non => true | _ => false
/-- a is b, b None or a bool -/
def isW (a b : W) : Option Bool := match b with
  | .non => some (isNon a)
  | .bl k => match a with
    | .bl j => some (j == k)
    | _ => none
  | _ => none
def cmpW (op : CmpOp) (a b : W) : Option Bool :=
  match op with
  | .Eq => eqW a b
  | .NotEq => (eqW a b).map fun k => !k
  | .Lt => match a, b with | .int i, .int j => some (decide (i < j)) | _, _ => none
  | .LtE => match a, b with | .int i, .int j => some (decide (i ≤ j)) | _, _ => none
  | .Gt => match a, b with | .int i, .int j => some (decide (j < i)) | _, _ => none
  | .GtE => match a, b with | .int i, .int j => some (decide (j ≤ i)) | _, _ => none
  | .In => inW a b
  | .NotIn => (inW a b).map fun k => !k
  | .Is => isW a b
  | .IsNot => (isW a b).map fun k => !k

/-- a list that may change, and more -/
def addO (st : Sto) : W → W → Option W
  | .obj n, .lst m => match st[n]? with
    | some (.lst l) => if l.length + m.length ≤ sizeLine then some (.lst (l ++ m)) else none
    | _ => none
  | _, _ => none
def binE (st : Sto) (x y : W) : Option W := match binW .Add x y with
  | some w => some w
  | none => addO st x y
def bareL : Expr → Operator → Expr → Bool
  | .Name _ _, .Add, .List _ _ => true
  | _, _, _ => false
def binB (a b : Expr) (st : Sto) (op : Operator) (x y : W) : Option W := if bareL a op b = true then binE st x y else binW op x y
/-- a list that may change beside an empty one -/
def objE (st : Sto) (op : CmpOp) : W → W → Option Bool
  | .obj n, .lst [] => match st[n]? with
    | some (.lst l) => if stillA l = true then cmpW op (.lst l) (.lst []) else none
    | _ => none
  | _, _ => none
def cmpE (st : Sto) (op : CmpOp) (x y : W) : Option Bool := match cmpW op x y with
  | some k => some k
  | none => objE st op x y
def bareE : Expr → Expr → Bool
  | .Name _ _, .List [] _ => true
  | _, _ => false
def cmpB (a b : Expr) (st : Sto) (op : CmpOp) (x y : W) : Option Bool := if bareE a b = true then cmpE st op x y else cmpW op x y
def truthW (st : Sto) : W → Option Bool
  | .non => some false
  | .bl b => some b
  | .int i => some (i != 0)
  | .str s => if s.length ≤ sizeLine then some ((s.length : Int) != 0) else none
  | .tup l => some (!l.isEmpty)
  | .lst l => some (!l.isEmpty)
  | .rl l => some (!l.isEmpty)
  | _ => none
/-- the one-sign texts of a text -/
def signs (s : Str) : List W := s.cps.toList.map fun c => .str ⟨#[c]⟩
def ixW (st : Sto) (a i : W) : Option W :=
  match a, i with
  | .tup l, .int i => atI l i
  | .lst l, .int i => atI l i
  | .rl l, .int i => atI l i
  | .str s, .int i => if s.length ≤ sizeLine then (atI s.cps.toList i).map fun c => .str ⟨#[c]⟩ else none
  | .dk ks vs, i => (keyOf i).bind fun k => getK ks vs k
  | .dt ks vs, .tup l => (keysOf l).bind fun k => getK ks vs k
  | .kd ks vs, .str s => getK ks vs s
  | .obj n, .int i => match st[n]? with
    | some (.lst l) => atI l i
    | _ => none
  | _, _ => none
def cutW {α : Type} (xs : List α) (lo hi : Option Int) : List α := (xs.drop (HT.sIx xs.length 0 lo)).take (HT.sIx xs.length xs.length hi - HT.sIx xs.length 0 lo)
def slW (a : W) (lo hi : Option Int) : Option W :=
  match a with
  | .tup l => some (.tup (cutW l lo hi))
  | .lst l => some (.lst (cutW l lo hi))
  | .str s => if s.length ≤ sizeLine then some (.str (cutS s lo hi)) else none
  | _ => none
def lenW (st : Sto) : W → Option Nat
  | .str s => if s.length ≤ sizeLine then some s.length else none
  | .tup l => some l.length
  | .lst l => some l.length
  | .rl l => some l.length
  | .obj n => match st[n]? with
    | some (.lst l) => some l.length
    | _ => none
  | _ => none
/-- the items of what list(), tuple() take -/
def itemsW (st : Sto) : W → Option (List W)
  | .tup l => some l
  | .lst l => some l
  | .rl l => some l
  | .obj n => match st[n]? with
    | some (.lst l) => some l
    | _ => none
  | _ => none
/-- the type's name -/
def tyW : W → Option String
  | .non => some "NoneType"
  | .bl _ => some "bool"
  | .int _ => some "int"
  | .str _ => some "str"
  | .tup _ => some "tuple"
  | .lst _ => some "list"
  | .rl _ => some "list"
  | .dk _ _ => some "dict"
  | _ => none
def isiOne (t : String) : W → Option Bool
  | .ty c => kitB t c
  | _ => none
def isTyW : W → Bool
  | .ty _ => true | _ => false
def isiAny (t : String) : List W → Option Bool
  | [] => some false
  | c :: cs => (isiOne t c).bind fun b => if b = true then (if cs.all isTyW = true then some true else none) else isiAny t cs
def isiW (x c : W) : Option Bool := (tyW x).bind fun t => match c with
  | .ty c => kitB t c
  | .tup cs => isiAny t cs
  | _ => none
def minS (s t : Str) : Str := if t.cps.toList < s.cps.toList then t else s
def maxS (s t : Str) : Str := if s.cps.toList < t.cps.toList then t else s

def insS (x : Str) : List Str → List Str
  | [] => [x]
  | y :: ys => if y.cps.toList < x.cps.toList then y :: insS x ys else x :: y :: ys
def sortS : List Str → List Str
  | [] => []
  | x :: xs => insS x (sortS xs)
def strsW : List W → Option (List Str)
  | [] => some []
  | .str s :: ws => (strsW ws).map fun l => s :: l
  | _ :: _ => none
def blsW : List W → Option (List Bool)
  | [] => some []
  | .bl b :: ws => (blsW ws).map fun l => b :: l
  | _ :: _ => none
def intsW : List W → Option (List Int)
  | [] => some []
  | .int i :: ws => (intsW ws).map fun l => i :: l
  | _ :: _ => none
/-- each once -/
def uniqS : List Str → List Str
  | [] => []
  | x :: xs => if x ∈ xs then uniqS xs else x :: uniqS xs
def isTupC : PyData → Bool
  | .tuple (_ :: _) => true
  | _ => false
def ascD : List PyData → Bool
  | [] => true
  | d :: ds => (ds.all fun e => !PySem.W.dataLt e d) && ascD ds
/-- what sorted takes here -/
def goodD (ds : List PyData) : Bool := ds.all isTupC && (ds.all fun d => ds.all fun e => PySem.W.alike d e) && ascD ds && SeqAt.shaped (.list ds)
/-- the built-ins by name -/
def callB (st : Sto) (f : Str) (ws : List W) : Option W :=
  if f = "len" then (match ws with | [w] => (lenW st w).map fun (n : Nat) => W.int (n : Int) | _ => none)
  else if f = "isinstance" then (match ws with | [x, c] => (isiW x c).map .bl | _ => none)
  else if f = "int" then (match ws with | [.int i] => some (.int i) | [.bl k] => some (.int (if k then 1 else 0)) | _ => none)
  else if f = "tuple" then (match ws with | [.str s] => (if s.length ≤ sizeLine then some (.tup (signs s)) else none) | [w] => (itemsW st w).map .tup | _ => none)
  else if f = "list" then (match ws with | [.str s] => (if s.length ≤ sizeLine then some (.lst (signs s)) else none) | [w] => (itemsW st w).map .lst | _ => none)
  else if f = "min" then (match ws with | [.int i, .int j] => some (.int (if j < i then j else i)) | [.str i, .str j] => some (.str (minS i j)) | _ => none)
  else if f = "max" then (match ws with | [.int i, .int j] => some (.int (if j > i then j else i)) | [.str i, .str j] => some (.str (maxS i j)) | _ => none)
  else if f = "sorted" then (match ws with
    | [.kd ks _] => if ks.length < 64 then some (.lst ((sortS ks).map .str)) else none
    | [.lst l] => (strsW l).bind fun ks => if ks.length < 64 then some (.lst ((sortS ks).map .str)) else none
    | [.tup l] => (toPyA l).bind fun ds => if goodD ds = true then some (.lst l) else none
    | _ => none)
  else if f = "all" then (match ws with | [.lst l] => (blsW l).map fun bs => .bl (bs.all id) | _ => none)
  else if f = "any" then (match ws with | [.lst l] => (blsW l).map fun bs => .bl (bs.any id) | _ => none)
  else if f = "sum" then (match ws with | [.lst l] => (intsW l).map fun ns => .int ns.sum | _ => none)
  else none
/-- tuples of texts, and the first of the least of them -/
def tupsW : List W → Option (List (List Str))
  | [] => some []
  | .tup l :: ws => (strsW l).bind fun k => (tupsW ws).bind fun ks => some (k :: ks)
  | _ :: _ => none
def minK (a : List Str) : List (List Str) → List Str
  | [] => a
  | y :: ys => minK (if PySem.W.dataLt (.tuple (y.map .str)) (.tuple (a.map .str)) = true then y else a) ys
def okT (l : List Str) : Bool := l.all PyData.strOk
def minDW : W → Option W
  | .lst l => (tupsW l).bind fun kss => if kss.all okT = true then (match kss with
    | [] => some .non
    | k :: ks => some (.tup ((minK k ks).map .str))) else none
  | _ => none
/-- the methods -/
def methB (w : W) (m : Str) (ws : List W) : Option W :=
  if m = "count" then (match w, ws with
    | .lst l, [.str x] => (strsW l).map fun ys => .int ((ys.count x : Nat) : Int)
    | _, _ => none)
  else if m = "index" then (match w, ws with
    | .lst l, [.str x] => (strsW l).bind fun ys => (ys.findIdx? fun y => decide (y = x)).map fun j => .int ((j : Nat) : Int)
    | _, _ => none)
  else if m = "join" then (match w, ws with
    | .str a, [.tup l] => (strsW l).bind fun ys => if (ys.map (·.length)).sum + ys.length * a.length ≤ 16777216 then some (.str (Txt.join a ys)) else none
    | .str a, [.lst l] => (strsW l).bind fun ys => if (ys.map (·.length)).sum + ys.length * a.length ≤ 16777216 then some (.str (Txt.join a ys)) else none
    | _, _ => none)
  else if m = "split" then (match w, ws with
    | .str a, [.str b] => if (b.length == 0) = false ∧ a.length + 2 ≤ sizeLine then some (.lst ((Txt.split a b).map .str)) else none
    | _, _ => none)
  else if m = "get" then (match w, ws with
    | .dk ks vs, [k] => (keyOf k).map fun k => (getK ks vs k).getD .non
    | .dk ks vs, [k, d] => (keyOf k).map fun k => (getK ks vs k).getD d
    | .kd ks vs, [.str z] => some ((getK ks vs z).getD .non)
    | .kd ks vs, [.str z, d] => some ((getK ks vs z).getD d)
    | _, _ => none)
  else none

/-- .. without arguments -/
def methB0 (w : W) (m : Str) : Option W :=
  if m = "upper" then (match w with
    | .str a => if a.length ≤ 5592405 then some (.str (Txt.upper a)) else none
    | _ => none)
  else none

def newO : W → Option O
  | .lst l => some (.lst l)
  | .dk ks l => some (.dk ks l)
  | .dt ks l => some (.dt ks l)
  | _ => none
structure Fn where
  st : Stmt
  qual : Str
  ps : List Str
  N : List Str
  mt : List Str
  lam : Bool
structure Gam where
  fns : List (Str × Fn)
  cs : List (Str × W)
  bs : List Str
  tys : List Str
  cls : List (Str × List Str)
  ini : List Str

/-- what a def lets out: a KeyError; an error of the program's own, by its class, with what it tells -/
inductive Exn where
  | key | own (c : Str) (v : Option W)
inductive Out where
  | nx (ρ : Rho) (st : Sto) | rt (w : W) (st : Sto) | bk (ρ : Rho) (st : Sto) | ct (ρ : Rho) (st : Sto)

def isStar : Expr → Bool
  | .Starred _ _ => true | _ => false
def isComp : Expr → Bool
  | .ListComp .. => true | .SetComp .. => true | .DictComp .. => true | _ => false
def isSlice : Expr → Bool
  | .Slice .. => true | _ => false
def isList : Expr → Bool
  | .List .. => true | .Dict .. => true | _ => false
def isTupE : Expr → Bool
  | .Tuple .. => true | _ => false
def isSetE : Expr → Bool
  | .Set .. => true | _ => false

def evList (f : Expr → Rho → Sto → Option (W × Sto)) : List Expr → Rho → Sto → Option (List W × Sto)
  | [], _, st => some ([], st)
  | e :: es, ρ, st => if isStar e = true then none else (f e ρ st).bind fun (w, st1) => (evList f es ρ st1).bind fun (ws, st2) => some (w :: ws, st2)
def rowW : W → Option (List W)
  | .tup l => some l
  | .lst l => some l
  | .rl l => some l
  | _ => none
/-- a display's items, with stars -/
def evListS (f : Expr → Rho → Sto → Option (W × Sto)) : List Expr → Rho → Sto → Option (List W × Sto)
  | [], _, st => some ([], st)
  | .Starred e _ :: es, ρ, st => (f e ρ st).bind fun (w, st1) => (rowW w).bind fun l => (evListS f es ρ st1).bind fun (ws, st2) => some (l ++ ws, st2)
  | e :: es, ρ, st => (f e ρ st).bind fun (w, st1) => (evListS f es ρ st1).bind fun (ws, st2) => some (w :: ws, st2)
def okName (x : Str) : Bool := !(x == ("__debug__" : Str)) && !(x == ("__classdict__" : Str)) && !(x == ("__name__" : Str))
def nameW (g : Gam) (N : List Str) (sc : Scope) (x : Str) (ρ : Rho) : Option W :=
  if okName x = true then
    if visB sc x = true then (slot x N).bind fun i => (ρ[i]?).bind fun w => w
    else if glB sc x = true then
      match g.cs.lookup x with
      | some w => some w
      | none => if x ∈ g.tys then some (.ty x.toString) else if (g.fns.lookup x).isSome = true then some (.fn x) else none
    else none
  else none
def allOf (f : Expr → Rho → Sto → Option (Bool × Sto)) : List Expr → Rho → Sto → Option (Bool × Sto)
  | [], _, _ => none
  | [e], ρ, st => f e ρ st
  | e :: es, ρ, st => (f e ρ st).bind fun (b, st1) => if b = true then allOf f es ρ st1 else some (false, st1)
def anyOf (f : Expr → Rho → Sto → Option (Bool × Sto)) : List Expr → Rho → Sto → Option (Bool × Sto)
  | [], _, _ => none
  | [e], ρ, st => f e ρ st
  | e :: es, ρ, st => (f e ρ st).bind fun (b, st1) => if b = true then some (true, st1) else anyOf f es ρ st1
def allB : Str → Bool := fun _ => true
def celB (scope : Scope) (x : Str) : Bool := scope.names.lookup x == some .cell
/-- a tuple's or list's items into names -/

def asB (lo : Str → Bool) (sc : Scope) (x : Str) : Bool := match sc.names.lookup x with
  | some .local => true | some .cell => lo x | _ => false
def asgAll (N : List Str) (lo : Str → Bool) (sc : Scope) : List Expr → List W → Rho → Option Rho
  | [], [], ρ => some ρ
  | .Name x _ :: es, w :: ws, ρ => if asB lo sc x = true then (slot x N).bind fun i => asgAll N lo sc es ws (ρ.set i (some w)) else none
  | _, _, _ => none
/-- the same in two steps: the places, then the storing -/
def tgS (N : List Str) (lo : Str → Bool) (sc : Scope) : List Expr → Option (List Nat)
  | [] => some []
  | .Name x _ :: es => if asB lo sc x = true then (slot x N).bind fun i => (tgS N lo sc es).map fun l => i :: l else none
  | _ => none
def asgL : List Nat → List W → Rho → Option Rho
  | [], [], ρ => some ρ
  | i :: is, w :: ws, ρ => asgL is ws (ρ.set i (some w))
  | _, _, _ => none
def asgW (N : List Str) (lo : Str → Bool) (sc : Scope) (tg : Expr) (w : W) (ρ : Rho) : Option Rho :=
  match tg, w with
  | .Name x _, w => if asB lo sc x = true then (slot x N).map fun i => ρ.set i (some w) else none
  | .Tuple es _ _, w => (tgS N lo sc es).bind fun is => match w with
    | .tup l => asgL is l ρ
    | .lst l => asgL is l ρ
    | _ => none
  | _, _ => none
def wipeR (ρ : Rho) : List Nat → Rho
  | [] => ρ
  | v :: vs => (wipeR ρ vs).set v none
/-- a comprehension's loop -/
def compW (asg : W → Rho → Option Rho) (tst : Rho → Sto → Option (Bool × Sto)) (elt : Rho → Sto → Option (W × Sto)) (ρ : Rho) : List W → Sto → Option (List W × Sto)
  | [], st => some ([], st)
  | w :: ws, st => (asg w ρ).bind fun ρ1 => (tst ρ1 st).bind fun (b, st1) =>
      if b = true then (elt ρ1 st1).bind fun (v, st2) => (compW asg tst elt ρ ws st2).bind fun (vs, st3) => some (v :: vs, st3)
      else compW asg tst elt ρ ws st1
/-- a comprehension's outer loop, where a turn makes several items -/
def compF (asg : W → Rho → Option Rho) (tst : Rho → Sto → Option (Bool × Sto)) (elts : Rho → Sto → Option (List W × Sto)) (ρ : Rho) : List W → Sto → Option (List W × Sto)
  | [], st => some ([], st)
  | w :: ws, st => (asg w ρ).bind fun ρ1 => (tst ρ1 st).bind fun (b, st1) =>
      if b = true then (elts ρ1 st1).bind fun (vs, st2) => (compF asg tst elts ρ ws st2).bind fun (us, st3) => some (vs ++ us, st3)
      else compF asg tst elts ρ ws st1
/-- the names of a comprehension's block, with their places -/
def ownOf (N : List Str) : List (Str × NameKind) → List (Str × Nat)
  | [] => []
  | (n, k) :: r => match k, slot n N with
    | .local, some i => (n, i) :: ownOf N r
    | .cell, some i => (n, i) :: ownOf N r
    | _, _ => ownOf N r
/-- the places of a target's names -/
def slotsOf (N : List Str) : Expr → List Nat
  | .Name x _ => (slot x N).toList
  | .Tuple es _ _ => es.filterMap fun e => match e with
    | .Name x _ => slot x N
    | _ => none
  | _ => []
/-- the items with their places -/
def numW (i : Nat) : List W → List W
  | [] => []
  | w :: ws => .tup [.int (i : Nat), w] :: numW (i + 1) ws
/-- what a for or a comprehension walks -/
def iterW (f : Expr → Rho → Sto → Option (W × Sto)) (fs : List Expr → Rho → Sto → Option (List W × Sto)) (g : Gam) (sc : Scope) (tg : Bool) (e : Expr) (ρ : Rho) (st : Sto) : Option (List W × Sto) :=
  match e with
  | .Call (.Name x p) [a] [] pos =>
    if x = "enumerate" ∧ glB sc x = true ∧ x ∈ g.bs then
      if tg = true then (fs [a] ρ st).bind fun (ws, st1) => match ws with
        | [w] => (rowW w).map fun l => (numW 0 l, st1)
        | _ => none
      else none else
    if x = "range" ∧ glB sc x = true ∧ x ∈ g.bs then
      (fs [a] ρ st).bind fun (ws, st1) => match ws with
        | [.int j] => if -(2 ^ 62) ≤ j ∧ j < 2 ^ 62 then some ((List.range j.toNat).map fun i => .int ((i : Nat) : Int), st1) else none
        | _ => none
    else (f e ρ st).bind fun (w, st1) => match w with
      | .tup l => some (l, st1)
      | .lst l => some (l, st1)
      | .rl l => some (l, st1)
      | _ => none
  | e => if isSetE e = true then none else (f e ρ st).bind fun (w, st1) => match w with
      | .tup l => some (l, st1)
      | .lst l => some (l, st1)
      | .rl l => some (l, st1)
      | .str s => some (signs s, st1)
      | _ => none

def evPairs (f : Expr → Rho → Sto → Option (W × Sto)) : List (Option Expr) → List Expr → Rho → Sto → Option (List (W × W) × Sto)
  | [], [], _, st => some ([], st)
  | some k :: ks, v :: vs, ρ, st => (f k ρ st).bind fun (x, st1) => (f v ρ st1).bind fun (y, st2) => (evPairs f ks vs ρ st2).bind fun (ps, st3) => some ((x, y) :: ps, st3)
  | _, _, _, _ => none
def dispK : List (W × W) → List Key → List W → Option W
  | [], ks, vs => some (.dk ks vs)
  | (k, w) :: r, ks, vs => (keyOf k).bind fun k => dispK r (putK1 ks k) (putK2 ks vs k w)
def tupOf : W → Option (List W)
  | .tup l => some l
  | _ => none
def dispT : List (W × W) → List (List Key) → List W → Option W
  | [], ks, vs => some (.dt ks vs)
  | (k, w) :: r, ks, vs => (tupOf k).bind fun l => (keysOf l).bind fun k => dispT r (putK1 ks k) (putK2 ks vs k w)
def dispW (ps : List (W × W)) : Option W := match dispK ps [] [] with
  | some w => some w
  | none => dispT ps [] []

/-- calls whose argument is no value of ours: dict(zip(a, b)), list(d.values()) -/
inductive Spec where
  | zip (a b : Expr) | vals (e : Expr) | sset (e : Expr) | zipl (a b : Expr) | lam (ps : Arguments) (body : Expr) (scope : Scope)
def baseOk : Expr → Bool
  | .Call (.Name id _) es ks _ => !es.isEmpty || !ks.isEmpty || !(id == ("super" : Str))
  | _ => true
def zipIn : Expr → Option Spec
  | .Call (.Name g _) es ks _ => match es, ks with
    | [a, b], [] => if g = "zip" then some (.zipl a b) else none
    | _, _ => none
  | _ => none
def specIn (f : Str) : Expr → Option Spec
  | .Call (.Name g _) es ks _ => match es, ks with
    | [a, b], [] => if f = "dict" ∧ g = "zip" then some (.zip a b) else none
    | [a], [] => if f = "sorted" ∧ g = "set" then some (.sset a) else if f = "dict" ∧ g = "list" then zipIn a else none
    | _, _ => none
  | .Call (.Attribute e m ap) es ks cp => match es, ks with
    | [], [] => if f = "list" ∧ m = "values" ∧ (ap.endLine == cp.line) = true ∧ baseOk e = true then some (.vals e) else none
    | _, _ => none
  | .Lambda ps body scope _ => if lamP ps = true then some (.lam ps body scope) else none
  | _ => none
def specOf (f : Str) : List Expr → Option Spec
  | [e] => specIn f e
  | _ => none

structure Rec where
  ev : Scope → Expr → Rho → Sto → Option (W × Sto)
  ts : Scope → Expr → Rho → Sto → Option (Bool × Sto)
  evL : Scope → Expr → Rho → Sto → Option (W × Sto)
  rzL : Scope → Expr → Rho → Sto → Option (Exn × Sto)

/-- the def of a statement -/
structure Cfg where
  g : Gam
  N : List Str
  call : Str → List W → Sto → Option (W × Sto)
  callR : Str → List W → Sto → Option (Exn × Sto)
  callF : Str → List W → Sto → Option (Exn × Sto)
  lam : Bool

/-- what an except suite answers: texts, told by the error's class -/
def exE (g : Gam) (sc : Scope) (l : List Str) (e : Str) : Expr → Option Str
  | .Constant (.str s) _ _ => some s
  | .IfExp (.Call (.Name f _) [.Name y _, .Name x _] [] _) a b _ => if f = "isinstance" ∧ glB sc f = true ∧ f ∈ g.bs ∧ y = e ∧ glB sc x = true ∧ okName x = true ∧ (g.cls.lookup x).isSome = true then
      (if l.contains x = true then exE g sc l e a else exE g sc l e b) else none
  | _ => none
/-- a def that calls what it gets, and tells what error came -/
def wordOf (g : Gam) (d : Fn) : Option (Str × Str × Expr × Str) := match defBody d.st with
  | [.Try [.Expr (.Call (.Name w _) [] [] _) _] [.ExceptHandler (some (.Name x0 _)) (some e) [.Return (some ret) _] _] [] [] _, .Return (some (.Constant (.str s0) _ _)) _] =>
    if d.ps = [w] ∧ d.N = [w, e] ∧ okName w = true ∧ okName e = true ∧ okName x0 = true ∧ visB (defScope d.st) w = true ∧ locB (defScope d.st) e = true ∧ glB (defScope d.st) x0 = true ∧ (g.cls.lookup x0).isSome = true then some (x0, e, ret, s0) else none
  | _ => none
def handW (g : Gam) (sc : Scope) (x0 e : Str) (ret : Expr) : Exn → Option W
  | .own cn none => (g.cls.lookup cn).bind fun l => if l.contains x0 = true then (exE g sc l e ret).map .str else none
  | _ => none
def partW (f : Expr → Rho → Sto → Option (W × Sto)) : Option Expr → Rho → Sto → Option (Option Int × Sto)
  | none, _, st => some (none, st)
  | some e, ρ, st => (f e ρ st).bind fun (w, st1) => match w with
    | .int i => some (some i, st1)
    | _ => none

/-- the parts of an f-string, one behind another -/
def evJ (f : Expr → Rho → Sto → Option (W × Sto)) : Str → List Expr → Rho → Sto → Option (Str × Sto)
  | acc, [], _, st => some (acc, st)
  | acc, e :: es, ρ, st => (f e ρ st).bind fun (w, st1) => match w with
    | .str y => if (acc ++ y).length ≤ sizeLine then evJ f (acc ++ y) es ρ st1 else none
    | _ => none
def isLC1 : Expr → Bool
  | .ListComp _ [⟨_, _, _, 0⟩] _ _ => true | _ => false
/-- a def that ends with a new tuple of a comprehension, and returns nowhere else -/
def plainS : Stmt → Bool
  | .Assign .. => true | .Expr .. => true | _ => false
def tupEnd : List Stmt → Bool
  | [.Return (some (.Call (.Name f _) [a] [] _)) _] => f == ("tuple" : Str) && isLC1 a
  | s :: ss => plainS s && tupEnd ss
  | [] => false
def tupOk (g : Gam) (d : Fn) : Bool := tupEnd (defBody d.st) && glB (defScope d.st) "tuple" && decide (("tuple" : Str) ∈ g.bs) && (g.fns.lookup ("tuple" : Str)).isNone
def tupD (g : Gam) (sc : Scope) (m : Str) : Expr → Option (Str × Fn × List Expr)
  | .Call (.Name f _) (e0 :: es) [] _ => if m = "count" ∧ glB sc f = true ∧ okName f = true ∧ specOf f (e0 :: es) = none then
      (g.fns.lookup f).bind fun d => if tupOk g d = true then some (f, d, e0 :: es) else none else none
  | _ => none
def methT : W → List W → Option W
  | .tup l, [.str x] => (strsW l).map fun ys => .int ((ys.count x : Nat) : Int)
  | _, _ => none
def evE (c : Cfg) (r : Rec) (sc : Scope) : Expr → Rho → Sto → Option (W × Sto)
  | .Name x _, ρ, st => (nameW c.g c.N sc x ρ).map fun w => (w, st)
  | .Constant k _ _, _, st => match k with
    | .none => some (.non, st)
    | .bool b => some (.bl b, st)
    | .int i => some (.int i, st)
    | .str s => some (.str s, st)
    | _ => none
  | .BinOp a op b _, ρ, st => (r.ev sc a ρ st).bind fun (x, st1) => (r.ev sc b ρ st1).bind fun (y, st2) => (binB a b st2 op x y).map fun w => (w, st2)
  | .Compare a [op] [b] _, ρ, st => if behindInMarks op b = false then
      (r.ev sc a ρ st).bind fun (x, st1) => (r.ev sc b ρ st1).bind fun (y, st2) => (cmpB a b st2 op x y).map fun k => (.bl k, st2) else none
  | .UnaryOp .Not a _, ρ, st => (r.ev sc a ρ st).bind fun (x, st1) => match x with
    | .bl k => some (.bl (!k), st1)
    | _ => none
  | .UnaryOp .USub a _, ρ, st => (r.ev sc a ρ st).bind fun (x, st1) => match x with
    | .int i => some (.int (-i), st1)
    | _ => none
  | .BoolOp op [a] p, ρ, st => r.ev sc a ρ st
  | .BoolOp .And (a :: b :: es) p, ρ, st => (r.ev sc a ρ st).bind fun (x, st1) => match x with
    | .bl k => if k = true then r.ev sc (.BoolOp .And (b :: es) p) ρ st1 else some (.bl false, st1)
    | _ => none
  | .BoolOp .Or (a :: b :: es) p, ρ, st => (r.ev sc a ρ st).bind fun (x, st1) => match x with
    | .bl k => if k = true then some (.bl true, st1) else r.ev sc (.BoolOp .Or (b :: es) p) ρ st1
    | _ => none
  | .IfExp t a b _, ρ, st => (r.ts sc t ρ st).bind fun (k, st1) => if k = true then r.ev sc a ρ st1 else r.ev sc b ρ st1
  | .Tuple es _ _, ρ, st => (evListS (r.ev sc) es ρ st).bind fun (ws, st1) => if ws.length ≤ sizeLine then some (.tup ws, st1) else none
  | .List es _, ρ, st => (evList (r.ev sc) es ρ st).bind fun (ws, st1) => if ws.length ≤ sizeLine then some (.lst ws, st1) else none
  | .Subscript a (.Slice lo hi none _) _, ρ, st => (r.ev sc a ρ st).bind fun (x, st1) => (partW (r.ev sc) lo ρ st1).bind fun (l, st2) => (partW (r.ev sc) hi ρ st2).bind fun (h, st3) => (slW x l h).map fun w => (w, st3)
  | .Subscript a b _, ρ, st => if isSlice b = true then none else (r.ev sc a ρ st).bind fun (x, st1) => (r.ev sc b ρ st1).bind fun (y, st2) => (ixW st2 x y).map fun w => (w, st2)
  | .Call (.Name f p) es [] pos, ρ, st =>
    match specOf f es with
    | some (.zip a b) => if glB sc f = true ∧ f ∈ c.g.bs ∧ glB sc "zip" = true ∧ ("zip" : Str) ∈ c.g.bs then
        (evList (r.ev sc) [a, b] ρ st).bind fun (ws, st1) => match ws with
          | [.tup l, .tup m] => (dispW (l.zip m)).map fun w => (w, st1)
          | _ => none
        else none
    | some (.vals e) => if glB sc f = true ∧ f ∈ c.g.bs then
        (r.ev sc e ρ st).bind fun (w, st1) => match w with
          | .dk _ vs => some (.lst vs, st1)
          | _ => none
        else none
    | some (.zipl a b) => if glB sc f = true ∧ f ∈ c.g.bs ∧ glB sc "list" = true ∧ ("list" : Str) ∈ c.g.bs ∧ glB sc "zip" = true ∧ ("zip" : Str) ∈ c.g.bs then
        (evList (r.ev sc) [a, b] ρ st).bind fun (ws, st1) => match ws with
          | [.lst l, .str t] => if l.length = t.cps.size then (dispK (l.zip (signs t)) [] []).map fun w => (w, st1) else none
          | _ => none
        else none
    | some (.lam ps body scope) => if c.lam = true ∧ glB sc f = true ∧ okName f = true ∧ lamQB c.N sc scope (lamN ps) = true then
        (c.g.fns.lookup f).bind fun d => (wordOf c.g d).bind fun (x0, e, ret, s0) => match r.rzL scope body ρ st with
          | some (x, st1) => (handW c.g (defScope d.st) x0 e ret x).map fun w => (w, st1)
          | none => (r.evL scope body ρ st).map fun (_, st1) => (.str s0, st1)
        else none
    | some (.sset e) => if glB sc f = true ∧ f ∈ c.g.bs ∧ glB sc "set" = true ∧ ("set" : Str) ∈ c.g.bs ∧ isStar e = false then
        (r.ev sc e ρ st).bind fun (w, st1) => (match w with
          | .lst l => strsW l
          | .tup l => strsW l
          | _ => none).bind fun ks => if ks.length < 64 then some (.lst ((sortS (uniqS ks)).map .str), st1) else none
        else none
    | none =>
    if glB sc f = true ∧ okName f = true then
      match c.g.fns.lookup f with
      | some d => (evList (r.ev sc) es ρ st).bind fun (ws, st1) => if ws.length = d.ps.length then c.call f ws st1 else none
      | none => if f ∈ c.g.bs then (match es with
        | [] => none
        | e :: es => (evList (r.ev sc) (e :: es) ρ st).bind fun (ws, st1) => (callB st1 f ws).map fun w => (w, st1)) else none
    else if visB sc f = true ∧ okName f = true ∧ es.isEmpty = false ∧ f ≠ ("list" : Str) then
      (nameW c.g c.N sc f ρ).bind fun h => match h with
      | .fn h => (c.g.fns.lookup h).bind fun d => (evList (r.ev sc) es ρ st).bind fun (ws, st1) => if ws.length = d.ps.length then c.call h ws st1 else none
      | _ => none
    else none
  | .Call (.Name f p) [a] [⟨some kn, .Constant .none _ _, _⟩] pos, ρ, st => if f = "min" ∧ kn = "default" ∧ glB sc f = true ∧ f ∈ c.g.bs ∧ isStar a = false then
      (r.ev sc a ρ st).bind fun (w, st1) => (minDW w).map fun v => (v, st1) else none
  | .FormattedValue e cv none _, ρ, st => if cv = -1 then (r.ev sc e ρ st).bind fun (w, st1) => match w with
      | .str y => if y.length ≤ sizeLine then some (.str y, st1) else none
      | _ => none
    else if cv = 114 then (r.ev sc e ρ st).bind fun (w, st1) => match w with
      | .str y => if (reprText y).length ≤ sizeLine then some (.str (reprText y), st1) else none
      | _ => none
    else none
  | .JoinedStr (v1 :: v2 :: vs) _, ρ, st => (evJ (r.ev sc) Str.empty (v1 :: v2 :: vs) ρ st).map fun (s, st1) => (.str s, st1)
  | .Call (.Attribute e m ap) [] [] cp, ρ, st => if baseOk e = true ∧ (ap.endLine == cp.line) = true then (r.ev sc e ρ st).bind fun (w, st1) => (methB0 w m).map fun v => (v, st1) else none
  | .Call (.Attribute e m ap) es [] cp, ρ, st => if baseOk e = true ∧ (ap.endLine == cp.line) = true ∧ es.isEmpty = false ∧ es.length < 20 then
      (match tupD c.g sc m e with
        | some (f, d, as) => (evList (r.ev sc) as ρ st).bind fun (ws, st1) => if ws.length = d.ps.length then (c.call f ws st1).bind fun (w, st2) => (evList (r.ev sc) es ρ st2).bind fun (vs, st3) => (methT w vs).map fun v => (v, st3) else none
        | none => (r.ev sc e ρ st).bind fun (w, st1) => (evList (r.ev sc) es ρ st1).bind fun (ws, st2) => (methB w m ws).map fun v => (v, st2))
    else none
  | .ListComp elt [⟨tg, iter, ifs, 0⟩] scope _, ρ, st =>
    let own := ownOf c.N scope.names
    let sc' := relS scope sc
    if blkC c.N sc scope own = true ∧ isSetE iter = false then
      (iterW (r.ev sc) (evList (r.ev sc)) c.g sc (isTupE tg) iter ρ st).bind fun (l, st1) =>
        (compW (asgW c.N (celB scope) sc' tg) (match ifs with
          | [] => fun _ st => some (true, st)
          | [t] => r.ts sc' t
          | _ => fun _ _ => none) (r.ev sc' elt) (wipeR ρ (own.map (·.2))) l st1).bind fun (vs, st2) =>
            if vs.length ≤ sizeLine ∧ l.length < sizeLine then some (.lst vs, st2) else none
    else none
  | .ListComp elt [⟨tg, iter, ifs, 0⟩, ⟨tg1, iter1, ifs1, 0⟩] scope _, ρ, st =>
    let own := ownOf c.N scope.names
    let sc' := relS scope sc
    if blkC c.N sc scope own = true ∧ isSetE iter = false ∧ isSetE iter1 = false ∧ ((slotsOf c.N tg1).all fun i => (own.map (·.2)).contains i) = true then
      (iterW (r.ev sc) (evList (r.ev sc)) c.g sc (isTupE tg) iter ρ st).bind fun (l, st1) =>
        (compF (asgW c.N (celB scope) sc' tg) (match ifs with
          | [] => fun _ st => some (true, st)
          | [t] => r.ts sc' t
          | _ => fun _ _ => none) (fun ρ1 st1 => (iterW (r.ev sc') (evList (r.ev sc')) c.g sc' (isTupE tg1) iter1 ρ1 st1).bind fun (l1, st2) =>
            compW (asgW c.N (celB scope) sc' tg1) (match ifs1 with
              | [] => fun _ st => some (true, st)
              | [t] => r.ts sc' t
              | _ => fun _ _ => none) (r.ev sc' elt) (wipeR ρ1 (slotsOf c.N tg1)) l1 st2) (wipeR ρ (own.map (·.2))) l st1).bind fun (vs, st2) =>
            if vs.length ≤ sizeLine then some (.lst vs, st2) else none
    else none
  | .Dict keys values _, ρ, st => if keys.all (·.isSome) = true ∧ keys.length = values.length ∧ keys.length ≤ 15 then
      (match keys with
        | [] => some (.dk [] [], st)
        | _ => (evPairs (r.ev sc) keys values ρ st).bind fun (ps, st1) => (dispW ps).map fun w => (w, st1))
    else none
  | _, _, _ => none

/-- a test -/
def tsE (c : Cfg) (r : Rec) (sc : Scope) : Expr → Rho → Sto → Option (Bool × Sto)
  | .UnaryOp .Not a _, ρ, st => (r.ts sc a ρ st).map fun (k, st1) => (!k, st1)
  | .BoolOp _ [a] _, ρ, st => r.ts sc a ρ st
  | .BoolOp .And (a :: b :: es) p, ρ, st => (r.ts sc a ρ st).bind fun (k, st1) => if k = true then r.ts sc (.BoolOp .And (b :: es) p) ρ st1 else some (false, st1)
  | .BoolOp .Or (a :: b :: es) p, ρ, st => (r.ts sc a ρ st).bind fun (k, st1) => if k = true then some (true, st1) else r.ts sc (.BoolOp .Or (b :: es) p) ρ st1
  | .BoolOp _ [] _, _, _ => none
  | .IfExp .., _, _ => none
  | .Compare a [op] [b] _, ρ, st => if behindInMarks op b = false then
      (r.ev sc a ρ st).bind fun (x, st1) => (r.ev sc b ρ st1).bind fun (y, st2) => (cmpB a b st2 op x y).map fun k => (k, st2) else none
  | .Compare .., _, _ => none
  | .UnaryOp .., _, _ => none
  | e, ρ, st => (r.ev sc e ρ st).bind fun (x, st1) => (truthW st1 x).map fun k => (k, st1)

/-- without lambdas -/
def recN0 (c : Cfg) : Nat → Rec
  | 0 => ⟨fun _ _ _ _ => none, fun _ _ _ _ => none, fun _ _ _ _ => none, fun _ _ _ _ => none⟩
  | n + 1 => ⟨evE c (recN0 c n), tsE c (recN0 c n), fun _ _ _ _ => none, fun _ _ _ _ => none⟩

/-! what raises -/
structure RecZ where
  rz : Scope → Expr → Rho → Sto → Option (Exn × Sto)
/-- the first of some expressions that raises -/
def rzList (f : Expr → Rho → Sto → Option (W × Sto)) (z : Expr → Rho → Sto → Option (Exn × Sto)) : List Expr → Rho → Sto → Option (Exn × Sto)
  | [], _, _ => none
  | e :: es, ρ, st => if isStar e = true then none else match z e ρ st with
    | some x => some x
    | none => (f e ρ st).bind fun (_, st1) => rzList f z es ρ st1
/-- a key that isn't there -/
def missW (a i : W) : Option Exn :=
  match a, i with
  | .dk ks _, i => (keyOf i).bind fun k => if (ks.any fun j => decide (j = k)) = true then none else some .key
  | .dt ks _, .tup l => (keysOf l).bind fun k => if (ks.any fun j => decide (j = k)) = true then none else some .key
  | _, _ => none
def rzE (c : Cfg) (r : Rec) (q : RecZ) (sc : Scope) : Expr → Rho → Sto → Option (Exn × Sto)
  | .Tuple es _ _, ρ, st => rzList (r.ev sc) (q.rz sc) es ρ st
  | .Compare a [op] [b] _, ρ, st => if behindInMarks op b = false then rzList (r.ev sc) (q.rz sc) [a, b] ρ st else none
  | .BoolOp op [a] _, ρ, st => q.rz sc a ρ st
  | .BoolOp .And (a :: b :: es) p, ρ, st => match q.rz sc a ρ st with
    | some x => some x
    | none => (r.ev sc a ρ st).bind fun (x, st1) => match x with
      | .bl k => if k = true then q.rz sc (.BoolOp .And (b :: es) p) ρ st1 else none
      | _ => none
  | .BoolOp .Or (a :: b :: es) p, ρ, st => match q.rz sc a ρ st with
    | some x => some x
    | none => (r.ev sc a ρ st).bind fun (x, st1) => match x with
      | .bl k => if k = true then none else q.rz sc (.BoolOp .Or (b :: es) p) ρ st1
      | _ => none
  | .Subscript a b _, ρ, st => if isSlice b = true then none else match rzList (r.ev sc) (q.rz sc) [a, b] ρ st with
    | some x => some x
    | none => (r.ev sc a ρ st).bind fun (x, st1) => (r.ev sc b ρ st1).bind fun (y, st2) => (missW x y).map fun e => (e, st2)
  | .Call (.Name f p) es [] _, ρ, st =>
    if glB sc f = true ∧ okName f = true ∧ es.isEmpty = false ∧ (es.all fun e => !isStar e) = true then
      (c.g.fns.lookup f).bind fun d => match rzList (r.ev sc) (q.rz sc) es ρ st with
        | some x => some x
        | none => (evList (r.ev sc) es ρ st).bind fun (ws, st1) => if ws.length = d.ps.length then c.callR f ws st1 else none
    else if glB sc f = false ∧ visB sc f = true ∧ okName f = true ∧ es.isEmpty = false ∧ (es.all fun e => !isStar e) = true then
      (nameW c.g c.N sc f ρ).bind fun h => match h with
      | .fn h => (c.g.fns.lookup h).bind fun d => match rzList (r.ev sc) (q.rz sc) es ρ st with
        | some x => some x
        | none => (evList (r.ev sc) es ρ st).bind fun (ws, st1) => if ws.length = d.ps.length then c.callR h ws st1 else none
      | _ => none
    else none
  | _, _, _ => none
def recZ0 (c : Cfg) : Nat → RecZ
  | 0 => ⟨fun _ _ _ _ => none⟩
  | n + 1 => ⟨rzE c (recN0 c n) (recZ0 c n)⟩
abbrev Cfg.bare (c : Cfg) : Cfg := ⟨c.g, c.N, c.call, c.callR, c.callF, false⟩
/-- a call of a def that may raise in an except suite -/
def rzF1 (c : Cfg) (r : Rec) (sc : Scope) : Expr → Rho → Sto → Option (Exn × Sto)
  | .Call (.Name f p) es [] _, ρ, st => if glB sc f = true ∧ okName f = true ∧ es.isEmpty = false ∧ (es.all fun e => !isStar e) = true then
      (c.g.fns.lookup f).bind fun d => (evList (r.ev sc) es ρ st).bind fun (ws, st1) => if ws.length = d.ps.length then c.callF f ws st1 else none else none
  | _, _, _ => none
def recN (c : Cfg) : Nat → Rec
  | 0 => ⟨fun _ _ _ _ => none, fun _ _ _ _ => none, fun _ _ _ _ => none, fun _ _ _ _ => none⟩
  | n + 1 => ⟨evE c (recN c n), tsE c (recN c n), (recN0 c.bare n).ev, rzF1 c.bare (recN0 c.bare n)⟩
def recZ (c : Cfg) : Nat → RecZ
  | 0 => ⟨fun _ _ _ _ => none⟩
  | n + 1 => ⟨rzE c (recN c n) (recZ c n)⟩

/-! statements -/
def isLC2 : Expr → Bool
  | .ListComp _ [⟨_, _, _, 0⟩, ⟨_, _, _, 0⟩] _ _ => true | _ => false
/-- forms whose value is a new list -/
def isFresh : Expr → Bool
  | .List .. => true
  | .Dict .. => true
  | .ListComp _ [⟨_, _, _, 0⟩] _ _ => true
  | .Call (.Name x _) (e :: es) [] _ => x == ("list" : Str) && (specOf x (e :: es)).isNone
  | _ => false
def seqS (f : Stmt → Rho → Sto → Option Out) : List Stmt → Rho → Sto → Option Out
  | [], ρ, st => some (.nx ρ st)
  | s :: ss, ρ, st => (f s ρ st).bind fun o => match o with
    | .nx ρ1 st1 => seqS f ss ρ1 st1
    | o => some o
def forW (asg : W → Rho → Option Rho) (body : Rho → Sto → Option Out) : List W → Rho → Sto → Option Out
  | [], ρ, st => some (.nx ρ st)
  | w :: ws, ρ, st => (asg w ρ).bind fun ρ1 => (body ρ1 st).bind fun o => match o with
    | .nx ρ2 st2 => forW asg body ws ρ2 st2
    | .ct ρ2 st2 => forW asg body ws ρ2 st2
    | .bk ρ2 st2 => some (.nx ρ2 st2)
    | .rt w st2 => some (.rt w st2)
/-- a thing's item stored -/
def setW (st : Sto) (a i w : W) : Option Sto :=
  match a with
  | .obj n => match st[n]?, i with
    | some (.lst l), .int k => (ixN l.length k).map fun j => st.set n (.lst (l.set j w))
    | some (.dk ks vs), i => (keyOf i).bind fun k => if ks.length < sizeLine then some (st.set n (.dk (putK1 ks k) (putK2 ks vs k w))) else none
    | some (.dt ks vs), .tup l => (keysOf l).bind fun k => if ks.length < sizeLine then some (st.set n (.dt (putK1 ks k) (putK2 ks vs k w))) else none
    | _, _ => none
  | _ => none
def parOk (sc : Scope) (x y : Str) (px py : Pos) (a b : Expr) : Bool :=
  locB sc x && locB sc y && !(x == y) && (px.line == py.line) && !isStar a && !isStar b && !(foldedForSure 8 a && foldedForSure 8 b) && !(constantsAlone 8 a && constantsAlone 8 b)

/-- are the stores of this display swapped? -/
def swapsE (sc : Scope) (es : List Expr) : Expr → Bool
  | .Tuple vs _ _ => !(!(es.length == 2 || es.length == 3) || vs.length != es.length || ((es.filterMap fun
    | .Name id pos => if sc.names.lookup id == some .local && pos.line == (es.head?.map (·.pos.line)).getD 0 then some id else none
    | _ => none).length != es.length))
  | _ => false

/-- x.append(a) -/
def appOf : Expr → Option (Str × Pos × Expr)
  | .Call (.Attribute (.Name x p) m ap) [a] [] cp => if m = "append" ∧ (ap.endLine == cp.line) = true ∧ isStar a = false then some (x, p, a) else none
  | _ => none
/-- an item put at a list's end -/
def pushW (st : Sto) (a w : W) : Option Sto :=
  match a with
  | .obj n => match st[n]? with
    | some (.lst l) => if l.length < sizeLine then some (st.set n (.lst (l ++ [w]))) else none
    | _ => none
  | _ => none
def lstB (st : Sto) : W → Bool
  | .obj n => match st[n]? with
    | some (.lst _) => true
    | _ => false
  | _ => false
/-- names alone -/
def namesW (g : Gam) (N : List Str) (sc : Scope) (ρ : Rho) : List Expr → Option (List W)
  | [] => some []
  | .Name x _ :: es => if visB sc x = true then (nameW g N sc x ρ).bind fun w => (namesW g N sc ρ es).bind fun ws => some (w :: ws) else none
  | _ => none
/-- an except suite: x.append((y, z)) -/
def suiS (c : Cfg) (sc : Scope) : List Stmt → Rho → Sto → Option Out
  | [.Expr e _], ρ, st => (appOf e).bind fun (x, _, a) => match a with
    | .Tuple es _ _ => if visB sc x = true then (nameW c.g c.N sc x ρ).bind fun o => if lstB st o = true then (namesW c.g c.N sc ρ es).bind fun ws => if ws.length ≤ sizeLine then (pushW st o (.tup ws)).map fun st1 => .nx ρ st1 else none else none else none
    | _ => none
  | _, _, _ => none
/-- what a statement lets out -/
def rzS (c : Cfg) (sc : Scope) (z : RecZ) : Stmt → Rho → Sto → Option (Exn × Rho × Sto)
  | .Return (some e) _, ρ, st => (z.rz sc e ρ st).map fun (x, st1) => (x, ρ, st1)
  | .Assign [.Name y _] e _, ρ, st => if isComp e = true then none else if asB allB sc y = true ∧ (slot y c.N).isSome = true then (z.rz sc e ρ st).map fun (x, st1) => (x, ρ, st1) else none
  | .Expr e _, ρ, st => if isComp e = true then none else match e with
    | .Constant .. => none
    | e => (z.rz sc e ρ st).map fun (x, st1) => (x, ρ, st1)
  | _, _, _ => none
def rzQ (f : Stmt → Rho → Sto → Option Out) (z : Stmt → Rho → Sto → Option (Exn × Rho × Sto)) : List Stmt → Rho → Sto → Option (Exn × Rho × Sto)
  | [], _, _ => none
  | s :: ss, ρ, st => match z s ρ st with
    | some x => some x
    | none => (f s ρ st).bind fun o => match o with
      | .nx ρ1 st1 => rzQ f z ss ρ1 st1
      | _ => none

/-- raise x(e) -/
def raiseW (c : Cfg) (sc : Scope) (r : Rec) : Expr → Rho → Sto → Option (Exn × Sto)
  | .Call (.Name x _) [a] [] _, ρ, st => if glB sc x = true ∧ okName x = true ∧ isStar a = false ∧ (c.g.cls.lookup x).isSome = true then
      (r.ev sc a ρ st).bind fun (w, st1) => if x ∈ c.g.ini then some (.own x (some w), st1) else some (.own x none, st1) else none
  | _, _, _ => none
def forZ (asg : W → Rho → Option Rho) (body : Rho → Sto → Option Out) (zb : Rho → Sto → Option (Exn × Rho × Sto)) : List W → Rho → Sto → Option (Exn × Rho × Sto)
  | [], _, _ => none
  | w :: ws, ρ, st => (asg w ρ).bind fun ρ1 => match zb ρ1 st with
    | some x => some x
    | none => (body ρ1 st).bind fun o => match o with
      | .nx ρ2 st2 => forZ asg body zb ws ρ2 st2
      | .ct ρ2 st2 => forZ asg body zb ws ρ2 st2
      | _ => none
def rzT (c : Cfg) (sc : Scope) (r : Rec) (z : RecZ) (rb : Stmt → Rho → Sto → Option Out) (zb : Stmt → Rho → Sto → Option (Exn × Rho × Sto)) : Stmt → Rho → Sto → Option (Exn × Rho × Sto)
  | .Raise (some e) none _, ρ, st => (raiseW c sc r e ρ st).map fun (x, st1) => (x, ρ, st1)
  | .If t a b _, ρ, st => (r.ts sc t ρ st).bind fun (k, st1) => if k = true then rzQ rb zb a ρ st1 else rzQ rb zb b ρ st1
  | .For tg it body [] _, ρ, st => if isSetE it = true then none else (iterW (r.ev sc) (evList (r.ev sc)) c.g sc (isTupE tg) it ρ st).bind fun (l, st1) => forZ (asgW c.N allB sc tg) (seqS rb body) (rzQ rb zb body) l ρ st1
  | .Assign [.Tuple es kt pt] e _, ρ, st => if isTupE e = true ∨ isComp e = true then none else (z.rz sc e ρ st).map fun (x, st1) => (x, ρ, st1)
  | s, ρ, st => rzS c sc z s ρ st

/-- [] -/
def emptyL : Expr → Bool
  | .List [] _ => true | _ => false
def mtIn (mt : List Str) : Expr → Bool
  | .Name x _ => mt.contains x
  | _ => false
/-- some names shall hold new lists, just those that get [] -/
def newsB (mt : List Str) : List Expr → List Expr → Bool
  | [], [] => true
  | e :: es, v :: vs => (emptyL v == mtIn mt e) && newsB mt es vs
  | _, _ => false
/-- .. [] as a thing that may change -/
def evN (f : Expr → Rho → Sto → Option (W × Sto)) (e : Expr) (ρ : Rho) (st : Sto) : Option (W × Sto) :=
  if emptyL e = true then some (.obj st.length, st ++ [.lst []]) else f e ρ st
def par3Ok (sc : Scope) (x y z : Str) (px py pz : Pos) (a b d : Expr) : Bool :=
  locB sc x && locB sc y && locB sc z && !(x == y) && !(x == z) && !(y == z) && (px.line == py.line) && (px.line == pz.line) && !isStar a && !isStar b && !isStar d && !(foldedForSure 8 a && (foldedForSure 8 b && foldedForSure 8 d)) && !(constantsAlone 8 a && (constantsAlone 8 b && constantsAlone 8 d))
def parsOk (sc : Scope) (es vs : List Expr) : Bool :=
  match es, vs with
  | [.Name x px, .Name y py], [a, b] => parOk sc x y px py a b
  | [.Name x px, .Name y py, .Name z pz], [a, b, d] => par3Ok sc x y z px py pz a b d
  | _, _ => false
def newsForm (mt : List Str) : Stmt → Option (List Expr × Nat × Pos × List Expr × Nat × Pos)
  | .Assign [.Tuple es kt pt] (.Tuple vs k2 pt2) _ => if newsB mt es vs = true ∧ vs.any emptyL = true ∧ vs.length < 100 then some (es, kt, pt, vs, k2, pt2) else none
  | _ => none

def exS0 (c : Cfg) (mt : List Str) (sc : Scope) (r : Rec) (rb : Stmt → Rho → Sto → Option Out) : Stmt → Rho → Sto → Option Out
  | .Pass _, ρ, st => some (.nx ρ st)
  | .Break _, ρ, st => some (.bk ρ st)
  | .Continue _, ρ, st => some (.ct ρ st)
  | .Return none _, ρ, st => some (.rt .non st)
  | .Return (some e) _, ρ, st => (r.ev sc e ρ st).map fun (w, st1) => .rt w st1
  | .Expr (.Constant (.str _) _ _) _, ρ, st => some (.nx ρ st)
  | .Expr e _, ρ, st => if isComp e = true then none else match appOf e with
    | some (x, _, a) => (nameW c.g c.N sc x ρ).bind fun o => if lstB st o = true then (r.ev sc a ρ st).bind fun (w, st1) => (pushW st1 o w).map fun st2 => .nx ρ st2 else none
    | none => (r.ev sc e ρ st).map fun (_, st1) => .nx ρ st1
  | .Try body [.ExceptHandler (some (.Name x _)) none suite _] orelse [] _, ρ, st => if x = "KeyError" ∧ x ∈ c.g.tys ∧ glB sc x = true ∧ suite.isEmpty = false then
      match rzQ rb (rzS c sc (recZ c 40)) body ρ st with
      | some (x, ρ1, st1) => (match x with
        | .key => suiS c sc suite ρ1 st1
        | _ => none)
      | none => match seqS rb body ρ st with
        | some (.nx ρ1 st1) => seqS rb orelse ρ1 st1
        | o => o
    else match seqS rb body ρ st with
      | some (.nx ρ1 st1) => seqS rb orelse ρ1 st1
      | o => o
  | .Try body (_ :: _) orelse [] _, ρ, st => match seqS rb body ρ st with
    | some (.nx ρ1 st1) => seqS rb orelse ρ1 st1
    | o => o
  | .If t a b _, ρ, st => (r.ts sc t ρ st).bind fun (k, st1) => if k = true then seqS rb a ρ st1 else seqS rb b ρ st1
  | .For tg it body [] _, ρ, st => (iterW (r.ev sc) (evList (r.ev sc)) c.g sc (isTupE tg) it ρ st).bind fun (l, st1) => forW (asgW c.N allB sc tg) (seqS rb body) l ρ st1
  | .Assign [.Name x _] e _, ρ, st =>
    if (isComp e && !isLC1 e && !isLC2 e) = true then none else
    if x ∈ mt then
      if isFresh e = true ∧ (isLC1 e = true ∨ (("list" : Str) ∈ c.g.bs ∧ c.g.fns.lookup ("list" : Str) = none) ∨ isList e = true) ∧ asB allB sc x = true then
        (slot x c.N).bind fun i => (r.ev sc e ρ st).bind fun (w, st1) => (newO w).map fun o => .nx (ρ.set i (some (.obj st1.length))) (st1 ++ [o])
      else none
    else (r.ev sc e ρ st).bind fun (w, st1) => (asgW c.N allB sc (.Name x ⟨0, 0, 0, 0⟩) w ρ).map fun ρ1 => .nx ρ1 st1
  | .Assign [.Subscript a i _] e _, ρ, st => if isComp e = true then none else if isSlice i = true then none else
      (r.ev sc e ρ st).bind fun (w, st1) => (r.ev sc a ρ st1).bind fun (x, st2) => (r.ev sc i ρ st2).bind fun (y, st3) => (setW st3 x y w).map fun st4 => .nx ρ st4
  | .Assign [.Tuple [.Name x px, .Name y py] kt pt] (.Tuple [a, b] k2 pt2) _, ρ, st =>
    if parOk sc x y px py a b = true then
      (r.ev sc a ρ st).bind fun (v, st1) => (r.ev sc b ρ st1).bind fun (w, st2) => (slot x c.N).bind fun i => (slot y c.N).map fun j => .nx ((ρ.set i (some v)).set j (some w)) st2
    else if (swapsE sc [.Name x px, .Name y py] (.Tuple [a, b] k2 pt2) || (isComp (.Tuple [a, b] k2 pt2) && !isLC1 (.Tuple [a, b] k2 pt2))) = true then none else
      (r.ev sc (.Tuple [a, b] k2 pt2) ρ st).bind fun (w, st1) => (asgW c.N allB sc (.Tuple [.Name x px, .Name y py] kt pt) w ρ).map fun ρ1 => .nx ρ1 st1
  | .Assign [.Tuple es kt pt] e _, ρ, st => if (swapsE sc es e || (isComp e && !isLC1 e)) = true then none else
      (r.ev sc e ρ st).bind fun (w, st1) => (asgW c.N allB sc (.Tuple es kt pt) w ρ).map fun ρ1 => .nx ρ1 st1
  | _, _, _ => none
def exS (c : Cfg) (mt : List Str) (sc : Scope) (r : Rec) (rb : Stmt → Rho → Sto → Option Out) (s : Stmt) (ρ : Rho) (st : Sto) : Option Out :=
  match newsForm mt s with
  | some (es, kt, pt, vs, k2, pt2) => if parsOk sc es vs = true ∨ swapsE sc es (.Tuple vs k2 pt2) = false then
      (evList (evN (r.ev sc)) vs ρ st).bind fun (ws, st1) => (asgW c.N allB sc (.Tuple es kt pt) (.tup ws) ρ).map fun ρ1 => .nx ρ1 st1 else none
  | none => exS0 c mt sc r rb s ρ st
def exN (c : Cfg) (mt : List Str) (sc : Scope) : Nat → Stmt → Rho → Sto → Option Out
  | 0 => fun _ _ _ => none
  | n + 1 => exS c mt sc (recN c 40) (exN c mt sc n)
def rzN (c : Cfg) (mt : List Str) (sc : Scope) : Nat → Stmt → Rho → Sto → Option (Exn × Rho × Sto)
  | 0 => fun _ _ _ => none
  | n + 1 => rzT c sc (recN c 40) (recZ c 40) (exN c mt sc n) (rzN c mt sc n)

/-- an except suite: raise y("..") from None -/
def fromW (g : Gam) (sc : Scope) : List Stmt → Option Str
  | [.Raise (some (.Call (.Name y _) [.Constant (.str _) _ _] [] _)) (some (.Constant .none _ _)) _] => if glB sc y = true ∧ okName y = true ∧ (g.cls.lookup y).isSome = true ∧ y ∉ g.ini then some y else none
  | _ => none
def hitW (g : Gam) (x y : Str) : Exn → Option Exn
  | .own cn _ => (g.cls.lookup cn).bind fun l => if l.contains x = true then some (.own y none) else none
  | .key => none
/-- a statement of a def's own suite -/
def rzF (c : Cfg) (sc : Scope) (rb : Stmt → Rho → Sto → Option Out) (zb : Stmt → Rho → Sto → Option (Exn × Rho × Sto)) : Stmt → Rho → Sto → Option (Exn × Rho × Sto)
  | .Try body [.ExceptHandler (some (.Name x _)) none suite _] [] [] _, ρ, st => if glB sc x = true ∧ okName x = true ∧ (c.g.cls.lookup x).isSome = true then
      (fromW c.g sc suite).bind fun y => (rzQ rb zb body ρ st).bind fun (e, ρ1, st1) => (hitW c.g x y e).map fun e1 => (e1, ρ1, st1) else none
  | s, ρ, st => zb s ρ st

def stillO : O → Bool
  | .lst l => stillA l
  | .dk _ l => stillA l
  | .dt _ l => stillA l
/-- a def's answer: a thing of its own stands still from here on -/
def back (st0 : Nat) (w : W) (st : Sto) : Option W :=
  match w with
  | .obj n => if n < st0 then none else match st[n]? with
    | some (.lst l) => if stillA l = true then some (.lst l) else none
    | some (.dk ks l) => if stillA l = true then some (.dk ks l) else none
    | some (.dt ks l) => if stillA l = true then some (.dt ks l) else none
    | none => none
  | w => if still w = true then some w else none
def startR (N : List Str) (ws : List W) : Rho := ws.map some ++ List.replicate (N.length - ws.length) none
def stillX : Exn → Bool
  | .own _ (some w) => still w
  | _ => true
/-- what a def answers, what it lets out where nothing is handled, what it lets out -/
def calls (g : Gam) : Nat → (Str → List W → Sto → Option (W × Sto)) × (Str → List W → Sto → Option (Exn × Sto)) × (Str → List W → Sto → Option (Exn × Sto))
  | 0 => (fun _ _ _ => none, fun _ _ _ => none, fun _ _ _ => none)
  | k + 1 => (fun f ws st => (g.fns.lookup f).bind fun d => if ws.length = d.ps.length then
      (seqS (exN ⟨g, d.N, (calls g k).1, (calls g k).2.1, (calls g k).2.2, d.lam⟩ d.mt (defScope d.st) 20) (defBody d.st) (startR d.N ws) st).bind fun o => match o with
        | .nx _ st1 => if (st1.take st.length).all stillO = true then some (.non, st1.take st.length) else none
        | .rt w st1 => (back st.length w st1).bind fun v => if (st1.take st.length).all stillO = true then some (v, st1.take st.length) else none
        | _ => none
    else none,
    fun f ws st => (g.fns.lookup f).bind fun d => if ws.length = d.ps.length then
      (rzQ (exN ⟨g, d.N, (calls g k).1, (calls g k).2.1, (calls g k).2.2, d.lam⟩ d.mt (defScope d.st) 20) (rzN ⟨g, d.N, (calls g k).1, (calls g k).2.1, (calls g k).2.2, d.lam⟩ d.mt (defScope d.st) 20) (defBody d.st) (startR d.N ws) st).bind fun (x, _, st1) =>
        if (st1.take st.length).all stillO = true ∧ stillX x = true then some (x, st1.take st.length) else none
    else none,
    fun f ws st => (g.fns.lookup f).bind fun d => if ws.length = d.ps.length then
      (rzQ (exN ⟨g, d.N, (calls g k).1, (calls g k).2.1, (calls g k).2.2, d.lam⟩ d.mt (defScope d.st) 20)
        (rzF ⟨g, d.N, (calls g k).1, (calls g k).2.1, (calls g k).2.2, d.lam⟩ (defScope d.st) (exN ⟨g, d.N, (calls g k).1, (calls g k).2.1, (calls g k).2.2, d.lam⟩ d.mt (defScope d.st) 20) (rzN ⟨g, d.N, (calls g k).1, (calls g k).2.1, (calls g k).2.2, d.lam⟩ d.mt (defScope d.st) 20)) (defBody d.st) (startR d.N ws) st).bind fun (x, _, st1) =>
        if (st1.take st.length).all stillO = true ∧ stillX x = true then some (x, st1.take st.length) else none
    else none)
def callK (g : Gam) (k : Nat) (f : Str) (ws : List W) (st : Sto) : Option (W × Sto) := (calls g k).1 f ws st
def callR (g : Gam) (k : Nat) (f : Str) (ws : List W) (st : Sto) : Option (Exn × Sto) := (calls g k).2.1 f ws st
def callF (g : Gam) (k : Nat) (f : Str) (ws : List W) (st : Sto) : Option (Exn × Sto) := (calls g k).2.2 f ws st
end MP
namespace MP
open PySem L2

/-! a text's meaning, put together from few words -/
abbrev EX := Rho → Sto → Option (W × Sto)
abbrev TX := Rho → Sto → Option (Bool × Sto)
abbrev SX := Rho → Sto → Option Out
abbrev IX := Rho → Sto → Option (List W × Sto)
abbrev AX := W → Rho → Option Rho
abbrev CX1 := Str → List W → Sto → Option (W × Sto)
def eVar (i : Nat) : EX := fun ρ st => ((ρ[i]?).bind fun w => w).map fun w => (w, st)
def eVal (w : W) : EX := fun _ st => some (w, st)
def eBin (op : Operator) (a b : EX) : EX := fun ρ st => (a ρ st).bind fun (x, st1) => (b ρ st1).bind fun (y, st2) => (binW op x y).map fun w => (w, st2)
def eCmp (op : CmpOp) (a b : EX) : EX := fun ρ st => (a ρ st).bind fun (x, st1) => (b ρ st1).bind fun (y, st2) => (cmpW op x y).map fun k => (.bl k, st2)
def tCmp (op : CmpOp) (a b : EX) : TX := fun ρ st => (a ρ st).bind fun (x, st1) => (b ρ st1).bind fun (y, st2) => (cmpW op x y).map fun k => (k, st2)
def eBinE (a b : EX) : EX := fun ρ st => (a ρ st).bind fun (x, st1) => (b ρ st1).bind fun (y, st2) => (binE st2 x y).map fun w => (w, st2)
def eCmpE (op : CmpOp) (a b : EX) : EX := fun ρ st => (a ρ st).bind fun (x, st1) => (b ρ st1).bind fun (y, st2) => (cmpE st2 op x y).map fun k => (.bl k, st2)
def tCmpE (op : CmpOp) (a b : EX) : TX := fun ρ st => (a ρ st).bind fun (x, st1) => (b ρ st1).bind fun (y, st2) => (cmpE st2 op x y).map fun k => (k, st2)
def eNot (a : EX) : EX := fun ρ st => (a ρ st).bind fun (x, st1) => match x with
  | .bl k => some (.bl (!k), st1)
  | _ => none
def eNeg (a : EX) : EX := fun ρ st => (a ρ st).bind fun (x, st1) => match x with
  | .int i => some (.int (-i), st1)
  | _ => none
def eAnd (a b : EX) : EX := fun ρ st => (a ρ st).bind fun (x, st1) => match x with
  | .bl k => if k = true then b ρ st1 else some (.bl false, st1)
  | _ => none
def eOr (a b : EX) : EX := fun ρ st => (a ρ st).bind fun (x, st1) => match x with
  | .bl k => if k = true then some (.bl true, st1) else b ρ st1
  | _ => none
def tNot (a : TX) : TX := fun ρ st => (a ρ st).map fun (k, st1) => (!k, st1)
def tAnd (a b : TX) : TX := fun ρ st => (a ρ st).bind fun (k, st1) => if k = true then b ρ st1 else some (false, st1)
def tOr (a b : TX) : TX := fun ρ st => (a ρ st).bind fun (k, st1) => if k = true then some (true, st1) else b ρ st1
def tTr (a : EX) : TX := fun ρ st => (a ρ st).bind fun (x, st1) => (truthW st1 x).map fun k => (k, st1)
def tYes : TX := fun _ st => some (true, st)
def eIf (t : TX) (a b : EX) : EX := fun ρ st => (t ρ st).bind fun (k, st1) => if k = true then a ρ st1 else b ρ st1
def eList : List EX → IX
  | [] => fun _ st => some ([], st)
  | e :: es => fun ρ st => (e ρ st).bind fun (w, st1) => (eList es ρ st1).bind fun (ws, st2) => some (w :: ws, st2)
def eTup (es : List EX) : EX := fun ρ st => (eList es ρ st).bind fun (ws, st1) => if ws.length ≤ sizeLine then some (.tup ws, st1) else none
/-- items, some of them starred -/
def eListS : List (Bool × EX) → IX
  | [] => fun _ st => some ([], st)
  | (true, e) :: es => fun ρ st => (e ρ st).bind fun (w, st1) => (rowW w).bind fun l => (eListS es ρ st1).bind fun (ws, st2) => some (l ++ ws, st2)
  | (false, e) :: es => fun ρ st => (e ρ st).bind fun (w, st1) => (eListS es ρ st1).bind fun (ws, st2) => some (w :: ws, st2)
def eTupS (es : List (Bool × EX)) : EX := fun ρ st => (eListS es ρ st).bind fun (ws, st1) => if ws.length ≤ sizeLine then some (.tup ws, st1) else none
def eLst (es : List EX) : EX := fun ρ st => (eList es ρ st).bind fun (ws, st1) => if ws.length ≤ sizeLine then some (.lst ws, st1) else none
def ePart : Option EX → Rho → Sto → Option (Option Int × Sto)
  | none => fun _ st => some (none, st)
  | some e => fun ρ st => (e ρ st).bind fun (w, st1) => match w with
    | .int i => some (some i, st1)
    | _ => none
def eSl (a : EX) (lo hi : Option EX) : EX := fun ρ st => (a ρ st).bind fun (x, st1) => (ePart lo ρ st1).bind fun (l, st2) => (ePart hi ρ st2).bind fun (h, st3) => (slW x l h).map fun w => (w, st3)
def eIx (a b : EX) : EX := fun ρ st => (a ρ st).bind fun (x, st1) => (b ρ st1).bind fun (y, st2) => (ixW st2 x y).map fun w => (w, st2)
def eCall (call : CX1) (f : Str) (n : Nat) (es : List EX) : EX := fun ρ st => (eList es ρ st).bind fun (ws, st1) => if ws.length = n then call f ws st1 else none
def eBlt (f : Str) (es : List EX) : EX := fun ρ st => (eList es ρ st).bind fun (ws, st1) => (callB st1 f ws).map fun w => (w, st1)
/-- a call of a name that holds a def -/
def eCallV (gg : List (Str × Fn)) (call : CX1) (i : Nat) (es : List EX) : EX := fun ρ st => ((ρ[i]?).bind fun w => w).bind fun h => match h with
  | .fn h => (gg.lookup h).bind fun d => (eList es ρ st).bind fun (ws, st1) => if ws.length = d.ps.length then call h ws st1 else none
  | _ => none
def eMeth (a : EX) (m : Str) (es : List EX) : EX := fun ρ st => (a ρ st).bind fun (w, st1) => (eList es ρ st1).bind fun (ws, st2) => (methB w m ws).map fun v => (v, st2)
/-- f(..).m(..) of a def that ends with a new tuple -/
def eMethT (call : CX1) (f : Str) (n : Nat) (as es : List EX) : EX := fun ρ st => (eList as ρ st).bind fun (ws, st1) => if ws.length = n then (call f ws st1).bind fun (w, st2) => (eList es ρ st2).bind fun (vs, st3) => (methT w vs).map fun v => (v, st3) else none
def eSet (a : EX) : EX := fun ρ st => (a ρ st).bind fun (w, st1) => (match w with
  | .lst l => strsW l
  | .tup l => strsW l
  | _ => none).bind fun ks => if ks.length < 64 then some (.lst ((sortS (uniqS ks)).map .str), st1) else none
def eZipL (a b : EX) : EX := fun ρ st => (eList [a, b] ρ st).bind fun (ws, st1) => match ws with
    | [.lst l, .str t] => if l.length = t.cps.size then (dispK (l.zip (signs t)) [] []).map fun w => (w, st1) else none
    | _ => none
def eZip (a b : EX) : EX := fun ρ st => (eList [a, b] ρ st).bind fun (ws, st1) => match ws with
  | [.tup l, .tup m] => (dispW (l.zip m)).map fun w => (w, st1)
  | _ => none
def eVals (a : EX) : EX := fun ρ st => (a ρ st).bind fun (w, st1) => match w with
  | .dk _ vs => some (.lst vs, st1)
  | _ => none
def ePairs : List (EX × EX) → Rho → Sto → Option (List (W × W) × Sto)
  | [] => fun _ st => some ([], st)
  | (k, v) :: r => fun ρ st => (k ρ st).bind fun (x, st1) => (v ρ st1).bind fun (y, st2) => (ePairs r ρ st2).bind fun (ps, st3) => some ((x, y) :: ps, st3)
def eDict (ps : List (EX × EX)) : EX := fun ρ st => (ePairs ps ρ st).bind fun (ps, st1) => (dispW ps).map fun w => (w, st1)
def iRange (e : EX) : IX := fun ρ st => (eList [e] ρ st).bind fun (ws, st1) => match ws with
  | [.int j] => if -(2 ^ 62) ≤ j ∧ j < 2 ^ 62 then some ((List.range j.toNat).map fun i => .int ((i : Nat) : Int), st1) else none
  | _ => none
def iEnum (e : EX) : IX := fun ρ st => (eList [e] ρ st).bind fun (ws, st1) => match ws with
  | [w] => (rowW w).map fun l => (numW 0 l, st1)
  | _ => none
def iRow (e : EX) : IX := fun ρ st => (e ρ st).bind fun (w, st1) => match w with
  | .tup l => some (l, st1)
  | .lst l => some (l, st1)
  | .rl l => some (l, st1)
  | _ => none
def iSeq (e : EX) : IX := fun ρ st => (e ρ st).bind fun (w, st1) => match w with
  | .tup l => some (l, st1)
  | .lst l => some (l, st1)
  | .rl l => some (l, st1)
  | .str s => some (signs s, st1)
  | _ => none
def aName (i : Nat) : AX := fun w ρ => some (ρ.set i (some w))
def aTup (is : List Nat) : AX := fun w ρ => match w with
  | .tup l => asgL is l ρ
  | .lst l => asgL is l ρ
  | _ => none
def eComp (own : List Nat) (it : IX) (asg : AX) (tst : TX) (elt : EX) : EX := fun ρ st => (it ρ st).bind fun (l, st1) => (compW asg tst elt (wipeR ρ own) l st1).bind fun (vs, st2) =>
  if vs.length ≤ sizeLine ∧ l.length < sizeLine then some (.lst vs, st2) else none
def eComp2 (own : List Nat) (it : IX) (asg : AX) (tst : TX) (own1 : List Nat) (it1 : IX) (asg1 : AX) (tst1 : TX) (elt : EX) : EX := fun ρ st => (it ρ st).bind fun (l, st1) =>
  (compF asg tst (fun ρ1 st1 => (it1 ρ1 st1).bind fun (l1, st2) => compW asg1 tst1 elt (wipeR ρ1 own1) l1 st2) (wipeR ρ own) l st1).bind fun (vs, st2) =>
  if vs.length ≤ sizeLine then some (.lst vs, st2) else none
def sSeq : List SX → SX
  | [] => fun ρ st => some (.nx ρ st)
  | s :: ss => fun ρ st => (s ρ st).bind fun o => match o with
    | .nx ρ1 st1 => sSeq ss ρ1 st1
    | o => some o
def sPass : SX := fun ρ st => some (.nx ρ st)
def sBrk : SX := fun ρ st => some (.bk ρ st)
def sCnt : SX := fun ρ st => some (.ct ρ st)
def sRet (e : EX) : SX := fun ρ st => (e ρ st).map fun (w, st1) => .rt w st1
def sNo : SX := fun _ _ => none
def sDo (e : EX) : SX := fun ρ st => (e ρ st).map fun (_, st1) => .nx ρ st1
def sIf (t : TX) (a b : List SX) : SX := fun ρ st => (t ρ st).bind fun (k, st1) => if k = true then sSeq a ρ st1 else sSeq b ρ st1
def sFor (it : IX) (asg : AX) (body : List SX) : SX := fun ρ st => (it ρ st).bind fun (l, st1) => forW asg (sSeq body) l ρ st1
def sAsg (i : Nat) (e : EX) : SX := fun ρ st => (e ρ st).bind fun (w, st1) => some (.nx (ρ.set i (some w)) st1)
def sNew (i : Nat) (e : EX) : SX := fun ρ st => (e ρ st).bind fun (w, st1) => (newO w).map fun o => .nx (ρ.set i (some (.obj st1.length))) (st1 ++ [o])
def sSet (a i e : EX) : SX := fun ρ st => (e ρ st).bind fun (w, st1) => (a ρ st1).bind fun (x, st2) => (i ρ st2).bind fun (y, st3) => (setW st3 x y w).map fun st4 => .nx ρ st4
def sTup (is : List Nat) (e : EX) : SX := fun ρ st => (e ρ st).bind fun (w, st1) => (aTup is w ρ).map fun ρ1 => .nx ρ1 st1
def sPar (i j : Nat) (a b : EX) : SX := fun ρ st => (a ρ st).bind fun (v, st1) => (b ρ st1).bind fun (w, st2) => some (.nx ((ρ.set i (some v)).set j (some w)) st2)
/-- a new list that may change -/
def eNew : EX := fun _ st => some (.obj st.length, st ++ [.lst []])
def sTupN (is : List Nat) (es : List EX) : SX := fun ρ st => (eList es ρ st).bind fun (ws, st1) => (asgL is ws ρ).map fun ρ1 => .nx ρ1 st1
def sApp (i : Nat) (e : EX) : SX := fun ρ st => ((ρ[i]?).bind fun w => w).bind fun o => if lstB st o = true then (e ρ st).bind fun (w, st1) => (pushW st1 o w).map fun st2 => .nx ρ st2 else none
def eNames : List Nat → Rho → Option (List W)
  | [] => fun _ => some []
  | i :: is => fun ρ => ((ρ[i]?).bind fun w => w).bind fun w => (eNames is ρ).bind fun ws => some (w :: ws)
/-- an except suite that puts a tuple of names at a list's end -/
def sSui (i : Nat) (is : List Nat) : SX := fun ρ st => ((ρ[i]?).bind fun w => w).bind fun o => if lstB st o = true then (eNames is ρ).bind fun ws => if ws.length ≤ sizeLine then (pushW st o (.tup ws)).map fun st1 => .nx ρ st1 else none else none
def eMinD (a : EX) : EX := fun ρ st => (a ρ st).bind fun (w, st1) => (minDW w).map fun v => (v, st1)
def eFmt (a : EX) : EX := fun ρ st => (a ρ st).bind fun (w, st1) => match w with
  | .str y => if y.length ≤ sizeLine then some (.str y, st1) else none
  | _ => none
def eFmtR (a : EX) : EX := fun ρ st => (a ρ st).bind fun (w, st1) => match w with
  | .str y => if (reprText y).length ≤ sizeLine then some (.str (reprText y), st1) else none
  | _ => none
def eMeth0 (a : EX) (m : Str) : EX := fun ρ st => (a ρ st).bind fun (w, st1) => (methB0 w m).map fun v => (v, st1)
def eParts : Str → List EX → Rho → Sto → Option (Str × Sto)
  | acc, [] => fun _ st => some (acc, st)
  | acc, e :: es => fun ρ st => (e ρ st).bind fun (w, st1) => match w with
    | .str y => if (acc ++ y).length ≤ sizeLine then eParts (acc ++ y) es ρ st1 else none
    | _ => none
def eJoin (es : List EX) : EX := fun ρ st => (eParts Str.empty es ρ st).map fun (s, st1) => (.str s, st1)
def sThru (b o : List SX) : SX := fun ρ st => match sSeq b ρ st with
  | some (.nx ρ1 st1) => sSeq o ρ1 st1
  | x => x
/-! what raises -/
abbrev ZX := Rho → Sto → Option (Exn × Sto)
abbrev ZS := Rho → Sto → Option (Exn × Rho × Sto)
abbrev RX1 := Str → List W → Sto → Option (Exn × Sto)
def zNo : ZX := fun _ _ => none
def zsNo : ZS := fun _ _ => none
def zList : List (EX × ZX) → ZX
  | [] => fun _ _ => none
  | (e, z) :: es => fun ρ st => match z ρ st with
    | some x => some x
    | none => (e ρ st).bind fun (_, st1) => zList es ρ st1
def zAnd (a : EX) (za zb : ZX) : ZX := fun ρ st => match za ρ st with
  | some x => some x
  | none => (a ρ st).bind fun (x, st1) => match x with
    | .bl k => if k = true then zb ρ st1 else none
    | _ => none
def zOr (a : EX) (za zb : ZX) : ZX := fun ρ st => match za ρ st with
  | some x => some x
  | none => (a ρ st).bind fun (x, st1) => match x with
    | .bl k => if k = true then none else zb ρ st1
    | _ => none
def zIx (a : EX) (za : ZX) (b : EX) (zb : ZX) : ZX := fun ρ st => match zList [(a, za), (b, zb)] ρ st with
  | some x => some x
  | none => (a ρ st).bind fun (x, st1) => (b ρ st1).bind fun (y, st2) => (missW x y).map fun e => (e, st2)
def zCall (callR : RX1) (f : Str) (n : Nat) (ps : List (EX × ZX)) : ZX := fun ρ st => match zList ps ρ st with
  | some x => some x
  | none => (eList (ps.map (·.1)) ρ st).bind fun (ws, st1) => if ws.length = n then callR f ws st1 else none
def zCallV (gg : List (Str × Fn)) (callR : RX1) (i : Nat) (ps : List (EX × ZX)) : ZX := fun ρ st => ((ρ[i]?).bind fun w => w).bind fun h => match h with
  | .fn h => (gg.lookup h).bind fun d => match zList ps ρ st with
    | some x => some x
    | none => (eList (ps.map (·.1)) ρ st).bind fun (ws, st1) => if ws.length = d.ps.length then callR h ws st1 else none
  | _ => none
/-- a lambda's body: a call of a def -/
def zCallF (callF : RX1) (f : Str) (n : Nat) (es : List EX) : ZX := fun ρ st => (eList es ρ st).bind fun (ws, st1) => if ws.length = n then callF f ws st1 else none
/-- f(lambda: b) of a def that tells what error came -/
def eLam (g : Gam) (f : Str) (z : ZX) (b : EX) : EX := fun ρ st => (g.fns.lookup f).bind fun d => (wordOf g d).bind fun (x0, e, ret, s0) => match z ρ st with
  | some (x, st1) => (handW g (L2.defScope d.st) x0 e ret x).map fun w => (w, st1)
  | none => (b ρ st).map fun (_, st1) => (.str s0, st1)
def zSt (z : ZX) : ZS := fun ρ st => (z ρ st).map fun (x, st1) => (x, ρ, st1)
def zSeq : List (SX × ZS) → ZS
  | [] => fun _ _ => none
  | (s, z) :: ss => fun ρ st => match z ρ st with
    | some x => some x
    | none => (s ρ st).bind fun o => match o with
      | .nx ρ1 st1 => zSeq ss ρ1 st1
      | _ => none
/-- raise x(e) -/
def zRai (x : Str) (e : EX) : ZS := fun ρ st => ((e ρ st).bind fun (_, st1) => some (Exn.own x none, st1)).map fun (x, st1) => (x, ρ, st1)
def zRaiV (x : Str) (e : EX) : ZS := fun ρ st => ((e ρ st).bind fun (w, st1) => some (Exn.own x (some w), st1)).map fun (x, st1) => (x, ρ, st1)
def zIf (t : TX) (a b : List (SX × ZS)) : ZS := fun ρ st => (t ρ st).bind fun (k, st1) => if k = true then zSeq a ρ st1 else zSeq b ρ st1
def zFor (it : IX) (asg : AX) (b : List SX) (z : List (SX × ZS)) : ZS := fun ρ st => (it ρ st).bind fun (l, st1) => forZ asg (sSeq b) (zSeq z) l ρ st1
/-- try: .. except x: raise y("..") from None -/
def zFrom (g : Gam) (x y : Str) (b : List (SX × ZS)) : ZS := fun ρ st => (zSeq b ρ st).bind fun (e, ρ1, st1) => (hitW g x y e).map fun e1 => (e1, ρ1, st1)
def sTry (b : List SX) (z : ZS) (s : SX) (o : List SX) : SX := fun ρ st => match z ρ st with
  | some (x, ρ1, st1) => (match x with
    | .key => s ρ1 st1
    | _ => none)
  | none => match sSeq b ρ st with
    | some (.nx ρ1 st1) => sSeq o ρ1 st1
    | x => x
def runZ (n k : Nat) (z : ZS) (ws : List W) (st : Sto) : Option (Exn × Sto) :=
  if ws.length = n then (z (ws.map some ++ List.replicate (k - ws.length) none) st).bind fun (x, _, st1) => if (st1.take st.length).all stillO = true ∧ stillX x = true then some (x, st1.take st.length) else none else none
/-- a def's end -/
def outF (st : Sto) (o : Out) : Option (W × Sto) := match o with
  | .nx _ st1 => if (st1.take st.length).all stillO = true then some (.non, st1.take st.length) else none
  | .rt w st1 => (back st.length w st1).bind fun v => if (st1.take st.length).all stillO = true then some (v, st1.take st.length) else none
  | _ => none
def runF (n k : Nat) (b : SX) (ws : List W) (st : Sto) : Option (W × Sto) :=
  if ws.length = n then (b (ws.map some ++ List.replicate (k - ws.length) none) st).bind fun o => outF st o else none
end MP
namespace K08
open PySem
open PySem
abbrev P : PySem.Program := PySem.Challenge.pw_unknowntables_k08_whole_texts
def top (i : Nat) : PySem.Stmt := (P.main.body[i]?).getD (.Pass ⟨0, 0, 0, 0⟩)
def d_check_logic : MP.Fn := ⟨top 9, "check_logic", ["value"], ["value", "index", "item"], [], false⟩
def d_is_leaf : MP.Fn := ⟨top 15, "is_leaf", ["thing"], ["thing"], [], false⟩
def d_is_joined : MP.Fn := ⟨top 16, "is_joined", ["thing"], ["thing"], [], false⟩
def d_leaves_of : MP.Fn := ⟨top 17, "leaves_of", ["thing", "most"], ["thing", "most", "parts", "part", "leaf"], [], false⟩
def d_is_formula : MP.Fn := ⟨top 18, "is_formula", ["value"], ["value", "leaves"], [], false⟩
def d_check_formula : MP.Fn := ⟨top 19, "check_formula", ["formula"], ["formula"], [], false⟩
def d_check_text : MP.Fn := ⟨top 21, "check_text", ["text"], ["text"], [], false⟩
def d_write_logic : MP.Fn := ⟨top 22, "write_logic", ["logic"], ["logic"], [], false⟩
def d_read_logic : MP.Fn := ⟨top 23, "read_logic", ["text"], ["text", "logic"], [], false⟩
def d_text_of : MP.Fn := ⟨top 24, "text_of", ["formula"], ["formula", "texts", "part"], [], false⟩
def d_write_formula : MP.Fn := ⟨top 25, "write_formula", ["formula"], ["formula"], [], false⟩
def d_behind : MP.Fn := ⟨top 26, "behind", ["text", "at", "sign"], ["text", "at", "sign", "end"], [], false⟩
def d_read_part : MP.Fn := ⟨top 27, "read_part", ["text", "at", "most"], ["text", "at", "most", "part", "end"], [], false⟩
def d_read_joined : MP.Fn := ⟨top 28, "read_joined", ["text", "at", "most"], ["text", "at", "most", "one", "end", "word", "other"], [], false⟩
def d_read_formula : MP.Fn := ⟨top 29, "read_formula", ["text"], ["text", "formula", "end"], [], false⟩
def d__law_taken : MP.Fn := ⟨top 31, "_law_taken", ["row", "many"], ["row", "many", "cell", "found"], [], false⟩
def d__law_pick : MP.Fn := ⟨top 32, "_law_pick", ["row", "kinds"], ["row", "kinds"], [], false⟩
def d__law_alike : MP.Fn := ⟨top 33, "_law_alike", ["found", "due"], ["found", "due", "k"], [], false⟩
def d__law_told : MP.Fn := ⟨top 34, "_law_told", [], [], [], false⟩
def d__law_logic : MP.Fn := ⟨top 35, "_law_logic", ["row"], ["row", "kind", "told", "found", "turn", "a", "b", "c", "x", "y", "z"], ["found"], false⟩
def d__law_formula : MP.Fn := ⟨top 36, "_law_formula", ["row", "deep", "letters", "units"], ["row", "deep", "letters", "units", "kind", "left"], [], false⟩
def d__law_word : MP.Fn := ⟨top 37, "_law_word", ["work"], ["work", "e"], [], false⟩
def d__law_text : MP.Fn := ⟨top 38, "_law_text", ["formula"], ["formula", "parts", "part"], [], false⟩
def d__law_nots : MP.Fn := ⟨top 39, "_law_nots", ["many", "letter"], ["many", "letter", "found", "turn"], [], false⟩
def d_law : MP.Fn := ⟨top 40, "law", ["script"], ["script", "row", "logic", "formula", "text", "line", "bad", "odd", "deep", "wide", "none", "some", "size", "at"], ["row"], true⟩
def g : MP.Gam := ⟨[(("check_logic" : Str), d_check_logic), (("is_leaf" : Str), d_is_leaf), (("is_joined" : Str), d_is_joined), (("leaves_of" : Str), d_leaves_of), (("is_formula" : Str), d_is_formula), (("check_formula" : Str), d_check_formula), (("check_text" : Str), d_check_text), (("write_logic" : Str), d_write_logic), (("read_logic" : Str), d_read_logic), (("text_of" : Str), d_text_of), (("write_formula" : Str), d_write_formula), (("behind" : Str), d_behind), (("read_part" : Str), d_read_part), (("read_joined" : Str), d_read_joined), (("read_formula" : Str), d_read_formula), (("_law_taken" : Str), d__law_taken), (("_law_pick" : Str), d__law_pick), (("_law_alike" : Str), d__law_alike), (("_law_told" : Str), d__law_told), (("_law_logic" : Str), d__law_logic), (("_law_formula" : Str), d__law_formula), (("_law_word" : Str), d__law_word), (("_law_text" : Str), d__law_text), (("_law_nots" : Str), d__law_nots), (("law" : Str), d_law)],
  [(("ANSWERS" : Str), (.tup [.str "f", .str "t", .str "u"] : MP.W)),
   (("LENGTH" : Str), (.int (11) : MP.W)),
   (("LETTERS" : Str), (.tup [.str "a", .str "b", .str "c", .str "d", .str "e"] : MP.W)),
   (("MOST_LEAVES" : Str), (.int (20) : MP.W)),
   (("MOST_TUPLES" : Str), (.int (8) : MP.W)),
   (("JOINED" : Str), (.kd ["and", "not", "or"] [.int (2), .int (1), .int (2)] : MP.W))],
  ["len", "isinstance", "int", "tuple", "list", "range", "enumerate"], ["tuple", "str", "list", "int", "bool"],
  [(("LogicError" : Str), (["LogicError"] : List Str)), (("BadFormula" : Str), (["BadFormula", "LogicError"] : List Str)), (("NotText" : Str), (["NotText", "LogicError"] : List Str)), (("InvalidText" : Str), (["InvalidText", "LogicError"] : List Str)), (("BadLogic" : Str), (["BadLogic", "LogicError"] : List Str))], ["BadLogic"]⟩
open MP
abbrev k_ANSWERS : MP.W := .tup [.str "f", .str "t", .str "u"]
abbrev k_LENGTH : MP.W := .int (11)
abbrev k_LETTERS : MP.W := .tup [.str "a", .str "b", .str "c", .str "d", .str "e"]
abbrev k_MOST_LEAVES : MP.W := .int (20)
abbrev k_MOST_TUPLES : MP.W := .int (8)
abbrev k_JOINED : MP.W := .kd ["and", "not", "or"] [.int (2), .int (1), .int (2)]
def b_check_logic (call : CX1) : SX := sSeq [sIf (tOr (tNot (tTr (eBlt "isinstance" [eVar 0, eVal (.ty "tuple")]))) (tCmp .NotEq (eBlt "len" [eVar 0]) (eVal k_LENGTH))) [sNo] [], sFor (iEnum (eVar 0)) (aTup [1, 2]) [sIf (tCmp .NotIn (eVar 2) (eVal k_ANSWERS)) [sNo] []]]
theorem c_check_logic (k : Nat) (ws : List W) (st : Sto) : callK g (k + 1) "check_logic" ws st = runF 1 3 (b_check_logic (callK g k)) ws st := rfl
def l_check_logic (call : CX1) (callR : RX1) : List (SX × ZS) := [(sIf (tOr (tNot (tTr (eBlt "isinstance" [eVar 0, eVal (.ty "tuple")]))) (tCmp .NotEq (eBlt "len" [eVar 0]) (eVal k_LENGTH))) [sNo] [], zIf (tOr (tNot (tTr (eBlt "isinstance" [eVar 0, eVal (.ty "tuple")]))) (tCmp .NotEq (eBlt "len" [eVar 0]) (eVal k_LENGTH))) [(sNo, zRaiV "BadLogic" (eVal .non))] []), (sFor (iEnum (eVar 0)) (aTup [1, 2]) [sIf (tCmp .NotIn (eVar 2) (eVal k_ANSWERS)) [sNo] []], zFor (iEnum (eVar 0)) (aTup [1, 2]) [sIf (tCmp .NotIn (eVar 2) (eVal k_ANSWERS)) [sNo] []] [(sIf (tCmp .NotIn (eVar 2) (eVal k_ANSWERS)) [sNo] [], zIf (tCmp .NotIn (eVar 2) (eVal k_ANSWERS)) [(sNo, zRaiV "BadLogic" (eVar 1))] [])])]
def z_check_logic (call : CX1) (callR : RX1) : ZS := zSeq (l_check_logic call callR)
theorem r_check_logic (k : Nat) (ws : List W) (st : Sto) : callR g (k + 1) "check_logic" ws st = runZ 1 3 (z_check_logic (callK g k) (callR g k)) ws st := rfl
def b_is_leaf (call : CX1) : SX := sSeq [sRet (eOr (eCmp .In (eVar 0) (eVal k_LETTERS)) (eCmp .In (eVar 0) (eVal k_ANSWERS)))]
theorem c_is_leaf (k : Nat) (ws : List W) (st : Sto) : callK g (k + 1) "is_leaf" ws st = runF 1 1 (b_is_leaf (callK g k)) ws st := rfl
def b_is_joined (call : CX1) : SX := sSeq [sIf (tOr (tNot (tTr (eBlt "isinstance" [eVar 0, eVal (.ty "tuple")]))) (tNot (tTr (eVar 0)))) [sRet (eVal (.bl false))] [], sRet (eAnd (eBlt "isinstance" [eIx (eVar 0) (eVal (.int 0)), eVal (.ty "str")]) (eCmp .Eq (eMeth (eVal k_JOINED) "get" [eIx (eVar 0) (eVal (.int 0))]) (eBin .Sub (eBlt "len" [eVar 0]) (eVal (.int 1)))))]
theorem c_is_joined (k : Nat) (ws : List W) (st : Sto) : callK g (k + 1) "is_joined" ws st = runF 1 1 (b_is_joined (callK g k)) ws st := rfl
def b_leaves_of (call : CX1) : SX := sSeq [sIf (tTr (eCall call "is_leaf" 1 [eVar 0])) [sRet (eLst [eVar 0])] [], sIf (tOr (tCmp .Eq (eVar 1) (eVal (.int 0))) (tNot (tTr (eCall call "is_joined" 1 [eVar 0])))) [sRet (eVal .non)] [], sAsg 2 (eComp [3] (iSeq (eSl (eVar 0) (some (eVal (.int 1))) none)) (aName 3) tYes (eCall call "leaves_of" 2 [eVar 3, eBin .Sub (eVar 1) (eVal (.int 1))])), sIf (tCmp .In (eVal .non) (eVar 2)) [sRet (eVal .non)] [], sRet (eComp2 [3, 4] (iSeq (eVar 2)) (aName 3) tYes [4] (iSeq (eVar 3)) (aName 4) tYes (eVar 4))]
theorem c_leaves_of (k : Nat) (ws : List W) (st : Sto) : callK g (k + 1) "leaves_of" ws st = runF 2 5 (b_leaves_of (callK g k)) ws st := rfl
def b_is_formula (call : CX1) : SX := sSeq [sAsg 1 (eCall call "leaves_of" 2 [eVar 0, eVal k_MOST_TUPLES]), sRet (eAnd (eCmp .IsNot (eVar 1) (eVal .non)) (eCmp .LtE (eBlt "len" [eVar 1]) (eVal k_MOST_LEAVES)))]
theorem c_is_formula (k : Nat) (ws : List W) (st : Sto) : callK g (k + 1) "is_formula" ws st = runF 1 2 (b_is_formula (callK g k)) ws st := rfl
def b_check_formula (call : CX1) : SX := sSeq [sIf (tNot (tTr (eCall call "is_formula" 1 [eVar 0]))) [sNo] []]
theorem c_check_formula (k : Nat) (ws : List W) (st : Sto) : callK g (k + 1) "check_formula" ws st = runF 1 1 (b_check_formula (callK g k)) ws st := rfl
def b_check_text (call : CX1) : SX := sSeq [sIf (tNot (tTr (eBlt "isinstance" [eVar 0, eVal (.ty "str")]))) [sNo] []]
theorem c_check_text (k : Nat) (ws : List W) (st : Sto) : callK g (k + 1) "check_text" ws st = runF 1 1 (b_check_text (callK g k)) ws st := rfl
def l_check_text (call : CX1) (callR : RX1) : List (SX × ZS) := [(sIf (tNot (tTr (eBlt "isinstance" [eVar 0, eVal (.ty "str")]))) [sNo] [], zIf (tNot (tTr (eBlt "isinstance" [eVar 0, eVal (.ty "str")]))) [(sNo, zRai "NotText" (eVal (.str "a text is a string")))] [])]
def z_check_text (call : CX1) (callR : RX1) : ZS := zSeq (l_check_text call callR)
theorem r_check_text (k : Nat) (ws : List W) (st : Sto) : callR g (k + 1) "check_text" ws st = runZ 1 1 (z_check_text (callK g k) (callR g k)) ws st := rfl
def b_write_logic (call : CX1) : SX := sSeq [sDo (eCall call "check_logic" 1 [eVar 0]), sRet (eMeth (eVal (.str "")) "join" [eVar 0])]
theorem c_write_logic (k : Nat) (ws : List W) (st : Sto) : callK g (k + 1) "write_logic" ws st = runF 1 1 (b_write_logic (callK g k)) ws st := rfl
def b_read_logic (call : CX1) : SX := sSeq [sDo (eCall call "check_text" 1 [eVar 0]), sAsg 1 (eBlt "tuple" [eVar 0]), sThru [sDo (eCall call "check_logic" 1 [eVar 1])] [], sRet (eVar 1)]
theorem c_read_logic (k : Nat) (ws : List W) (st : Sto) : callK g (k + 1) "read_logic" ws st = runF 1 2 (b_read_logic (callK g k)) ws st := rfl
def lf_read_logic (call : CX1) (callR : RX1) : List (SX × ZS) := [(sDo (eCall call "check_text" 1 [eVar 0]), zSt (zCall callR "check_text" 1 [(eVar 0, zNo)])), (sAsg 1 (eBlt "tuple" [eVar 0]), zSt zNo), (sThru [sDo (eCall call "check_logic" 1 [eVar 1])] [], zFrom g "BadLogic" "InvalidText" [(sDo (eCall call "check_logic" 1 [eVar 1]), zSt (zCall callR "check_logic" 1 [(eVar 1, zNo)]))]), (sRet (eVar 1), zSt zNo)]
theorem q_read_logic (k : Nat) (ws : List W) (st : Sto) : callF g (k + 1) "read_logic" ws st = runZ 1 2 (zSeq (lf_read_logic (callK g k) (callR g k))) ws st := rfl
def b_text_of (call : CX1) : SX := sSeq [sIf (tTr (eCall call "is_leaf" 1 [eVar 0])) [sRet (eVar 0)] [], sAsg 1 (eComp [2] (iSeq (eSl (eVar 0) (some (eVal (.int 1))) none)) (aName 2) tYes (eCall call "text_of" 1 [eVar 2])), sIf (tCmp .Eq (eIx (eVar 0) (eVal (.int 0))) (eVal (.str "not"))) [sRet (eJoin [eVal (.str "not "), eFmt (eIx (eVar 1) (eVal (.int 0)))])] [], sRet (eJoin [eVal (.str "("), eFmt (eIx (eVar 1) (eVal (.int 0))), eVal (.str " "), eFmt (eIx (eVar 0) (eVal (.int 0))), eVal (.str " "), eFmt (eIx (eVar 1) (eVal (.int 1))), eVal (.str ")")])]
theorem c_text_of (k : Nat) (ws : List W) (st : Sto) : callK g (k + 1) "text_of" ws st = runF 1 3 (b_text_of (callK g k)) ws st := rfl
def b_write_formula (call : CX1) : SX := sSeq [sDo (eCall call "check_formula" 1 [eVar 0]), sRet (eCall call "text_of" 1 [eVar 0])]
theorem c_write_formula (k : Nat) (ws : List W) (st : Sto) : callK g (k + 1) "write_formula" ws st = runF 1 1 (b_write_formula (callK g k)) ws st := rfl
def b_behind (call : CX1) : SX := sSeq [sAsg 3 (eBin .Add (eVar 1) (eBlt "len" [eVar 2])), sIf (tCmp .NotEq (eSl (eVar 0) (some (eVar 1)) (some (eVar 3))) (eVar 2)) [sNo] [], sRet (eVar 3)]
theorem c_behind (k : Nat) (ws : List W) (st : Sto) : callK g (k + 1) "behind" ws st = runF 3 4 (b_behind (callK g k)) ws st := rfl
def l_behind (call : CX1) (callR : RX1) : List (SX × ZS) := [(sAsg 3 (eBin .Add (eVar 1) (eBlt "len" [eVar 2])), zSt zNo), (sIf (tCmp .NotEq (eSl (eVar 0) (some (eVar 1)) (some (eVar 3))) (eVar 2)) [sNo] [], zIf (tCmp .NotEq (eSl (eVar 0) (some (eVar 1)) (some (eVar 3))) (eVar 2)) [(sNo, zRai "InvalidText" (eJoin [eVal (.str "no "), eFmtR (eVar 2), eVal (.str " where it has to stand")]))] []), (sRet (eVar 3), zSt zNo)]
def z_behind (call : CX1) (callR : RX1) : ZS := zSeq (l_behind call callR)
theorem r_behind (k : Nat) (ws : List W) (st : Sto) : callR g (k + 1) "behind" ws st = runZ 3 4 (z_behind (callK g k) (callR g k)) ws st := rfl
def b_read_part (call : CX1) : SX := sSeq [sIf (tTr (eCall call "is_leaf" 1 [eSl (eVar 0) (some (eVar 1)) (some (eBin .Add (eVar 1) (eVal (.int 1))))])) [sRet (eTup [eIx (eVar 0) (eVar 1), eBin .Add (eVar 1) (eVal (.int 1))])] [], sIf (tCmp .Eq (eVar 2) (eVal (.int 0))) [sNo] [], sIf (tCmp .Eq (eSl (eVar 0) (some (eVar 1)) (some (eBin .Add (eVar 1) (eVal (.int 1))))) (eVal (.str "("))) [sRet (eCall call "read_joined" 3 [eVar 0, eBin .Add (eVar 1) (eVal (.int 1)), eVar 2])] [], sTup [3, 4] (eCall call "read_part" 3 [eVar 0, eCall call "behind" 3 [eVar 0, eVar 1, eVal (.str "not ")], eBin .Sub (eVar 2) (eVal (.int 1))]), sRet (eTup [eTup [eVal (.str "not"), eVar 3], eVar 4])]
theorem c_read_part (k : Nat) (ws : List W) (st : Sto) : callK g (k + 1) "read_part" ws st = runF 3 5 (b_read_part (callK g k)) ws st := rfl
def l_read_part (call : CX1) (callR : RX1) : List (SX × ZS) := [(sIf (tTr (eCall call "is_leaf" 1 [eSl (eVar 0) (some (eVar 1)) (some (eBin .Add (eVar 1) (eVal (.int 1))))])) [sRet (eTup [eIx (eVar 0) (eVar 1), eBin .Add (eVar 1) (eVal (.int 1))])] [], zIf (tTr (eCall call "is_leaf" 1 [eSl (eVar 0) (some (eVar 1)) (some (eBin .Add (eVar 1) (eVal (.int 1))))])) [(sRet (eTup [eIx (eVar 0) (eVar 1), eBin .Add (eVar 1) (eVal (.int 1))]), zSt (zList [(eIx (eVar 0) (eVar 1), zIx (eVar 0) zNo (eVar 1) zNo), (eBin .Add (eVar 1) (eVal (.int 1)), zNo)]))] []), (sIf (tCmp .Eq (eVar 2) (eVal (.int 0))) [sNo] [], zIf (tCmp .Eq (eVar 2) (eVal (.int 0))) [(sNo, zRai "InvalidText" (eVal (.str "too many words one within another")))] []), (sIf (tCmp .Eq (eSl (eVar 0) (some (eVar 1)) (some (eBin .Add (eVar 1) (eVal (.int 1))))) (eVal (.str "("))) [sRet (eCall call "read_joined" 3 [eVar 0, eBin .Add (eVar 1) (eVal (.int 1)), eVar 2])] [], zIf (tCmp .Eq (eSl (eVar 0) (some (eVar 1)) (some (eBin .Add (eVar 1) (eVal (.int 1))))) (eVal (.str "("))) [(sRet (eCall call "read_joined" 3 [eVar 0, eBin .Add (eVar 1) (eVal (.int 1)), eVar 2]), zSt (zCall callR "read_joined" 3 [(eVar 0, zNo), (eBin .Add (eVar 1) (eVal (.int 1)), zNo), (eVar 2, zNo)]))] []), (sTup [3, 4] (eCall call "read_part" 3 [eVar 0, eCall call "behind" 3 [eVar 0, eVar 1, eVal (.str "not ")], eBin .Sub (eVar 2) (eVal (.int 1))]), zSt (zCall callR "read_part" 3 [(eVar 0, zNo), (eCall call "behind" 3 [eVar 0, eVar 1, eVal (.str "not ")], zCall callR "behind" 3 [(eVar 0, zNo), (eVar 1, zNo), (eVal (.str "not "), zNo)]), (eBin .Sub (eVar 2) (eVal (.int 1)), zNo)])), (sRet (eTup [eTup [eVal (.str "not"), eVar 3], eVar 4]), zSt (zList [(eTup [eVal (.str "not"), eVar 3], zList [(eVal (.str "not"), zNo), (eVar 3, zNo)]), (eVar 4, zNo)]))]
def z_read_part (call : CX1) (callR : RX1) : ZS := zSeq (l_read_part call callR)
theorem r_read_part (k : Nat) (ws : List W) (st : Sto) : callR g (k + 1) "read_part" ws st = runZ 3 5 (z_read_part (callK g k) (callR g k)) ws st := rfl
def b_read_joined (call : CX1) : SX := sSeq [sTup [3, 4] (eCall call "read_part" 3 [eVar 0, eVar 1, eBin .Sub (eVar 2) (eVal (.int 1))]), sAsg 5 (eIf (tCmp .Eq (eSl (eVar 0) (some (eVar 4)) (some (eBin .Add (eVar 4) (eVal (.int 5))))) (eVal (.str " and "))) (eVal (.str "and")) (eVal (.str "or"))), sTup [6, 4] (eCall call "read_part" 3 [eVar 0, eCall call "behind" 3 [eVar 0, eVar 4, eJoin [eVal (.str " "), eFmt (eVar 5), eVal (.str " ")]], eBin .Sub (eVar 2) (eVal (.int 1))]), sRet (eTup [eTup [eVar 5, eVar 3, eVar 6], eCall call "behind" 3 [eVar 0, eVar 4, eVal (.str ")")]])]
theorem c_read_joined (k : Nat) (ws : List W) (st : Sto) : callK g (k + 1) "read_joined" ws st = runF 3 7 (b_read_joined (callK g k)) ws st := rfl
def l_read_joined (call : CX1) (callR : RX1) : List (SX × ZS) := [(sTup [3, 4] (eCall call "read_part" 3 [eVar 0, eVar 1, eBin .Sub (eVar 2) (eVal (.int 1))]), zSt (zCall callR "read_part" 3 [(eVar 0, zNo), (eVar 1, zNo), (eBin .Sub (eVar 2) (eVal (.int 1)), zNo)])), (sAsg 5 (eIf (tCmp .Eq (eSl (eVar 0) (some (eVar 4)) (some (eBin .Add (eVar 4) (eVal (.int 5))))) (eVal (.str " and "))) (eVal (.str "and")) (eVal (.str "or"))), zSt zNo), (sTup [6, 4] (eCall call "read_part" 3 [eVar 0, eCall call "behind" 3 [eVar 0, eVar 4, eJoin [eVal (.str " "), eFmt (eVar 5), eVal (.str " ")]], eBin .Sub (eVar 2) (eVal (.int 1))]), zSt (zCall callR "read_part" 3 [(eVar 0, zNo), (eCall call "behind" 3 [eVar 0, eVar 4, eJoin [eVal (.str " "), eFmt (eVar 5), eVal (.str " ")]], zCall callR "behind" 3 [(eVar 0, zNo), (eVar 4, zNo), (eJoin [eVal (.str " "), eFmt (eVar 5), eVal (.str " ")], zNo)]), (eBin .Sub (eVar 2) (eVal (.int 1)), zNo)])), (sRet (eTup [eTup [eVar 5, eVar 3, eVar 6], eCall call "behind" 3 [eVar 0, eVar 4, eVal (.str ")")]]), zSt (zList [(eTup [eVar 5, eVar 3, eVar 6], zList [(eVar 5, zNo), (eVar 3, zNo), (eVar 6, zNo)]), (eCall call "behind" 3 [eVar 0, eVar 4, eVal (.str ")")], zCall callR "behind" 3 [(eVar 0, zNo), (eVar 4, zNo), (eVal (.str ")"), zNo)])]))]
def z_read_joined (call : CX1) (callR : RX1) : ZS := zSeq (l_read_joined call callR)
theorem r_read_joined (k : Nat) (ws : List W) (st : Sto) : callR g (k + 1) "read_joined" ws st = runZ 3 7 (z_read_joined (callK g k) (callR g k)) ws st := rfl
def b_read_formula (call : CX1) : SX := sSeq [sDo (eCall call "check_text" 1 [eVar 0]), sTup [1, 2] (eCall call "read_part" 3 [eVar 0, eVal (.int 0), eVal k_MOST_TUPLES]), sIf (tOr (tCmp .NotEq (eVar 2) (eBlt "len" [eVar 0])) (tNot (tTr (eCall call "is_formula" 1 [eVar 1])))) [sNo] [], sRet (eVar 1)]
theorem c_read_formula (k : Nat) (ws : List W) (st : Sto) : callK g (k + 1) "read_formula" ws st = runF 1 3 (b_read_formula (callK g k)) ws st := rfl
def lf_read_formula (call : CX1) (callR : RX1) : List (SX × ZS) := [(sDo (eCall call "check_text" 1 [eVar 0]), zSt (zCall callR "check_text" 1 [(eVar 0, zNo)])), (sTup [1, 2] (eCall call "read_part" 3 [eVar 0, eVal (.int 0), eVal k_MOST_TUPLES]), zSt (zCall callR "read_part" 3 [(eVar 0, zNo), (eVal (.int 0), zNo), (eVal k_MOST_TUPLES, zNo)])), (sIf (tOr (tCmp .NotEq (eVar 2) (eBlt "len" [eVar 0])) (tNot (tTr (eCall call "is_formula" 1 [eVar 1])))) [sNo] [], zIf (tOr (tCmp .NotEq (eVar 2) (eBlt "len" [eVar 0])) (tNot (tTr (eCall call "is_formula" 1 [eVar 1])))) [(sNo, zRai "InvalidText" (eVal (.str "more than a formula, or too large a one")))] []), (sRet (eVar 1), zSt zNo)]
theorem q_read_formula (k : Nat) (ws : List W) (st : Sto) : callF g (k + 1) "read_formula" ws st = runZ 1 3 (zSeq (lf_read_formula (callK g k) (callR g k))) ws st := rfl
def b__law_taken (call : CX1) : SX := sSeq [sIf (tCmp .Gt (eIx (eVar 0) (eVal (.int 3))) (eVal (.int 0))) [sAsg 3 (eBin .Mod (eBlt "int" [eIx (eVar 0) (eVal (.int 3))]) (eVar 1)), sSet (eVar 0) (eVal (.int 3)) (eBin .FloorDiv (eIx (eVar 0) (eVal (.int 3))) (eVar 1)), sRet (eVar 3)] [], sSet (eVar 0) (eVal (.int 1)) (eBin .Add (eIx (eVar 0) (eVal (.int 1))) (eVal (.int 1))), sIf (tCmp .Gt (eIx (eVar 0) (eVal (.int 1))) (eBlt "len" [eIx (eVar 0) (eVal (.int 0))])) [sSet (eVar 0) (eVal (.int 2)) (eBin .Mod (eBlt "int" [eBin .Add (eBin .Mult (eIx (eVar 0) (eVal (.int 2))) (eVal (.int 48271))) (eVal (.int 11))]) (eVal (.int 2147483647))), sRet (eBin .Mod (eBlt "int" [eBin .FloorDiv (eIx (eVar 0) (eVal (.int 2))) (eVal (.int 7))]) (eVar 1))] [], sAsg 2 (eIx (eIx (eVar 0) (eVal (.int 0))) (eBin .Sub (eIx (eVar 0) (eVal (.int 1))) (eVal (.int 1)))), sSet (eVar 0) (eVal (.int 2)) (eBin .Mod (eBlt "int" [eBin .Add (eBin .Add (eBin .Mult (eIx (eVar 0) (eVal (.int 2))) (eVal (.int 48271))) (eVar 2)) (eVal (.int 11))]) (eVal (.int 2147483647))), sIf (tCmp .GtE (eVar 2) (eBin .Pow (eVal (.int 10)) (eVal (.int 18)))) [sSet (eVar 0) (eVal (.int 3)) (eBin .FloorDiv (eVar 2) (eVar 1))] [], sRet (eBin .Mod (eBlt "int" [eVar 2]) (eVar 1))]
theorem c__law_taken (k : Nat) (ws : List W) (st : Sto) : callK g (k + 1) "_law_taken" ws st = runF 2 4 (b__law_taken (callK g k)) ws st := rfl
def b__law_pick (call : CX1) : SX := sSeq [sRet (eIx (eVar 1) (eCall call "_law_taken" 2 [eVar 0, eBlt "len" [eVar 1]]))]
theorem c__law_pick (k : Nat) (ws : List W) (st : Sto) : callK g (k + 1) "_law_pick" ws st = runF 2 2 (b__law_pick (callK g k)) ws st := rfl
def b__law_alike (call : CX1) : SX := sSeq [sIf (tTr (eBlt "isinstance" [eVar 1, eTup [eVal (.ty "tuple"), eVal (.ty "list")]])) [sIf (tOr (tNot (tTr (eBlt "isinstance" [eVar 0, eTup [eVal (.ty "tuple"), eVal (.ty "list")]]))) (tCmp .NotEq (eBlt "isinstance" [eVar 0, eVal (.ty "list")]) (eBlt "isinstance" [eVar 1, eVal (.ty "list")]))) [sRet (eVal (.bl false))] [], sIf (tCmp .NotEq (eBlt "len" [eVar 0]) (eBlt "len" [eVar 1])) [sRet (eVal (.bl false))] [], sRet (eCmp .Eq (eComp [2] (iRange (eBlt "len" [eVar 1])) (aName 2) (tNot (tTr (eCall call "_law_alike" 2 [eIx (eVar 0) (eVar 2), eIx (eVar 1) (eVar 2)]))) (eVar 2)) (eLst []))] [], sIf (tOr (tCmp .Is (eVar 1) (eVal .non)) (tTr (eBlt "isinstance" [eVar 1, eVal (.ty "str")]))) [sRet (eAnd (eCmp .Eq (eVar 0) (eVar 1)) (eCmp .Eq (eBlt "isinstance" [eVar 0, eVal (.ty "str")]) (eBlt "isinstance" [eVar 1, eVal (.ty "str")])))] [], sRet (eAnd (eBlt "isinstance" [eVar 0, eVal (.ty "int")]) (eAnd (eCmp .Eq (eBlt "isinstance" [eVar 0, eVal (.ty "bool")]) (eBlt "isinstance" [eVar 1, eVal (.ty "bool")])) (eCmp .Eq (eVar 0) (eVar 1))))]
theorem c__law_alike (k : Nat) (ws : List W) (st : Sto) : callK g (k + 1) "_law_alike" ws st = runF 2 3 (b__law_alike (callK g k)) ws st := rfl
def b__law_told (call : CX1) : SX := sSeq [sRet (eDict [(eVal (.str "as false"), eVal (.str "fffffffttft")), (eVal (.str "as true"), eVal (.str "ffttttttttf")), (eVal (.str "lazy"), eVal (.str "fuuuuuutuuu")), (eVal (.str "strong"), eVal (.str "ffuuuuuttuu")), (eVal (.str "weak"), eVal (.str "uuuuuuuuuuu"))])]
theorem c__law_told (k : Nat) (ws : List W) (st : Sto) : callK g (k + 1) "_law_told" ws st = runF 0 0 (b__law_told (callK g k)) ws st := rfl
def b__law_logic (call : CX1) : SX := sSeq [sPar 1 2 (eCall call "_law_taken" 2 [eVar 0, eVal (.int 4)]) (eVals (eCall call "_law_told" 0 [])), sNew 3 (eBlt "list" [eCall call "_law_pick" 2 [eVar 0, eVar 2]]), sIf (tCmp .Eq (eVar 1) (eVal (.int 1))) [sFor (iRange (eBin .Add (eVal (.int 1)) (eCall call "_law_taken" 2 [eVar 0, eVal (.int 2)]))) (aName 4) [sSet (eVar 3) (eCall call "_law_taken" 2 [eVar 0, eVal (.int 11)]) (eCall call "_law_pick" 2 [eVar 0, eLst [eVal (.str "f"), eVal (.str "t"), eVal (.str "u")]])]] [], sIf (tCmp .Eq (eVar 1) (eVal (.int 2))) [sTup [5, 6, 7] (eComp [4] (iRange (eVal (.int 3))) (aName 4) tYes (eCall call "_law_pick" 2 [eVar 0, eLst [eVal (.str "f"), eVal (.str "t"), eVal (.str "u")]])), sTup [8, 9, 10] (eComp [4] (iRange (eVal (.int 3))) (aName 4) tYes (eCall call "_law_pick" 2 [eVar 0, eLst [eVal (.str "f"), eVal (.str "t"), eVal (.str "u")]])), sNew 3 (eLst [eVal (.str "f"), eVal (.str "f"), eVar 5, eVar 5, eVar 6, eVar 8, eVar 8, eVal (.str "t"), eVal (.str "t"), eVar 9, eIf (tCmp .NotEq (eVar 7) (eVal (.str "u"))) (eVar 10) (eVal (.str "u"))])] [], sIf (tCmp .Eq (eVar 1) (eVal (.int 3))) [sNew 3 (eComp [4] (iRange (eVal (.int 11))) (aName 4) tYes (eCall call "_law_pick" 2 [eVar 0, eLst [eVal (.str "f"), eVal (.str "t"), eVal (.str "u")]]))] [], sRet (eBlt "tuple" [eVar 3])]
theorem c__law_logic (k : Nat) (ws : List W) (st : Sto) : callK g (k + 1) "_law_logic" ws st = runF 1 11 (b__law_logic (callK g k)) ws st := rfl
def b__law_formula (call : CX1) : SX := sSeq [sAsg 4 (eIf (tCmp .Gt (eVar 1) (eVal (.int 0))) (eCall call "_law_taken" 2 [eVar 0, eVal (.int 5)]) (eVal (.int 0))), sIf (tCmp .Eq (eVar 4) (eVal (.int 0))) [sRet (eCall call "_law_pick" 2 [eVar 0, eBin .Add (eVar 2) (eIf (tCmp .Eq (eCall call "_law_taken" 2 [eVar 0, eVal (.int 4)]) (eVal (.int 0))) (eVar 3) (eLst []))])] [], sIf (tCmp .Eq (eVar 4) (eVal (.int 1))) [sRet (eTup [eVal (.str "not"), eCall call "_law_formula" 4 [eVar 0, eBin .Sub (eVar 1) (eVal (.int 1)), eVar 2, eVar 3]])] [], sAsg 5 (eCall call "_law_formula" 4 [eVar 0, eBin .Sub (eVar 1) (eVal (.int 1)), eVar 2, eVar 3]), sRet (eTup [eCall call "_law_pick" 2 [eVar 0, eLst [eVal (.str "and"), eVal (.str "or")]], eVar 5, eCall call "_law_formula" 4 [eVar 0, eBin .Sub (eVar 1) (eVal (.int 1)), eVar 2, eVar 3]])]
theorem c__law_formula (k : Nat) (ws : List W) (st : Sto) : callK g (k + 1) "_law_formula" ws st = runF 4 6 (b__law_formula (callK g k)) ws st := rfl
def b__law_text (call : CX1) : SX := sSeq [sIf (tTr (eBlt "isinstance" [eVar 0, eVal (.ty "str")])) [sRet (eVar 0)] [], sAsg 1 (eComp [2] (iSeq (eSl (eVar 0) (some (eVal (.int 1))) none)) (aName 2) tYes (eCall call "_law_text" 1 [eVar 2])), sRet (eIf (tCmp .Eq (eBlt "len" [eVar 1]) (eVal (.int 1))) (eBin .Add (eVal (.str "not ")) (eIx (eVar 1) (eVal (.int 0)))) (eBin .Add (eBin .Add (eBin .Add (eBin .Add (eBin .Add (eBin .Add (eVal (.str "(")) (eIx (eVar 1) (eVal (.int 0)))) (eVal (.str " "))) (eIx (eVar 0) (eVal (.int 0)))) (eVal (.str " "))) (eIx (eVar 1) (eVal (.int 1)))) (eVal (.str ")"))))]
theorem c__law_text (k : Nat) (ws : List W) (st : Sto) : callK g (k + 1) "_law_text" ws st = runF 1 3 (b__law_text (callK g k)) ws st := rfl
def b__law_nots (call : CX1) : SX := sSeq [sAsg 2 (eVar 1), sFor (iRange (eVar 0)) (aName 3) [sAsg 2 (eTup [eVal (.str "not"), eVar 2])], sRet (eVar 2)]
theorem c__law_nots (k : Nat) (ws : List W) (st : Sto) : callK g (k + 1) "_law_nots" ws st = runF 2 4 (b__law_nots (callK g k)) ws st := rfl
def b_law (call : CX1) (callF : RX1) : SX := sSeq [sNew 1 (eLst [eVar 0, eVal (.int 0), eVal (.int 15648), eVal (.int 0)]), sPar 2 3 (eCall call "_law_logic" 1 [eVar 1]) (eCall call "_law_formula" 4 [eVar 1, eVal (.int 3), eLst [eVal (.str "a"), eVal (.str "b"), eVal (.str "e")], eLst [eVal (.str "f"), eVal (.str "t"), eVal (.str "u")]]), sIf (tOr (tCmp .NotEq (eCall call "write_logic" 1 [eVar 2]) (eMeth (eVal (.str "")) "join" [eVar 2])) (tNot (tTr (eCall call "_law_alike" 2 [eCall call "read_logic" 1 [eMeth (eVal (.str "")) "join" [eVar 2]], eVar 2])))) [sRet (eVal (.bl false))] [], sAsg 4 (eCall call "_law_text" 1 [eVar 3]), sIf (tOr (tCmp .NotEq (eCall call "write_formula" 1 [eVar 3]) (eVar 4)) (tNot (tTr (eCall call "_law_alike" 2 [eCall call "read_formula" 1 [eVar 4], eVar 3])))) [sRet (eVal (.bl false))] [], sAsg 5 (eMeth (eVal (.str "")) "join" [eVar 2]), sAsg 6 (eCall call "_law_pick" 2 [eVar 1, eLst [eVal (.str ""), eSl (eVar 5) none (some (eVal (.int 10))), eBin .Add (eVar 5) (eVal (.str "u")), eBin .Add (eBin .Add (eSl (eVar 5) none (some (eVal (.int 5)))) (eVal (.str "x"))) (eSl (eVar 5) (some (eVal (.int 6))) none), eBin .Add (eVal (.str " ")) (eSl (eVar 5) (some (eVal (.int 1))) none), eMeth0 (eVar 5) "upper", eVal (.str "strong")]]), sAsg 7 (eLst [eVal (.str ""), eVal (.str " "), eVal (.str "g"), eVal (.str "x"), eVal (.str "(a and b"), eVal (.str "a and b"), eVal (.str "(a  and b)"), eVal (.str "(a or b) "), eVal (.str " a"), eVal (.str "nota"), eVal (.str "not  a")]), sAsg 7 (eBinE (eVar 7) (eLst [eVal (.str "(a and b or c)"), eVal (.str "((a and b))"), eVal (.str "(a And b)"), eVal (.str "(a and bx"), eVal (.str "(not a or b]"), eVal (.str "not"), eVal (.str "not "), eVal (.str "()"), eVal (.str "(a and )"), eVal (.str "ab"), eVal (.str "(not a)")])), sAsg 8 (eBin .Add (eBin .Mult (eVal (.str "not ")) (eVal (.int 9))) (eVal (.str "a"))), sAsg 9 (eVal (.str "((((a and b) and (a and b)) and ((a and b) and (a and b))) and (((a and b) and (a and b)) and ((a and b) and (a and b))))")), sAsg 7 (eBinE (eVar 7) (eLst [eVar 8, eBin .Add (eBin .Add (eVal (.str "(")) (eVar 9)) (eVal (.str " or ((a or b) or ((a or b) or a)))")), eBin .Add (eVal (.str "(")) (eVar 4), eBin .Add (eVar 4) (eVal (.str ")"))])), sIf (tCmp .NotEq (eLst [eLam g "_law_word" (zCallF callF "read_logic" 1 [eVar 6]) (eCall call "read_logic" 1 [eVar 6]), eLam g "_law_word" (zCallF callF "read_formula" 1 [eCall call "_law_pick" 2 [eVar 1, eVar 7]]) (eCall call "read_formula" 1 [eCall call "_law_pick" 2 [eVar 1, eVar 7]])]) (eLst [eVal (.str "invalid"), eVal (.str "invalid")])) [sRet (eVal (.bl false))] [], sAsg 10 (eCall call "_law_pick" 2 [eVar 1, eLst [eVal .non, eVal (.int 5), eLst [eVal (.str "a")], eTup [eVal (.str "not"), eVal (.str "a")], eVal (.bl true)]]), sIf (tCmp .NotEq (eLst [eLam g "_law_word" (zCallF callF "read_logic" 1 [eVar 10]) (eCall call "read_logic" 1 [eVar 10]), eLam g "_law_word" (zCallF callF "read_formula" 1 [eVar 10]) (eCall call "read_formula" 1 [eVar 10])]) (eLst [eVal (.str "text"), eVal (.str "text")])) [sRet (eVal (.bl false))] [], sAsg 11 (eBin .Add (eBin .Mult (eLst [eCall call "_law_nots" 2 [eVal (.int 4), eVal (.str "b")]]) (eVal (.int 12))) (eBin .Mult (eLst [eTup [eVal (.str "and"), eCall call "_law_nots" 2 [eVal (.int 3), eVal (.str "c")], eCall call "_law_nots" 2 [eVal (.int 3), eVal (.str "d")]]]) (eVal (.int 4)))), sFor (iSeq (eLst [eVal (.int 8), eVal (.int 4), eVal (.int 2), eVal (.int 1)])) (aName 12) [sAsg 11 (eComp [13] (iRange (eVar 12)) (aName 13) tYes (eTup [eVal (.str "and"), eIx (eVar 11) (eBin .Mult (eVal (.int 2)) (eVar 13)), eIx (eVar 11) (eBin .Add (eBin .Mult (eVal (.int 2)) (eVar 13)) (eVal (.int 1)))]))], sIf (tOr (tCmp .NotEq (eBlt "len" [eCall call "_law_text" 1 [eIx (eVar 11) (eVal (.int 0))]]) (eVal (.int 441))) (tOr (tCmp .NotEq (eCall call "write_formula" 1 [eIx (eVar 11) (eVal (.int 0))]) (eCall call "_law_text" 1 [eIx (eVar 11) (eVal (.int 0))])) (tCmp .NotEq (eCall call "read_formula" 1 [eCall call "_law_text" 1 [eIx (eVar 11) (eVal (.int 0))]]) (eIx (eVar 11) (eVal (.int 0)))))) [sRet (eVal (.bl false))] [], sRet (eAnd (eCall call "_law_alike" 2 [eIx (eCall call "read_formula" 1 [eBin .Add (eBin .Mult (eVal (.str "not ")) (eVal (.int 8))) (eVal (.str "a"))]) (eVal (.int 0)), eVal (.str "not")]) (eCmp .Eq (eIx (eCall call "read_formula" 1 [eVar 9]) (eVal (.int 0))) (eVal (.str "and"))))]
theorem c_law (k : Nat) (ws : List W) (st : Sto) : callK g (k + 1) "law" ws st = runF 1 14 (b_law (callK g k) (callF g k)) ws st := rfl
end K08
namespace MP
open PySem
open L2 (atI ixN cutS Key)

/-! leaves -/
theorem obindL {α β : Type} {a a' : Option α} {f : α → Option β} (h : a = a') : a.bind f = a'.bind f := by rw [h]
theorem omapL {α β : Type} {a a' : Option α} {f : α → β} (h : a = a') : a.map f = a'.map f := by rw [h]
@[simp] theorem ix_obj0 (l : List W) (st : Sto) (i : Int) : ixW (.lst l :: st) (.obj 0) (.int i) = atI l i := Eq.trans rfl rfl
@[simp] theorem ixw_tup (st : Sto) (l : List W) (i : Int) : ixW st (.tup l) (.int i) = atI l i := Eq.trans rfl rfl
@[simp] theorem ix_lst (st : Sto) (l : List W) (i : Int) : ixW st (.lst l) (.int i) = atI l i := Eq.trans rfl rfl
@[simp] theorem ix_rl (st : Sto) (l : List W) (i : Int) : ixW st (.rl l) (.int i) = atI l i := Eq.trans rfl rfl
@[simp] theorem ix_dt (st : Sto) (ks : List (List Key)) (vs l : List W) : ixW st (.dt ks vs) (.tup l) = (keysOf l).bind fun k => getK ks vs k := Eq.trans rfl rfl
@[simp] theorem ix_dk (st : Sto) (ks : List Key) (vs : List W) (s : Str) : ixW st (.dk ks vs) (.str s) = getK ks vs (.inr s) := Eq.trans rfl rfl
@[simp] theorem ix_kd (st : Sto) (ks : List Str) (vs : List W) (s : Str) : ixW st (.kd ks vs) (.str s) = getK ks vs s := Eq.trans rfl rfl
theorem at_nat {l : List W} {i : Int} (h0 : 0 ≤ i) (h1 : i < l.length) : atI l i = l[i.toNat]? := by simp [atI, ixN, h0, h1]
theorem at_lit {l : List W} {n : Nat} {w : W} (h : l[n]? = some w) : atI l (n : Int) = some w := by
  have := (List.getElem?_eq_some_iff.mp h).1
  rw [at_nat (by omega) (by omega)]
  simpa using h
@[simp] theorem at0 (a : W) (l : List W) : atI (a :: l) 0 = some a := at_lit (n := 0) rfl
@[simp] theorem at1 (a b : W) (l : List W) : atI (a :: b :: l) 1 = some b := at_lit (n := 1) rfl
@[simp] theorem at2 (a b c : W) (l : List W) : atI (a :: b :: c :: l) 2 = some c := at_lit (n := 2) rfl
@[simp] theorem at3 (a b c d : W) (l : List W) : atI (a :: b :: c :: d :: l) 3 = some d := at_lit (n := 3) rfl
@[simp] theorem set_obj0 (l : List W) (st : Sto) (i : Int) (w : W) : setW (.lst l :: st) (.obj 0) (.int i) w = (ixN l.length i).map fun j => .lst (l.set j w) :: st := Eq.trans rfl rfl
@[simp] theorem b_int (st : Sto) (i : Int) : callB st "int" [.int i] = some (.int i) := Eq.trans rfl rfl
@[simp] theorem b_len_rl (st : Sto) (l : List W) : callB st "len" [.rl l] = some (.int (l.length : Nat)) := Eq.trans rfl rfl
@[simp] theorem b_len_lst (st : Sto) (l : List W) : callB st "len" [.lst l] = some (.int (l.length : Nat)) := Eq.trans rfl rfl
@[simp] theorem b_len_tup (st : Sto) (l : List W) : callB st "len" [.tup l] = some (.int (l.length : Nat)) := Eq.trans rfl rfl
theorem b_mod {i j : Int} (h : j ≠ 0) : binW .Mod (.int i) (.int j) = some (.int (i.fmod j)) := by simp [binW, h]
theorem b_fdiv {i j : Int} (h : j ≠ 0) (h' : j.natAbs < 1073741824) : binW .FloorDiv (.int i) (.int j) = some (.int (i.fdiv j)) := by simp [binW, h, h']
@[simp] theorem b_add (i j : Int) : binW .Add (.int i) (.int j) = some (.int (i + j)) := Eq.trans rfl rfl
@[simp] theorem b_sub (i j : Int) : binW .Sub (.int i) (.int j) = some (.int (i - j)) := Eq.trans rfl rfl
@[simp] theorem b_mulR {i j : Int} (h : -(2 ^ 64) < j ∧ j < 2 ^ 64) : binW .Mult (.int i) (.int j) = some (.int (i * j)) := by unfold binW; exact if_pos (.inr h)
@[simp] theorem b_pow18 : binW .Pow (.int 10) (.int 18) = some (.int (10 ^ 18)) := by unfold binW; exact if_pos (by decide)
@[simp] theorem c_gt (i j : Int) : cmpW .Gt (.int i) (.int j) = some (decide (j < i)) := Eq.trans rfl rfl
@[simp] theorem c_ge (i j : Int) : cmpW .GtE (.int i) (.int j) = some (decide (j ≤ i)) := Eq.trans rfl rfl
@[simp] theorem c_eqI (i j : Int) : cmpW .Eq (.int i) (.int j) = some (decide (i = j)) := Eq.trans rfl rfl
@[simp] theorem c_eqS (i j : Str) : cmpW .Eq (.str i) (.str j) = some (decide (i = j)) := Eq.trans rfl rfl
@[simp] theorem c_neS (i j : Str) : cmpW .NotEq (.str i) (.str j) = some (!decide (i = j)) := Eq.trans rfl rfl
@[simp] theorem c_neI (i j : Int) : cmpW .NotEq (.int i) (.int j) = some (!decide (i = j)) := Eq.trans rfl rfl
theorem still_ints : ∀ ns : List Int, stillA (ns.map .int) = true
  | [] => rfl
  | n :: ns => by simp [stillA, still, still_ints ns]
/-- the row of the numbers taken -/
abbrev rowO (ns : List Int) (p s v : Int) : O := .lst [.rl (ns.map .int), .int p, .int s, .int v]
@[simp] theorem still_row (ns : List Int) (p s v : Int) : stillO (.lst [.rl (ns.map .int), .int p, .int s, .int v]) = true := by simp [stillO, stillA, still, still_ints]
theorem int_at (ns : List Int) {p : Int} (h : 0 ≤ p) (h' : p < ns.length) : ∃ c, atI (ns.map W.int) p = some (.int c) := by
  rw [at_nat h (by simpa using h')]
  have : p.toNat < ns.length := by omega
  exact ⟨ns[p.toNat], by rw [List.getElem?_map, List.getElem?_eq_getElem this]; rfl⟩
/-! words, applied -/
@[simp] theorem x_eVar (i : Nat) (ρ : Rho) (st : Sto) : eVar i ρ st = (((ρ[i]?).bind fun w => w).map fun w => (w, st)) := rfl
@[simp] theorem x_eVal (w : W) (ρ : Rho) (st : Sto) : eVal w ρ st = (some (w, st)) := rfl
@[simp] theorem x_eBin (op : Operator) (a b : EX) (ρ : Rho) (st : Sto) : eBin op a b ρ st = ((a ρ st).bind fun (x, st1) => (b ρ st1).bind fun (y, st2) => (binW op x y).map fun w => (w, st2)) := rfl
@[simp] theorem x_eCmp (op : CmpOp) (a b : EX) (ρ : Rho) (st : Sto) : eCmp op a b ρ st = ((a ρ st).bind fun (x, st1) => (b ρ st1).bind fun (y, st2) => (cmpW op x y).map fun k => (.bl k, st2)) := rfl
@[simp] theorem x_tCmp (op : CmpOp) (a b : EX) (ρ : Rho) (st : Sto) : tCmp op a b ρ st = ((a ρ st).bind fun (x, st1) => (b ρ st1).bind fun (y, st2) => (cmpW op x y).map fun k => (k, st2)) := rfl
@[simp] theorem x_eBinE (a b : EX) (ρ : Rho) (st : Sto) : eBinE a b ρ st = ((a ρ st).bind fun (x, st1) => (b ρ st1).bind fun (y, st2) => (binE st2 x y).map fun w => (w, st2)) := rfl
@[simp] theorem x_eCmpE (op : CmpOp) (a b : EX) (ρ : Rho) (st : Sto) : eCmpE op a b ρ st = ((a ρ st).bind fun (x, st1) => (b ρ st1).bind fun (y, st2) => (cmpE st2 op x y).map fun k => (.bl k, st2)) := rfl
@[simp] theorem x_tCmpE (op : CmpOp) (a b : EX) (ρ : Rho) (st : Sto) : tCmpE op a b ρ st = ((a ρ st).bind fun (x, st1) => (b ρ st1).bind fun (y, st2) => (cmpE st2 op x y).map fun k => (k, st2)) := rfl
@[simp] theorem x_eNot (a : EX) (ρ : Rho) (st : Sto) : eNot a ρ st = ((a ρ st).bind fun (x, st1) => match x with
  | .bl k => some (.bl (!k), st1)
  | _ => none) := rfl
@[simp] theorem x_eNeg (a : EX) (ρ : Rho) (st : Sto) : eNeg a ρ st = ((a ρ st).bind fun (x, st1) => match x with
  | .int i => some (.int (-i), st1)
  | _ => none) := rfl
@[simp] theorem x_eAnd (a b : EX) (ρ : Rho) (st : Sto) : eAnd a b ρ st = ((a ρ st).bind fun (x, st1) => match x with
  | .bl k => if k = true then b ρ st1 else some (.bl false, st1)
  | _ => none) := rfl
@[simp] theorem x_eOr (a b : EX) (ρ : Rho) (st : Sto) : eOr a b ρ st = ((a ρ st).bind fun (x, st1) => match x with
  | .bl k => if k = true then some (.bl true, st1) else b ρ st1
  | _ => none) := rfl
@[simp] theorem x_tNot (a : TX) (ρ : Rho) (st : Sto) : tNot a ρ st = ((a ρ st).map fun (k, st1) => (!k, st1)) := rfl
@[simp] theorem x_tAnd (a b : TX) (ρ : Rho) (st : Sto) : tAnd a b ρ st = ((a ρ st).bind fun (k, st1) => if k = true then b ρ st1 else some (false, st1)) := rfl
@[simp] theorem x_tOr (a b : TX) (ρ : Rho) (st : Sto) : tOr a b ρ st = ((a ρ st).bind fun (k, st1) => if k = true then some (true, st1) else b ρ st1) := rfl
@[simp] theorem x_tTr (a : EX) (ρ : Rho) (st : Sto) : tTr a ρ st = ((a ρ st).bind fun (x, st1) => (truthW st1 x).map fun k => (k, st1)) := rfl
@[simp] theorem x_tYes (ρ : Rho) (st : Sto) : tYes  ρ st = (some (true, st)) := rfl
@[simp] theorem x_eIf (t : TX) (a b : EX) (ρ : Rho) (st : Sto) : eIf t a b ρ st = ((t ρ st).bind fun (k, st1) => if k = true then a ρ st1 else b ρ st1) := rfl
@[simp] theorem x_eList0  (ρ : Rho) (st : Sto) : eList [] ρ st = (some ([], st)) := rfl
@[simp] theorem x_eList1 (e : EX) (es : List EX) (ρ : Rho) (st : Sto) : eList (e :: es) ρ st = ((e ρ st).bind fun (w, st1) => (eList es ρ st1).bind fun (ws, st2) => some (w :: ws, st2)) := rfl
@[simp] theorem x_eTup (es : List EX) (ρ : Rho) (st : Sto) : eTup es ρ st = ((eList es ρ st).bind fun (ws, st1) => if ws.length ≤ sizeLine then some (.tup ws, st1) else none) := rfl
@[simp] theorem x_eTupS (es : List (Bool × EX)) (ρ : Rho) (st : Sto) : eTupS es ρ st = ((eListS es ρ st).bind fun (ws, st1) => if ws.length ≤ sizeLine then some (.tup ws, st1) else none) := rfl
@[simp] theorem x_eLst (es : List EX) (ρ : Rho) (st : Sto) : eLst es ρ st = ((eList es ρ st).bind fun (ws, st1) => if ws.length ≤ sizeLine then some (.lst ws, st1) else none) := rfl
@[simp] theorem x_ePart0  (ρ : Rho) (st : Sto) : ePart none ρ st = (some (none, st)) := rfl
@[simp] theorem x_ePart1 (e : EX) (ρ : Rho) (st : Sto) : ePart (some e) ρ st = ((e ρ st).bind fun (w, st1) => match w with
    | .int i => some (some i, st1)
    | _ => none) := rfl
@[simp] theorem x_eSl (a : EX) (lo hi : Option EX) (ρ : Rho) (st : Sto) : eSl a lo hi ρ st = ((a ρ st).bind fun (x, st1) => (ePart lo ρ st1).bind fun (l, st2) => (ePart hi ρ st2).bind fun (h, st3) => (slW x l h).map fun w => (w, st3)) := rfl
@[simp] theorem x_eIx (a b : EX) (ρ : Rho) (st : Sto) : eIx a b ρ st = ((a ρ st).bind fun (x, st1) => (b ρ st1).bind fun (y, st2) => (ixW st2 x y).map fun w => (w, st2)) := rfl
@[simp] theorem x_eCall (call : CX1) (f : Str) (n : Nat) (es : List EX) (ρ : Rho) (st : Sto) : eCall call f n es ρ st = ((eList es ρ st).bind fun (ws, st1) => if ws.length = n then call f ws st1 else none) := rfl
@[simp] theorem x_eBlt (f : Str) (es : List EX) (ρ : Rho) (st : Sto) : eBlt f es ρ st = ((eList es ρ st).bind fun (ws, st1) => (callB st1 f ws).map fun w => (w, st1)) := rfl
@[simp] theorem x_eCallV (gg : List (Str × Fn)) (call : CX1) (i : Nat) (es : List EX) (ρ : Rho) (st : Sto) : eCallV gg call i es ρ st = (((ρ[i]?).bind fun w => w).bind fun h => match h with
  | .fn h => (gg.lookup h).bind fun d => (eList es ρ st).bind fun (ws, st1) => if ws.length = d.ps.length then call h ws st1 else none
  | _ => none) := rfl
@[simp] theorem x_eMeth (a : EX) (m : Str) (es : List EX) (ρ : Rho) (st : Sto) : eMeth a m es ρ st = ((a ρ st).bind fun (w, st1) => (eList es ρ st1).bind fun (ws, st2) => (methB w m ws).map fun v => (v, st2)) := rfl
@[simp] theorem x_eMethT (call : CX1) (f : Str) (n : Nat) (as es : List EX) (ρ : Rho) (st : Sto) : eMethT call f n as es ρ st = ((eList as ρ st).bind fun (ws, st1) => if ws.length = n then (call f ws st1).bind fun (w, st2) => (eList es ρ st2).bind fun (vs, st3) => (methT w vs).map fun v => (v, st3) else none) := rfl
@[simp] theorem x_eSet (a : EX) (ρ : Rho) (st : Sto) : eSet a ρ st = ((a ρ st).bind fun (w, st1) => (match w with
  | .lst l => strsW l
  | .tup l => strsW l
  | _ => none).bind fun ks => if ks.length < 64 then some (.lst ((sortS (uniqS ks)).map .str), st1) else none) := rfl
@[simp] theorem x_eZipL (a b : EX) (ρ : Rho) (st : Sto) : eZipL a b ρ st = ((eList [a, b] ρ st).bind fun (ws, st1) => match ws with
    | [.lst l, .str t] => if l.length = t.cps.size then (dispK (l.zip (signs t)) [] []).map fun w => (w, st1) else none
    | _ => none) := rfl
@[simp] theorem x_eZip (a b : EX) (ρ : Rho) (st : Sto) : eZip a b ρ st = ((eList [a, b] ρ st).bind fun (ws, st1) => match ws with
  | [.tup l, .tup m] => (dispW (l.zip m)).map fun w => (w, st1)
  | _ => none) := rfl
@[simp] theorem x_eVals (a : EX) (ρ : Rho) (st : Sto) : eVals a ρ st = ((a ρ st).bind fun (w, st1) => match w with
  | .dk _ vs => some (.lst vs, st1)
  | _ => none) := rfl
@[simp] theorem x_ePairs0  (ρ : Rho) (st : Sto) : ePairs [] ρ st = (some ([], st)) := rfl
@[simp] theorem x_ePairs1 (k : EX) (v : EX) (r : List (EX × EX)) (ρ : Rho) (st : Sto) : ePairs ((k, v) :: r) ρ st = ((k ρ st).bind fun (x, st1) => (v ρ st1).bind fun (y, st2) => (ePairs r ρ st2).bind fun (ps, st3) => some ((x, y) :: ps, st3)) := rfl
@[simp] theorem x_eDict (ps : List (EX × EX)) (ρ : Rho) (st : Sto) : eDict ps ρ st = ((ePairs ps ρ st).bind fun (ps, st1) => (dispW ps).map fun w => (w, st1)) := rfl
@[simp] theorem x_iRange (e : EX) (ρ : Rho) (st : Sto) : iRange e ρ st = ((eList [e] ρ st).bind fun (ws, st1) => match ws with
  | [.int j] => if -(2 ^ 62) ≤ j ∧ j < 2 ^ 62 then some ((List.range j.toNat).map fun i => .int ((i : Nat) : Int), st1) else none
  | _ => none) := rfl
@[simp] theorem x_iEnum (e : EX) (ρ : Rho) (st : Sto) : iEnum e ρ st = ((eList [e] ρ st).bind fun (ws, st1) => match ws with
  | [w] => (rowW w).map fun l => (numW 0 l, st1)
  | _ => none) := rfl
@[simp] theorem x_iRow (e : EX) (ρ : Rho) (st : Sto) : iRow e ρ st = ((e ρ st).bind fun (w, st1) => match w with
  | .tup l => some (l, st1)
  | .lst l => some (l, st1)
  | .rl l => some (l, st1)
  | _ => none) := rfl
@[simp] theorem x_iSeq (e : EX) (ρ : Rho) (st : Sto) : iSeq e ρ st = ((e ρ st).bind fun (w, st1) => match w with
  | .tup l => some (l, st1)
  | .lst l => some (l, st1)
  | .rl l => some (l, st1)
  | .str s => some (signs s, st1)
  | _ => none) := rfl
@[simp] theorem x_aName (i : Nat) (w : W) (ρ : Rho) : aName i w ρ = (some (ρ.set i (some w))) := rfl
@[simp] theorem x_aTup (is : List Nat) (w : W) (ρ : Rho) : aTup is w ρ = (match w with
  | .tup l => asgL is l ρ
  | .lst l => asgL is l ρ
  | _ => none) := rfl
@[simp] theorem x_eComp (own : List Nat) (it : IX) (asg : AX) (tst : TX) (elt : EX) (ρ : Rho) (st : Sto) : eComp own it asg tst elt ρ st = ((it ρ st).bind fun (l, st1) => (compW asg tst elt (wipeR ρ own) l st1).bind fun (vs, st2) =>
  if vs.length ≤ sizeLine ∧ l.length < sizeLine then some (.lst vs, st2) else none) := rfl
@[simp] theorem x_eComp2 (own : List Nat) (it : IX) (asg : AX) (tst : TX) (own1 : List Nat) (it1 : IX) (asg1 : AX) (tst1 : TX) (elt : EX) (ρ : Rho) (st : Sto) : eComp2 own it asg tst own1 it1 asg1 tst1 elt ρ st = ((it ρ st).bind fun (l, st1) =>
  (compF asg tst (fun ρ1 st1 => (it1 ρ1 st1).bind fun (l1, st2) => compW asg1 tst1 elt (wipeR ρ1 own1) l1 st2) (wipeR ρ own) l st1).bind fun (vs, st2) =>
  if vs.length ≤ sizeLine then some (.lst vs, st2) else none) := rfl
@[simp] theorem x_sSeq0  (ρ : Rho) (st : Sto) : sSeq [] ρ st = (some (.nx ρ st)) := rfl
@[simp] theorem x_sSeq1 (s : SX) (ss : List SX) (ρ : Rho) (st : Sto) : sSeq (s :: ss) ρ st = ((s ρ st).bind fun o => match o with
    | .nx ρ1 st1 => sSeq ss ρ1 st1
    | o => some o) := rfl
@[simp] theorem x_sPass (ρ : Rho) (st : Sto) : sPass  ρ st = (some (.nx ρ st)) := rfl
@[simp] theorem x_sBrk (ρ : Rho) (st : Sto) : sBrk  ρ st = (some (.bk ρ st)) := rfl
@[simp] theorem x_sCnt (ρ : Rho) (st : Sto) : sCnt  ρ st = (some (.ct ρ st)) := rfl
@[simp] theorem x_sRet (e : EX) (ρ : Rho) (st : Sto) : sRet e ρ st = ((e ρ st).map fun (w, st1) => .rt w st1) := rfl
@[simp] theorem x_sNo (ρ : Rho) (st : Sto) : sNo  ρ st = (none) := rfl
@[simp] theorem x_sDo (e : EX) (ρ : Rho) (st : Sto) : sDo e ρ st = ((e ρ st).map fun (_, st1) => .nx ρ st1) := rfl
@[simp] theorem x_sIf (t : TX) (a b : List SX) (ρ : Rho) (st : Sto) : sIf t a b ρ st = ((t ρ st).bind fun (k, st1) => if k = true then sSeq a ρ st1 else sSeq b ρ st1) := rfl
@[simp] theorem x_sFor (it : IX) (asg : AX) (body : List SX) (ρ : Rho) (st : Sto) : sFor it asg body ρ st = ((it ρ st).bind fun (l, st1) => forW asg (sSeq body) l ρ st1) := rfl
@[simp] theorem x_sAsg (i : Nat) (e : EX) (ρ : Rho) (st : Sto) : sAsg i e ρ st = ((e ρ st).bind fun (w, st1) => some (.nx (ρ.set i (some w)) st1)) := rfl
@[simp] theorem x_sNew (i : Nat) (e : EX) (ρ : Rho) (st : Sto) : sNew i e ρ st = ((e ρ st).bind fun (w, st1) => (newO w).map fun o => .nx (ρ.set i (some (.obj st1.length))) (st1 ++ [o])) := rfl
@[simp] theorem x_sSet (a i e : EX) (ρ : Rho) (st : Sto) : sSet a i e ρ st = ((e ρ st).bind fun (w, st1) => (a ρ st1).bind fun (x, st2) => (i ρ st2).bind fun (y, st3) => (setW st3 x y w).map fun st4 => .nx ρ st4) := rfl
@[simp] theorem x_sTup (is : List Nat) (e : EX) (ρ : Rho) (st : Sto) : sTup is e ρ st = ((e ρ st).bind fun (w, st1) => (aTup is w ρ).map fun ρ1 => .nx ρ1 st1) := rfl
@[simp] theorem x_sPar (i j : Nat) (a b : EX) (ρ : Rho) (st : Sto) : sPar i j a b ρ st = ((a ρ st).bind fun (v, st1) => (b ρ st1).bind fun (w, st2) => some (.nx ((ρ.set i (some v)).set j (some w)) st2)) := rfl
@[simp] theorem x_eNew (ρ : Rho) (st : Sto) : eNew  ρ st = (some (.obj st.length, st ++ [.lst []])) := rfl
@[simp] theorem x_sTupN (is : List Nat) (es : List EX) (ρ : Rho) (st : Sto) : sTupN is es ρ st = ((eList es ρ st).bind fun (ws, st1) => (asgL is ws ρ).map fun ρ1 => .nx ρ1 st1) := rfl
@[simp] theorem x_sApp (i : Nat) (e : EX) (ρ : Rho) (st : Sto) : sApp i e ρ st = (((ρ[i]?).bind fun w => w).bind fun o => if lstB st o = true then (e ρ st).bind fun (w, st1) => (pushW st1 o w).map fun st2 => .nx ρ st2 else none) := rfl
@[simp] theorem x_sSui (i : Nat) (is : List Nat) (ρ : Rho) (st : Sto) : sSui i is ρ st = (((ρ[i]?).bind fun w => w).bind fun o => if lstB st o = true then (eNames is ρ).bind fun ws => if ws.length ≤ sizeLine then (pushW st o (.tup ws)).map fun st1 => .nx ρ st1 else none else none) := rfl
@[simp] theorem x_eMinD (a : EX) (ρ : Rho) (st : Sto) : eMinD a ρ st = ((a ρ st).bind fun (w, st1) => (minDW w).map fun v => (v, st1)) := rfl
@[simp] theorem x_eFmt (a : EX) (ρ : Rho) (st : Sto) : eFmt a ρ st = ((a ρ st).bind fun (w, st1) => match w with
  | .str y => if y.length ≤ sizeLine then some (.str y, st1) else none
  | _ => none) := rfl
@[simp] theorem x_eFmtR (a : EX) (ρ : Rho) (st : Sto) : eFmtR a ρ st = ((a ρ st).bind fun (w, st1) => match w with
  | .str y => if (reprText y).length ≤ sizeLine then some (.str (reprText y), st1) else none
  | _ => none) := rfl
@[simp] theorem x_eMeth0 (a : EX) (m : Str) (ρ : Rho) (st : Sto) : eMeth0 a m ρ st = ((a ρ st).bind fun (w, st1) => (methB0 w m).map fun v => (v, st1)) := rfl
@[simp] theorem x_eJoin (es : List EX) (ρ : Rho) (st : Sto) : eJoin es ρ st = ((eParts Str.empty es ρ st).map fun (s, st1) => (.str s, st1)) := rfl
@[simp] theorem x_sThru (b o : List SX) (ρ : Rho) (st : Sto) : sThru b o ρ st = (match sSeq b ρ st with
  | some (.nx ρ1 st1) => sSeq o ρ1 st1
  | x => x) := rfl
/-! by hand -/
@[simp] theorem z_out1 (st : Sto) (ρ : Rho) (st1 : Sto) : outF st (.nx ρ st1) = if (st1.take st.length).all stillO = true then some (.non, st1.take st.length) else none := rfl
@[simp] theorem z_out2 (st : Sto) (w : W) (st1 : Sto) : outF st (.rt w st1) = (back st.length w st1).bind fun v => if (st1.take st.length).all stillO = true then some (v, st1.take st.length) else none := rfl
@[simp] theorem z_run (n k : Nat) (b : SX) (ws : List W) (st : Sto) : runF n k b ws st = if ws.length = n then (b (ws.map some ++ List.replicate (k - ws.length) none) st).bind fun o => outF st o else none := rfl
@[simp] theorem z_as0 (ρ : Rho) : asgL [] [] ρ = some ρ := rfl
@[simp] theorem z_as1 (i : Nat) (is : List Nat) (w : W) (ws : List W) (ρ : Rho) : asgL (i :: is) (w :: ws) ρ = asgL is ws (ρ.set i (some w)) := rfl
@[simp] theorem z_wi0 (ρ : Rho) : wipeR ρ [] = ρ := rfl
@[simp] theorem z_wi1 (ρ : Rho) (v : Nat) (vs : List Nat) : wipeR ρ (v :: vs) = (wipeR ρ vs).set v none := rfl
@[simp] theorem z_ba1 (n : Nat) (st : Sto) : back n .non st = some .non := rfl
@[simp] theorem z_ba2 (n : Nat) (b : Bool) (st : Sto) : back n (.bl b) st = some (.bl b) := rfl
@[simp] theorem z_ba3 (n : Nat) (i : Int) (st : Sto) : back n (.int i) st = some (.int i) := rfl
@[simp] theorem z_ba4 (n : Nat) (x : Str) (st : Sto) : back n (.str x) st = some (.str x) := rfl
@[simp] theorem z_ba5 (n : Nat) (l : List W) (st : Sto) : back n (.tup l) st = if stillA l = true then some (.tup l) else none := rfl
@[simp] theorem z_ba6 (n : Nat) (l : List W) (st : Sto) : back n (.lst l) st = if stillA l = true then some (.lst l) else none := rfl
@[simp] theorem z_ba7 (n : Nat) (ks : List Key) (l : List W) (st : Sto) : back n (.dk ks l) st = if stillA l = true then some (.dk ks l) else none := rfl
@[simp] theorem z_ba8 (n : Nat) (ks : List (List Key)) (l : List W) (st : Sto) : back n (.dt ks l) st = if stillA l = true then some (.dt ks l) else none := rfl
@[simp] theorem z_ba9 (n m : Nat) (st : Sto) : back n (.obj m) st = if m < n then none else match st[m]? with
    | some (.lst l) => if stillA l = true then some (.lst l) else none
    | some (.dk ks l) => if stillA l = true then some (.dk ks l) else none
    | some (.dt ks l) => if stillA l = true then some (.dt ks l) else none
    | none => none := rfl
@[simp] theorem z_st1 : still .non = true := rfl
@[simp] theorem z_st2 (b : Bool) : still (.bl b) = true := rfl
@[simp] theorem z_st3 (i : Int) : still (.int i) = true := rfl
@[simp] theorem z_st4 (x : Str) : still (.str x) = true := rfl
@[simp] theorem z_ls0 (ρ : Rho) (st : Sto) : eListS [] ρ st = some ([], st) := rfl
@[simp] theorem z_ls1 (e : EX) (es : List (Bool × EX)) (ρ : Rho) (st : Sto) : eListS ((true, e) :: es) ρ st = (e ρ st).bind fun (w, st1) => (rowW w).bind fun l => (eListS es ρ st1).bind fun (ws, st2) => some (l ++ ws, st2) := rfl
@[simp] theorem z_ls2 (e : EX) (es : List (Bool × EX)) (ρ : Rho) (st : Sto) : eListS ((false, e) :: es) ρ st = (e ρ st).bind fun (w, st1) => (eListS es ρ st1).bind fun (ws, st2) => some (w :: ws, st2) := rfl
@[simp] theorem z_row1 (l : List W) : rowW (.tup l) = some l := rfl
@[simp] theorem z_row2 (l : List W) : rowW (.lst l) = some l := rfl
end MP
namespace K08
open PySem MP
open L2 (atI ixN cutS)
@[simp] theorem n1 : ixN 4 1 = some 1 := by decide
@[simp] theorem n2 : ixN 4 2 = some 2 := by decide
@[simp] theorem n3 : ixN 4 3 = some 3 := by decide
theorem taken {K : Nat} (hK : 0 < K) (ns : List Int) {p s v m : Int} (rest : Sto) (hp : 0 ≤ p) (hm : 0 < m) (hm2 : m < 1073741824) (hr : rest.all stillO = true) :
   ∃ i p' s' v', 0 ≤ p' ∧ 0 ≤ i ∧ i < m ∧ callK g K "_law_taken" [.obj 0, .int m] (rowO ns p s v :: rest) = some (.int i, rowO ns p' s' v' :: rest) := by
  obtain ⟨k, rfl⟩ : ∃ k, K = k + 1 := ⟨K - 1, by omega⟩
  have hm0 : m ≠ 0 := by omega
  have hm3 : m.natAbs < 1073741824 := by omega
  have e1 : ∀ i : Int, binW .Mod (.int i) (.int m) = some (.int (i.fmod m)) := fun i => b_mod hm0
  have e2 : ∀ i : Int, binW .FloorDiv (.int i) (.int m) = some (.int (i.fdiv m)) := fun i => b_fdiv hm0 hm3
  have e3 : ∀ i : Int, binW .Mod (.int i) (.int 2147483647) = some (.int (i.fmod 2147483647)) := fun i => b_mod (by decide)
  have e4 : ∀ i : Int, binW .FloorDiv (.int i) (.int 7) = some (.int (i.fdiv 7)) := fun i => b_fdiv (by decide) (by decide)
  have lo : ∀ i : Int, 0 ≤ i.fmod m := fun i => Int.fmod_nonneg_of_pos i hm
  have hi : ∀ i : Int, i.fmod m < m := fun i => Int.fmod_lt_of_pos i hm
  have hr' : ∀ x, x ∈ rest → stillO x = true := by simpa using hr
  rw [c__law_taken]
  by_cases hv : 0 < v
  · refine ⟨v.fmod m, p, s, v.fdiv m, hp, lo _, hi _, ?_⟩
    simp [b__law_taken, hv, e1, e2]
    exact hr'
  · by_cases hl : (ns.length : Int) < p + 1
    · refine ⟨(((s * 48271 + 11).fmod 2147483647).fdiv 7).fmod m, p + 1, (s * 48271 + 11).fmod 2147483647, v, by omega, lo _, hi _, ?_⟩
      simp [b__law_taken, hv, e1, e2, e3, e4, hl]
      exact hr'
    · obtain ⟨c, hc⟩ := int_at ns hp (by omega)
      have hp1 : p + 1 - 1 = p := by omega
      by_cases hb : (1000000000000000000 : Int) ≤ c
      · refine ⟨c.fmod m, p + 1, (s * 48271 + c + 11).fmod 2147483647, c.fdiv m, by omega, lo _, hi _, ?_⟩
        simp [b__law_taken, hv, e1, e2, e3, e4, hl, hp1, hc, hb]
        exact hr'
      · refine ⟨c.fmod m, p + 1, (s * 48271 + c + 11).fmod 2147483647, v, by omega, lo _, hi _, ?_⟩
        simp [b__law_taken, hv, e1, e2, e3, e4, hl, hp1, hc, hb]
        exact hr'
theorem pick {K : Nat} (hK : 1 < K) (ns : List Int) {p s v : Int} (rest : Sto) (hp : 0 ≤ p) (hr : rest.all stillO = true) (ss : List Str) (h0 : ss ≠ []) (h1 : ss.length < 1073741824) :
    ∃ x p' s' v', x ∈ ss ∧ 0 ≤ p' ∧ callK g K "_law_pick" [.obj 0, .lst (ss.map .str)] (rowO ns p s v :: rest) = some (.str x, rowO ns p' s' v' :: rest) := by
  obtain ⟨k, rfl⟩ : ∃ k, K = k + 1 := ⟨K - 1, by omega⟩
  have hl : 0 < ss.length := List.length_pos_iff.mpr h0
  obtain ⟨i, p', s', v', a1, a2, a3, a4⟩ := taken (K := k) (by omega) ns (m := (ss.length : Nat)) (s := s) (v := v) rest hp (by omega) (by omega) hr
  have hi : i.toNat < ss.length := by omega
  refine ⟨ss[i.toNat], p', s', v', List.getElem_mem _, a1, ?_⟩
  rw [c__law_pick]
  have e : atI (ss.map W.str) i = some (.str ss[i.toNat]) := by
    rw [at_nat a2 (by simpa using a3), List.getElem?_map, List.getElem?_eq_getElem hi]
    rfl
  simp [b__law_pick, a4, e]
  simpa using hr
theorem told {K : Nat} (hK : 0 < K) (st : Sto) (hr : st.all stillO = true) : callK g K "_law_told" [] st = some (.dk [.inr "as false", .inr "as true", .inr "lazy", .inr "strong", .inr "weak"] [.str "fffffffttft", .str "ffttttttttf", .str "fuuuuuutuuu", .str "ffuuuuuttuu", .str "uuuuuuuuuuu"], st) := by
  obtain ⟨k, rfl⟩ : ∃ k, K = k + 1 := ⟨K - 1, by omega⟩
  rw [c__law_told]
  have e : dispW [(.str "as false", .str "fffffffttft"), (.str "as true", .str "ffttttttttf"), (.str "lazy", .str "fuuuuuutuuu"), (.str "strong", .str "ffuuuuuttuu"), (.str "weak", .str "uuuuuuuuuuu")] = some (.dk [.inr "as false", .inr "as true", .inr "lazy", .inr "strong", .inr "weak"] [.str "fffffffttft", .str "ffttttttttf", .str "fuuuuuutuuu", .str "ffuuuuuttuu", .str "uuuuuuuuuuu"]) := rfl
  simp [b__law_told, e, stillA]
  simpa using hr
end K08
namespace K08
open PySem MP
open L2 (atI ixN cutS)
abbrev ftu : List Str := ["f", "t", "u"]
def Good (n : Nat) (l : List Str) : Prop := l.length = n ∧ ∀ x ∈ l, x ∈ ftu
theorem still_strs : ∀ l : List Str, stillA (l.map .str) = true
  | [] => rfl
  | n :: ns => by simp [stillA, still, still_strs ns]
theorem pick3 {K : Nat} (hK : 1 < K) (ns : List Int) {p s v : Int} (rest : Sto) (hp : 0 ≤ p) (hr : rest.all stillO = true) :
    ∃ x p' s' v', x ∈ ftu ∧ 0 ≤ p' ∧ callK g K "_law_pick" [.obj 0, .lst [.str "f", .str "t", .str "u"]] (rowO ns p s v :: rest) = some (.str x, rowO ns p' s' v' :: rest) :=
  pick hK ns rest hp hr ftu (by simp) (by decide)
abbrev ePick (K : Nat) : EX := eCall (callK g K) "_law_pick" 2 [eVar 0, eLst [eVal (.str "f"), eVal (.str "t"), eVal (.str "u")]]
theorem small_sz : 3 ≤ sizeLine := by decide
theorem ePick_at {K : Nat} (hK : 1 < K) (ns : List Int) {p s v : Int} (rest : Sto) (hp : 0 ≤ p) (hr : rest.all stillO = true) (ρ : Rho) (h0 : ρ[0]? = some (some (.obj 0))) :
    ∃ x p' s' v', x ∈ ftu ∧ 0 ≤ p' ∧ ePick K ρ (rowO ns p s v :: rest) = some (.str x, rowO ns p' s' v' :: rest) := by
  obtain ⟨x, p', s', v', h1, h2, h3⟩ := pick3 hK ns (p := p) (s := s) (v := v) rest hp hr
  refine ⟨x, p', s', v', h1, h2, ?_⟩
  simp [ePick, h0, h3, small_sz]
theorem comp_pick {K : Nat} (hK : 1 < K) (ns : List Int) (rest : Sto) (hr : rest.all stillO = true) (ρ : Rho) (h0 : ρ[0]? = some (some (.obj 0))) : ∀ (l : List W) {p s v : Int}, 0 ≤ p →
    ∃ ss p' s' v', Good l.length ss ∧ 0 ≤ p' ∧ compW (aName 4) tYes (ePick K) ρ l (rowO ns p s v :: rest) = some (ss.map .str, rowO ns p' s' v' :: rest)
  | [], p, s, v, hp => ⟨[], p, s, v, ⟨rfl, by simp⟩, hp, rfl⟩
  | w :: l, p, s, v, hp => by
    obtain ⟨x, p1, s1, v1, h1, h2, h3⟩ := ePick_at hK ns (p := p) (s := s) (v := v) rest hp hr (ρ.set 4 (some w)) (by rw [List.getElem?_set_ne (by decide)]; exact h0)
    obtain ⟨ss, p2, s2, v2, ⟨h4, h5⟩, h6, h7⟩ := comp_pick hK ns rest hr ρ h0 l (p := p1) (s := s1) (v := v1) h2
    refine ⟨x :: ss, p2, s2, v2, ⟨by simp [h4], fun y hy => ?_⟩, h6, ?_⟩
    · rcases List.mem_cons.mp hy with rfl | hy
      · exact h1
      · exact h5 y hy
    · unfold compW
      simp only [aName, tYes, Option.bind_some, if_true]
      rw [h3]
      simp only [Option.bind_some]
      rw [h7]
      rfl
/-- kind 1 -/
abbrev body1 (K : Nat) : List SX := [sSet (eVar 3) (eCall (callK g K) "_law_taken" 2 [eVar 0, eVal (.int 11)]) (ePick K)]
theorem still_one {l : List Str} : List.all [O.lst (l.map .str)] stillO = true := by simp [stillO, still_strs]
theorem set_good {n : Nat} {l : List Str} {x : Str} (j : Nat) (h : Good n l) (hx : x ∈ ftu) : Good n (l.set j x) := by
  refine ⟨by simp [h.1], fun y hy => ?_⟩
  rcases List.mem_or_eq_of_mem_set hy with h' | h'
  · exact h.2 y h'
  · rw [h']; exact hx
theorem loop1 {K : Nat} (hK : 1 < K) (ns : List Int) : ∀ (ws : List W) (ρ : Rho) (l : List Str) {p s v : Int}, ρ[0]? = some (some (.obj 0)) → ρ[3]? = some (some (.obj 1)) → Good 11 l → 0 ≤ p →
    ∃ ρ' l' p' s' v', ρ'[0]? = some (some (.obj 0)) ∧ ρ'[3]? = some (some (.obj 1)) ∧ ρ'[1]? = ρ[1]? ∧ Good 11 l' ∧ 0 ≤ p' ∧ forW (aName 4) (sSeq (body1 K)) ws ρ [rowO ns p s v, .lst (l.map .str)] = some (.nx ρ' [rowO ns p' s' v', .lst (l'.map .str)])
  | [], ρ, l, p, s, v, h0, h3, hg, hp => ⟨ρ, l, p, s, v, h0, h3, rfl, hg, hp, rfl⟩
  | w :: ws, ρ, l, p, s, v, h0, h3, hg, hp => by
    have a0 : (ρ.set 4 (some w))[0]? = some (some (.obj 0)) := by rw [List.getElem?_set_ne (by decide)]; exact h0
    have a3 : (ρ.set 4 (some w))[3]? = some (some (.obj 1)) := by rw [List.getElem?_set_ne (by decide)]; exact h3
    obtain ⟨x, p1, s1, v1, b1, b2, b3⟩ := ePick_at hK ns (p := p) (s := s) (v := v) [.lst (l.map .str)] hp still_one (ρ.set 4 (some w)) a0
    obtain ⟨i, p2, s2, v2, c1, c2, c3, c4⟩ := taken (K := K) (by omega) ns (m := 11) (p := p1) (s := s1) (v := v1) [.lst (l.map .str)] b2 (by decide) (by decide) still_one
    have hs : setW (rowO ns p2 s2 v2 :: [.lst (l.map .str)]) (.obj 1) (.int i) (.str x) = some (rowO ns p2 s2 v2 :: [.lst ((l.set i.toNat x).map .str)]) := by
      have : ixN (l.map W.str).length i = some i.toNat := by simp [ixN, c2, hg.1, c3]
      simp only [setW]
      show (ixN (l.map W.str).length i).map _ = _
      rw [this]
      simp [List.map_set]
    obtain ⟨ρ', l', p', s', v', d0, d3, d1, d4, d5, d6⟩ := loop1 hK ns ws (ρ.set 4 (some w)) (l.set i.toNat x) (p := p2) (s := s2) (v := v2) a0 a3 (set_good _ hg b1) c1
    refine ⟨ρ', l', p', s', v', d0, d3, by rw [d1, List.getElem?_set_ne (by decide)], d4, d5, ?_⟩
    unfold forW
    simp only [aName, Option.bind_some]
    have one : sSeq (body1 K) (ρ.set 4 (some w)) [rowO ns p s v, .lst (l.map .str)] = some (.nx (ρ.set 4 (some w)) [rowO ns p2 s2 v2, .lst ((l.set i.toNat x).map .str)]) := by
      simp only [sSeq, body1, sSet]
      rw [b3]
      simp only [Option.bind_some, eVar, a3, eCall, eList, a0, eVal, Option.map_some, List.length_cons, List.length_nil, if_true]
      rw [c4]
      simp only [Option.bind_some]
      rw [hs]
      rfl
    rw [one]
    exact d6
end K08
namespace K08
open PySem MP
open L2 (atI ixN cutS)
abbrev five : List Str := ["fffffffttft", "ffttttttttf", "fuuuuuutuuu", "ffuuuuuttuu", "uuuuuuuuuuu"]
theorem five_good (st : Sto) : ∀ x ∈ five, ∃ l, Good 11 l ∧ callB st "list" [.str x] = some (.lst (l.map .str)) := by
  intro x hx
  have h : ∀ l : List Str, x = ⟨(l.map fun c => c.cps.toList.headD 0).toArray⟩ → Good 11 l → l.map (fun c => (⟨#[c.cps.toList.headD 0]⟩ : Str)) = l → ∃ l, Good 11 l ∧ callB st "list" [.str x] = some (.lst (l.map .str)) := fun l e g e2 => by
    refine ⟨l, g, ?_⟩
    have hz : x.length ≤ sizeLine := by
      rw [e]
      show (List.toArray _).size ≤ _
      simp [g.1]
      decide
    show (if x.length ≤ sizeLine then some (W.lst (signs x)) else none) = _
    rw [if_pos hz, e]
    unfold signs
    simp only [List.toList_toArray, List.map_map]
    congr 2
    conv => rhs; rw [← e2]
    rw [List.map_map]
    rfl
  simp only [five, List.mem_cons, List.not_mem_nil, or_false] at hx
  rcases hx with hx | hx | hx | hx | hx
  · exact h ["f","f","f","f","f","f","f","t","t","f","t"] (by rw [hx]; decide +kernel) ⟨rfl, by decide +kernel⟩ (by decide +kernel)
  · exact h ["f","f","t","t","t","t","t","t","t","t","f"] (by rw [hx]; decide +kernel) ⟨rfl, by decide +kernel⟩ (by decide +kernel)
  · exact h ["f","u","u","u","u","u","u","t","u","u","u"] (by rw [hx]; decide +kernel) ⟨rfl, by decide +kernel⟩ (by decide +kernel)
  · exact h ["f","f","u","u","u","u","u","t","t","u","u"] (by rw [hx]; decide +kernel) ⟨rfl, by decide +kernel⟩ (by decide +kernel)
  · exact h ["u","u","u","u","u","u","u","u","u","u","u"] (by rw [hx]; decide +kernel) ⟨rfl, by decide +kernel⟩ (by decide +kernel)
theorem tup_obj (st : Sto) (n : Nat) (l : List W) (h : st[n]? = some (.lst l)) : callB st "tuple" [.obj n] = some (.tup l) := by
  show (itemsW st (.obj n)).map W.tup = _
  simp [itemsW, h]
theorem logic {K : Nat} (hK : 2 < K) (ns : List Int) {p s v : Int} (hp : 0 ≤ p) :
    ∃ l p' s' v', Good 11 l ∧ 0 ≤ p' ∧ callK g K "_law_logic" [.obj 0] [rowO ns p s v] = some (.tup (l.map .str), [rowO ns p' s' v']) := by
  obtain ⟨k, rfl⟩ : ∃ k, K = k + 1 := ⟨K - 1, by omega⟩
  obtain ⟨i, p1, s1, v1, a1, a2, a3, a4⟩ := taken (K := k) (by omega) ns (m := 4) (p := p) (s := s) (v := v) [] hp (by decide) (by decide) rfl
  have a5 := told (K := k) (by omega) [rowO ns p1 s1 v1] (by simp [still_row])
  obtain ⟨x, p2, s2, v2, b1, b2, b3⟩ := pick (K := k) (by omega) ns (p := p1) (s := s1) (v := v1) [] a1 rfl five (by simp) (by decide)
  obtain ⟨l, hg, hl⟩ := five_good [rowO ns p2 s2 v2] x b1
  simp only [five, List.map_cons, List.map_nil] at b3
  rw [c__law_logic]
  have hi : i = 0 ∨ i = 1 ∨ i = 2 ∨ i = 3 := by omega
  rcases hi with rfl | rfl | rfl | rfl
  · refine ⟨l, p2, s2, v2, hg, b2, ?_⟩
    simp [b__law_logic, a4, a5, b3, hl, newO, tup_obj, still_strs]
  · obtain ⟨j, p3, s3, v3, c1, c2, c3, c4⟩ := taken (K := k) (by omega) ns (m := 2) (p := p2) (s := s2) (v := v2) [.lst (l.map .str)] b2 (by decide) (by decide) still_one
    obtain ⟨ρ', l', p', s', v', d0, d3, d1, d4, d5, d6⟩ := loop1 (K := k) (by omega) ns ((List.range (1 + j).toNat).map fun i => .int ((i : Nat) : Int)) [some (.obj 0), some (.int 1), some (.lst (five.map .str)), some (.obj 1), none, none, none, none, none, none, none] l (p := p3) (s := s3) (v := v3) rfl rfl hg c1
    refine ⟨l', p', s', v', d4, d5, ?_⟩
    have hr : (-(2 ^ 62) : Int) ≤ 1 + j ∧ 1 + j < 2 ^ 62 := by omega
    simp only [five, List.map_cons, List.map_nil, body1, ePick] at d6
    have d1' : ρ'[1]? = some (some (.int 1)) := d1
    have hr1 : (-4611686018427387904 : Int) ≤ 1 + j := by omega
    have hr2 : 1 + j < (4611686018427387904 : Int) := by omega
    simp [b__law_logic, a4, a5, b3, hl, newO, c4, hr1, hr2, d6, d0, d1', d3, tup_obj, still_strs]
  · obtain ⟨s1', p3, s3, v3, ⟨c1, c1'⟩, c2, c3⟩ := comp_pick (K := k) (by omega) ns [.lst (l.map .str)] still_one [some (.obj 0), some (.int 2), some (.lst (five.map .str)), some (.obj 1), none, none, none, none, none, none, none] rfl [.int 0, .int 1, .int 2] (p := p2) (s := s2) (v := v2) b2
    match s1', c1, c1', c3 with
    | [a, b, c], _, ha, c3 =>
      obtain ⟨s2', p4, s4, v4, ⟨d1, d1'⟩, d2, d3⟩ := comp_pick (K := k) (by omega) ns [.lst (l.map .str)] still_one [some (.obj 0), some (.int 2), some (.lst (five.map .str)), some (.obj 1), none, some (.str a), some (.str b), some (.str c), none, none, none] rfl [.int 0, .int 1, .int 2] (p := p3) (s := s3) (v := v3) c2
      match s2', d1, d1', d3 with
      | [x', y, z], _, hx, d3 =>
        have m : ∀ {l : List Str} {q : Str}, (∀ x ∈ l, x ∈ ftu) → q ∈ l → q ∈ ftu := fun h h' => h _ h'
        simp only [five, List.map_cons, List.map_nil, ePick] at c3 d3
        have r3 : List.map (fun i => W.int ((i : Nat) : Int)) (List.range 3) = [.int 0, .int 1, .int 2] := rfl
        have a1' : a ∈ ftu := ha a (by simp)
        have b1' : b ∈ ftu := ha b (by simp)
        have x1' : x' ∈ ftu := hx x' (by simp)
        have y1' : y ∈ ftu := hx y (by simp)
        have z1' : z ∈ ftu := hx z (by simp)
        have f1' : ("f" : Str) ∈ ftu := by simp
        have t1' : ("t" : Str) ∈ ftu := by simp
        have u1' : ("u" : Str) ∈ ftu := by simp
        have all : ∀ q ∈ ftu, ∀ w ∈ (["f", "f", a, a, b, x', x', "t", "t", y, q] : List Str), w ∈ ftu := by
          intro q hq w hw
          simp only [List.mem_cons, List.not_mem_nil, or_false] at hw
          rcases hw with e | e | e | e | e | e | e | e | e | e | e <;> (rw [e]; assumption)
        by_cases hc : c = "u"
        · subst hc
          refine ⟨["f", "f", a, a, b, x', x', "t", "t", y, "u"], p4, s4, v4, ⟨rfl, all _ u1'⟩, d2, ?_⟩
          simp [b__law_logic, a4, a5, b3, hl, newO, r3, c3, d3, tup_obj, still_strs, sizeLine_eq, stillA]
        · refine ⟨["f", "f", a, a, b, x', x', "t", "t", y, z], p4, s4, v4, ⟨rfl, all _ z1'⟩, d2, ?_⟩
          simp [b__law_logic, a4, a5, b3, hl, newO, r3, c3, d3, hc, tup_obj, still_strs, sizeLine_eq, stillA]
  · obtain ⟨s1', p3, s3, v3, hg2, c2, c3⟩ := comp_pick (K := k) (by omega) ns [.lst (l.map .str)] still_one [some (.obj 0), some (.int 3), some (.lst (five.map .str)), some (.obj 1), none, none, none, none, none, none, none] rfl ((List.range 11).map fun i => .int ((i : Nat) : Int)) (p := p2) (s := s2) (v := v2) b2
    have hl2 : s1'.length = 11 := hg2.1
    refine ⟨s1', p3, s3, v3, hg2, c2, ?_⟩
    simp only [five, List.map_cons, List.map_nil, ePick] at c3
    simp [b__law_logic, a4, a5, b3, hl, newO, c3, hl2, tup_obj, still_strs, sizeLine_eq]
end K08
namespace K08
open PySem MP
open L2 (atI ixN cutS Key)
/-! answers, logics -/
inductive A3 where
  | f | t | u
  deriving DecidableEq
def cp : A3 → Nat
  | .f => 102 | .t => 116 | .u => 117
def an (a : A3) : Str := ⟨#[cp a]⟩
theorem lit_f : ("f" : Str) = an .f := by decide +kernel
theorem lit_t : ("t" : Str) = an .t := by decide +kernel
theorem lit_u : ("u" : Str) = an .u := by decide +kernel
theorem an_inj {a b : A3} : (an a = an b) ↔ a = b := by
  constructor
  · intro h
    cases a <;> cases b <;> first | rfl | (exact absurd h (by decide +kernel))
  · rintro rfl; rfl
structure Lg where
  (l0 l1 l2 l3 l4 l5 l6 l7 l8 l9 l10 : A3)
namespace Lg
def and (L : Lg) : A3 → A3 → A3
  | .f, .f => .f | .f, .t => .f | .t, .f => .f | .t, .t => .t
  | .f, .u => L.l0 | .u, .f => L.l1 | .t, .u => L.l2 | .u, .t => L.l3 | .u, .u => L.l4
def or (L : Lg) : A3 → A3 → A3
  | .f, .f => .f | .f, .t => .t | .t, .f => .t | .t, .t => .t
  | .f, .u => L.l5 | .u, .f => L.l6 | .t, .u => L.l7 | .u, .t => L.l8 | .u, .u => L.l9
def not (L : Lg) : A3 → A3
  | .f => .t | .t => .f | .u => L.l10
end Lg
def LW (L : Lg) : W := .tup [.str (an L.l0), .str (an L.l1), .str (an L.l2), .str (an L.l3), .str (an L.l4), .str (an L.l5), .str (an L.l6), .str (an L.l7), .str (an L.l8), .str (an L.l9), .str (an L.l10)]
theorem eq_an (a b : A3) : cmpW .Eq (.str (an a)) (.str (an b)) = some (decide (a = b)) := by
  show some (decide (an a = an b)) = _
  exact congrArg some (decide_eq_decide.mpr an_inj)
theorem ne_an (a b : A3) : cmpW .NotEq (.str (an a)) (.str (an b)) = some (!decide (a = b)) := by
  show some (!decide (an a = an b)) = _
  exact congrArg (fun b => some (!b)) (decide_eq_decide.mpr an_inj)
theorem st_LW (L : Lg) : still (LW L) = true := rfl
/-- the texts of answers -/
theorem of_ftu {x : Str} (h : x ∈ ftu) : ∃ a, x = an a := by
  simp only [ftu, List.mem_cons, List.not_mem_nil, or_false] at h
  rcases h with rfl | rfl | rfl
  · exact ⟨.f, lit_f⟩
  · exact ⟨.t, lit_t⟩
  · exact ⟨.u, lit_u⟩
theorem of_good {l : List Str} (h : Good 11 l) : ∃ L : Lg, W.tup (l.map .str) = LW L := by
  obtain ⟨h1, h2⟩ := h
  match l, h1, h2 with
  | [a0, a1, a2, a3, a4, a5, a6, a7, a8, a9, a10], _, h2 =>
  obtain ⟨b0, rfl⟩ := of_ftu (h2 a0 (by simp))
  obtain ⟨b1, rfl⟩ := of_ftu (h2 a1 (by simp))
  obtain ⟨b2, rfl⟩ := of_ftu (h2 a2 (by simp))
  obtain ⟨b3, rfl⟩ := of_ftu (h2 a3 (by simp))
  obtain ⟨b4, rfl⟩ := of_ftu (h2 a4 (by simp))
  obtain ⟨b5, rfl⟩ := of_ftu (h2 a5 (by simp))
  obtain ⟨b6, rfl⟩ := of_ftu (h2 a6 (by simp))
  obtain ⟨b7, rfl⟩ := of_ftu (h2 a7 (by simp))
  obtain ⟨b8, rfl⟩ := of_ftu (h2 a8 (by simp))
  obtain ⟨b9, rfl⟩ := of_ftu (h2 a9 (by simp))
  obtain ⟨b10, rfl⟩ := of_ftu (h2 a10 (by simp))
  exact ⟨⟨b0, b1, b2, b3, b4, b5, b6, b7, b8, b9, b10⟩, rfl⟩
theorem law_logic {K : Nat} (hK : 2 < K) (ns : List Int) {p s v : Int} (hp : 0 ≤ p) :
    ∃ L p' s' v', 0 ≤ p' ∧ callK g K "_law_logic" [.obj 0] [rowO ns p s v] = some (LW L, [rowO ns p' s' v']) := by
  obtain ⟨l, p', s', v', hg, hp', e⟩ := logic hK ns (p := p) (s := s) (v := v) hp
  obtain ⟨L, hL⟩ := of_good hg
  exact ⟨L, p', s', v', hp', by rw [e, hL]⟩
/-! the checks -/
theorem in3 (a : A3) : cmpW .NotIn (.str (an a)) (.tup [.str "f", .str "t", .str "u"]) = some false := by cases a <;> kernel_rfl
theorem chk_loop (st : Sto) (r0 : Option W) : ∀ (l : List A3) (i : Nat) (r1 r2 : Option W),
    ∃ r1' r2', forW (aTup [1, 2]) (sSeq [sIf (tCmp .NotIn (eVar 2) (eVal k_ANSWERS)) [sNo] []]) (numW i (l.map fun a => .str (an a))) [r0, r1, r2] st = some (.nx [r0, r1', r2'] st)
  | [], i, r1, r2 => ⟨r1, r2, rfl⟩
  | x :: l, i, r1, r2 => by
    obtain ⟨a, b, e⟩ := chk_loop st r0 l (i + 1) (some (.int i)) (some (.str (an x)))
    refine ⟨a, b, ?_⟩
    rw [List.map_cons]
    simp [numW, forW, in3, e]
theorem isi_tup (st : Sto) (l : List W) : callB st "isinstance" [.tup l, .ty "tuple"] = some (.bl true) := Eq.trans rfl rfl
def lgL (L : Lg) : List A3 := [L.l0, L.l1, L.l2, L.l3, L.l4, L.l5, L.l6, L.l7, L.l8, L.l9, L.l10]
theorem chk_logic {K : Nat} (hK : 0 < K) (st : Sto) (hr : st.all stillO = true) (L : Lg) : callK g K "check_logic" [LW L] st = some (.non, st) := by
  obtain ⟨k, rfl⟩ : ∃ k, K = k + 1 := ⟨K - 1, by omega⟩
  rw [c_check_logic]
  obtain ⟨a, b, e⟩ := chk_loop st (some (LW L)) (lgL L) 0 none none
  have i1 : callB st "isinstance" [LW L, .ty "tuple"] = some (.bl true) := Eq.trans rfl rfl
  have i2 : callB st "len" [LW L] = some (.int 11) := by kernel_rfl
  have i3 : rowW (LW L) = some ((lgL L).map fun a => .str (an a)) := rfl
  simp [b_check_logic, i1, i2, i3, truthW, e]
  simpa using hr
end K08
namespace MP
open PySem
/-! == of lists and tuples of texts -/
theorem toPy_strs : ∀ l : List Str, toPyA (l.map .str) = some (l.map .str)
  | [] => rfl
  | x :: l => by
    show ((toPy (.str x)).bind fun d => (toPyA (l.map .str)).bind fun ds => some (d :: ds)) = _
    rw [toPy_strs l]
    rfl
def okS (l : List Str) : Bool := l.all PyData.strOk
theorem lay_strs : ∀ l : List Str, okS l = true → PyData.canLayAll0 (l.map .str) = true
  | [], _ => by simp [PyData.canLayAll0]
  | x :: l, h => by
    simp only [okS, List.all_cons, Bool.and_eq_true] at h
    simp only [List.map_cons, PyData.canLayAll0, PyData.canLay0, h.1, Bool.true_and]
    exact lay_strs l h.2
theorem depth_strs : ∀ l : List Str, PyData.depthAll (l.map .str) = 0
  | [] => by simp [PyData.depthAll]
  | x :: l => by simp [PyData.depthAll, PyData.depth, depth_strs l]
theorem eqv_strs : ∀ l m : List Str, PyData.eqvAll (l.map .str) (m.map .str) = decide (l = m)
  | [], [] => by simp [PyData.eqvAll]
  | [], y :: m => by simp [PyData.eqvAll]
  | x :: l, [] => by simp [PyData.eqvAll]
  | x :: l, y :: m => by
    simp only [List.map_cons, PyData.eqvAll, PyData.eqv, eqv_strs l m, List.cons.injEq]
    by_cases h : x = y <;> by_cases h' : l = m <;> simp [h, h']
theorem shaped_lst {l : List Str} (h : okS l = true) : SeqAt.shaped (.list (l.map .str)) = true := by
  unfold SeqAt.shaped
  simp only [PyData.canLay0, PyData.depth, lay_strs l h, depth_strs, Bool.true_and]
  rfl
theorem shaped_tup {l : List Str} (h : okS l = true) : SeqAt.shaped (.tuple (l.map .str)) = true := by
  unfold SeqAt.shaped
  simp only [PyData.canLay0, PyData.depth, lay_strs l h, depth_strs, Bool.true_and]
  rfl
theorem eqW_lst {l m : List Str} (h : okS l = true) (h' : okS m = true) : eqW (.lst (l.map .str)) (.lst (m.map .str)) = some (decide (l = m)) := by
  show ((toPyA (l.map .str)).map PyData.list).bind (fun d => ((toPyA (m.map .str)).map PyData.list).bind fun e => if SeqAt.shaped d = true ∧ SeqAt.shaped e = true then some (PyData.eqv d e) else none) = _
  rw [toPy_strs, toPy_strs]
  simp only [Option.map_some, Option.bind_some]
  rw [if_pos ⟨shaped_lst h, shaped_lst h'⟩]
  simp only [PyData.eqv, eqv_strs]
theorem eqW_tup {l m : List Str} (h : okS l = true) (h' : okS m = true) : eqW (.tup (l.map .str)) (.tup (m.map .str)) = some (decide (l = m)) := by
  show ((toPyA (l.map .str)).map PyData.tuple).bind (fun d => ((toPyA (m.map .str)).map PyData.tuple).bind fun e => if SeqAt.shaped d = true ∧ SeqAt.shaped e = true then some (PyData.eqv d e) else none) = _
  rw [toPy_strs, toPy_strs]
  simp only [Option.map_some, Option.bind_some]
  rw [if_pos ⟨shaped_tup h, shaped_tup h'⟩]
  simp only [PyData.eqv, eqv_strs]
theorem c_eqL {l m : List Str} (h : okS l = true) (h' : okS m = true) : cmpW .Eq (.lst (l.map .str)) (.lst (m.map .str)) = some (decide (l = m)) := eqW_lst h h'
theorem c_neL {l m : List Str} (h : okS l = true) (h' : okS m = true) : cmpW .NotEq (.lst (l.map .str)) (.lst (m.map .str)) = some (!decide (l = m)) := by
  show (eqW _ _).map _ = _
  rw [eqW_lst h h']
  rfl
theorem c_eqT {l m : List Str} (h : okS l = true) (h' : okS m = true) : cmpW .Eq (.tup (l.map .str)) (.tup (m.map .str)) = some (decide (l = m)) := eqW_tup h h'
theorem c_neT {l m : List Str} (h : okS l = true) (h' : okS m = true) : cmpW .NotEq (.tup (l.map .str)) (.tup (m.map .str)) = some (!decide (l = m)) := by
  show (eqW _ _).map _ = _
  rw [eqW_tup h h']
  rfl
/-! steps -/
theorem seq_rt {a : SX} {l : List SX} {ρ : Rho} {st st1 : Sto} {w : W} (h : a ρ st = some (.rt w st1)) : sSeq (a :: l) ρ st = some (.rt w st1) := by rw [x_sSeq1, h]; rfl
theorem seq_nx {a : SX} {l : List SX} {ρ ρ1 : Rho} {st st1 : Sto} (h : a ρ st = some (.nx ρ1 st1)) : sSeq (a :: l) ρ st = sSeq l ρ1 st1 := by rw [x_sSeq1, h]; rfl
theorem seq_bk {a : SX} {l : List SX} {ρ ρ1 : Rho} {st st1 : Sto} (h : a ρ st = some (.bk ρ1 st1)) : sSeq (a :: l) ρ st = some (.bk ρ1 st1) := by rw [x_sSeq1, h]; rfl
theorem if_yes {t : TX} {a b : List SX} {ρ : Rho} {st st1 : Sto} (h : t ρ st = some (true, st1)) : sIf t a b ρ st = sSeq a ρ st1 := by rw [x_sIf, h]; rfl
theorem if_no {t : TX} {a b : List SX} {ρ : Rho} {st st1 : Sto} (h : t ρ st = some (false, st1)) : sIf t a b ρ st = sSeq b ρ st1 := by rw [x_sIf, h]; rfl
theorem for_at {it : IX} {asg : AX} {body : List SX} {ρ : Rho} {st st1 : Sto} {l : List W} (h : it ρ st = some (l, st1)) : sFor it asg body ρ st = forW asg (sSeq body) l ρ st1 := by rw [x_sFor, h]; rfl
theorem iRange_at {e : EX} {ρ : Rho} {st st1 : Sto} {j : Int} (h : e ρ st = some (.int j, st1)) (h0 : -(2 ^ 62) ≤ j ∧ j < 2 ^ 62) : iRange e ρ st = some ((List.range j.toNat).map fun i => .int ((i : Nat) : Int), st1) := by
  rw [x_iRange, x_eList1, h]
  simp only [x_eList0, Option.bind_some]
  rw [if_pos h0]
/-- a def's end: an answer that stands still -/
theorem run_rt {n k : Nat} {b : SX} {ws : List W} {st : Sto} {w : W} (hn : ws.length = n) (h : b (ws.map some ++ List.replicate (k - ws.length) none) st = some (.rt w st)) (hb : back st.length w st = some w) (hr : st.all stillO = true) : runF n k b ws st = some (w, st) := by
  unfold runF
  rw [if_pos hn, h]
  show outF st (.rt w st) = _
  rw [z_out2, hb]
  simp only [Option.bind_some, List.take_length]
  rw [if_pos hr]
theorem run_nx {n k : Nat} {b : SX} {ws : List W} {st : Sto} {ρ : Rho} (hn : ws.length = n) (h : b (ws.map some ++ List.replicate (k - ws.length) none) st = some (.nx ρ st)) (hr : st.all stillO = true) : runF n k b ws st = some (.non, st) := by
  unfold runF
  rw [if_pos hn, h]
  show outF st (.nx ρ st) = _
  rw [z_out1]
  simp only [List.take_length]
  rw [if_pos hr]
/-- a comprehension, its loop told -/
theorem comp_at {own : List Nat} {it : IX} {asg : AX} {tst : TX} {elt : EX} {ρ : Rho} {st st1 st2 : Sto} {l vs : List W} (h1 : it ρ st = some (l, st1)) (h2 : compW asg tst elt (wipeR ρ own) l st1 = some (vs, st2)) (h3 : vs.length ≤ sizeLine) (h4 : l.length < sizeLine) : eComp own it asg tst elt ρ st = some (.lst vs, st2) := by
  unfold eComp
  rw [h1]
  simp only [Option.bind_some]
  rw [h2]
  simp only [Option.bind_some]
  rw [if_pos ⟨h3, h4⟩]
end MP
namespace K08
open PySem MP
open L2 (atI ixN cutS Key)
theorem is1 (st : Sto) (x : Str) : callB st "isinstance" [.str x, .tup [.ty "tuple", .ty "list"]] = some (.bl false) := Eq.trans rfl rfl
theorem is2 (st : Sto) (x : Str) : callB st "isinstance" [.str x, .ty "str"] = some (.bl true) := Eq.trans rfl rfl
theorem is3 (st : Sto) (l : List W) : callB st "isinstance" [.tup l, .tup [.ty "tuple", .ty "list"]] = some (.bl true) := Eq.trans rfl rfl
theorem is4 (st : Sto) (l : List W) : callB st "isinstance" [.tup l, .ty "list"] = some (.bl false) := Eq.trans rfl rfl
theorem non1 (x : Str) : cmpW .Is (.str x) .non = some false := Eq.trans rfl rfl
theorem eqB (a b : Bool) : cmpW .Eq (.bl a) (.bl b) = some (decide (a = b)) := Eq.trans rfl rfl
theorem neB (a b : Bool) : cmpW .NotEq (.bl a) (.bl b) = some (!decide (a = b)) := Eq.trans rfl rfl
theorem eqE : cmpW .Eq (.lst []) (.lst []) = some true := Eq.trans rfl rfl
theorem neE : cmpW .NotEq (.lst []) (.lst []) = some false := Eq.trans rfl rfl
theorem two_le : 2 ≤ sizeLine := by decide
theorem alike_str {K : Nat} (hK : 0 < K) (st : Sto) (hr : st.all stillO = true) (x : Str) : callK g K "_law_alike" [.str x, .str x] st = some (.bl true, st) := by
  obtain ⟨k, rfl⟩ : ∃ k, K = k + 1 := ⟨K - 1, by omega⟩
  rw [c__law_alike]
  simp [b__law_alike, is1, is2, non1, eqB, truthW, two_le]
  simpa using hr
abbrev tAl (k : Nat) : TX := tNot (tTr (eCall (callK g k) "_law_alike" 2 [eIx (eVar 0) (eVar 2), eIx (eVar 1) (eVar 2)]))
theorem alike_loop {k : Nat} (hk : 0 < k) (st : Sto) (hr : st.all stillO = true) (ss : List Str) (r2 : Option W) : ∀ is : List Nat, (∀ i ∈ is, i < ss.length) →
    compW (aName 2) (tAl k) (eVar 2) [some (.tup (ss.map .str)), some (.tup (ss.map .str)), r2] (is.map fun i => .int ((i : Nat) : Int)) st = some ([], st)
  | [], _ => rfl
  | i :: is, h => by
    have hi := h i List.mem_cons_self
    have e : atI (ss.map W.str) ((i : Nat) : Int) = some (.str ss[i]) := by
      apply at_lit
      rw [List.getElem?_map, List.getElem?_eq_getElem hi]
      rfl
    have ih := alike_loop hk st hr ss r2 is fun j hj => h j (List.mem_cons_of_mem _ hj)
    have a := alike_str hk st hr ss[i]
    rw [List.map_cons]
    unfold compW
    simp [e, a, truthW]
    exact ih
theorem alike_tup {K : Nat} (hK : 1 < K) (st : Sto) (hr : st.all stillO = true) (ss : List Str) (hl : ss.length < 1000) : callK g K "_law_alike" [.tup (ss.map .str), .tup (ss.map .str)] st = some (.bl true, st) := by
  obtain ⟨k, rfl⟩ : ∃ k, K = k + 1 := ⟨K - 1, by omega⟩
  rw [c__law_alike]
  obtain ⟨j, hj⟩ : ∃ j : Int, j = ((ss.map W.str).length : Nat) := ⟨_, rfl⟩
  have hlen : ∀ st, callB st "len" [.tup (ss.map .str)] = some (.int j) := fun st => by rw [hj]; exact b_len_tup st _
  have hjn : j.toNat = (ss.map W.str).length := by rw [hj]; exact Int.toNat_natCast _
  have e := alike_loop (k := k) (by omega) st hr ss none (List.range j.toNat) (by rw [hjn]; simp)
  have hj0 : 0 ≤ j ∧ j < 1000 := by rw [List.length_map] at hj; omega
  have r := iRange_at (e := eBlt "len" [eVar 1]) (ρ := [some (.tup (ss.map .str)), some (.tup (ss.map .str)), none]) (st := st) (st1 := st) (j := j) (by simp [-b_len_tup, hlen]) ⟨by omega, by omega⟩
  have h3 : j.toNat < sizeLine := Nat.lt_of_lt_of_le (show j.toNat < 1000 by omega) (show 1000 ≤ sizeLine by decide)
  clear hj hjn
  generalize (ss.map W.str) = ws at *
  have cm : eComp [2] (iRange (eBlt "len" [eVar 1])) (aName 2) (tAl k) (eVar 2) [some (.tup ws), some (.tup ws), none] st = some (.lst [], st) := by
    unfold eComp
    rw [r]
    simp only [Option.bind_some, wipeR, List.set_cons_succ, List.set_cons_zero]
    rw [e]
    simp only [Option.bind_some]
    rw [if_pos ⟨Nat.zero_le _, by rw [List.length_map, List.length_range]; exact h3⟩]
  simp only [tAl] at cm
  clear r e h3 hj0
  have sA : sIf (tOr (tNot (tTr (eBlt "isinstance" [eVar 0, eTup [eVal (.ty "tuple"), eVal (.ty "list")]]))) (tCmp .NotEq (eBlt "isinstance" [eVar 0, eVal (.ty "list")]) (eBlt "isinstance" [eVar 1, eVal (.ty "list")]))) [sRet (eVal (.bl false))] [] [some (.tup ws), some (.tup ws), none] st = some (.nx [some (.tup ws), some (.tup ws), none] st) := by
    simp [is3, is4, neB, truthW, two_le]
  have sB : sIf (tCmp .NotEq (eBlt "len" [eVar 0]) (eBlt "len" [eVar 1])) [sRet (eVal (.bl false))] [] [some (.tup ws), some (.tup ws), none] st = some (.nx [some (.tup ws), some (.tup ws), none] st) := by simp [-b_len_tup, hlen]
  have sC : sRet (eCmp .Eq (eComp [2] (iRange (eBlt "len" [eVar 1])) (aName 2) (tNot (tTr (eCall (callK g k) "_law_alike" 2 [eIx (eVar 0) (eVar 2), eIx (eVar 1) (eVar 2)]))) (eVar 2)) (eLst [])) [some (.tup ws), some (.tup ws), none] st = some (.rt (.bl true) st) := by
    simp [-x_eComp, -b_len_tup, cm, eqE]
  have t1 : tTr (eBlt "isinstance" [eVar 1, eTup [eVal (.ty "tuple"), eVal (.ty "list")]]) [some (.tup ws), some (.tup ws), none] st = some (true, st) := by
    simp [is3, truthW, two_le]
  have body : b__law_alike (callK g k) [some (.tup ws), some (.tup ws), none] st = some (.rt (.bl true) st) := seq_rt ((if_yes t1).trans ((seq_nx sA).trans ((seq_nx sB).trans (seq_rt sC))))
  clear sA sB sC t1 cm hlen
  have o : outF st (.rt (.bl true) st) = some (.bl true, st) := by
    simp
    simpa using hr
  show (if ([W.tup ws, W.tup ws] : List W).length = 2 then (b__law_alike (callK g k) [some (.tup ws), some (.tup ws), none] st).bind fun o => outF st o else none) = _
  rw [body]
  exact (if_pos (show ([W.tup ws, W.tup ws] : List W).length = 2 from rfl)).trans o
end K08
namespace K08
open PySem MP
open L2 (atI ixN cutS Key)
/-! formulas -/
theorem big_sz : 1000 ≤ sizeLine := by decide
inductive Lf where
  | a | b | c | d | e | f | t | u
  deriving DecidableEq
def lc : Lf → Nat
  | .a => 97 | .b => 98 | .c => 99 | .d => 100 | .e => 101 | .f => 102 | .t => 116 | .u => 117
def ls (x : Lf) : Str := ⟨#[lc x]⟩
theorem ls_inj {x y : Lf} : (ls x = ls y) ↔ x = y := by
  constructor
  · intro h
    cases x <;> cases y <;> first | rfl | (exact absurd h (by decide +kernel))
  · rintro rfl; rfl
inductive Fm where
  | lf (x : Lf) | nt (p : Fm) | bi (k : Bool) (p q : Fm)
def opS : Bool → Str
  | true => "and" | false => "or"
def fW : Fm → W
  | .lf x => .str (ls x)
  | .nt p => .tup [.str "not", fW p]
  | .bi k p q => .tup [.str (opS k), fW p, fW q]
def fD : Fm → PyData
  | .lf x => .str (ls x)
  | .nt p => .tuple [.str "not", fD p]
  | .bi k p q => .tuple [.str (opS k), fD p, fD q]
def dep : Fm → Nat
  | .lf _ => 0
  | .nt p => dep p + 1
  | .bi _ p q => max (dep p) (dep q) + 1
def lv : Fm → List Lf
  | .lf x => [x]
  | .nt p => lv p
  | .bi _ p q => lv p ++ lv q
theorem lv_len : ∀ φ, (lv φ).length ≤ 2 ^ dep φ
  | .lf x => by simp [lv, dep]
  | .nt p => by
    have := lv_len p
    simp only [lv, dep, Nat.pow_succ]
    omega
  | .bi k p q => by
    have h1 := lv_len p
    have h2 := lv_len q
    have h3 : 2 ^ dep p ≤ 2 ^ max (dep p) (dep q) := Nat.pow_le_pow_right (by decide) (Nat.le_max_left _ _)
    have h4 : 2 ^ dep q ≤ 2 ^ max (dep p) (dep q) := Nat.pow_le_pow_right (by decide) (Nat.le_max_right _ _)
    simp only [lv, dep, Nat.pow_succ, List.length_append]
    omega
theorem still_f : ∀ φ, still (fW φ) = true
  | .lf x => rfl
  | .nt p => by simp [fW, still, stillA, still_f p]
  | .bi k p q => by simp [fW, still, stillA, still_f p, still_f q]
theorem toPy_f : ∀ φ, toPy (fW φ) = some (fD φ)
  | .lf x => rfl
  | .nt p => by simp [fW, fD, toPy, toPyA, toPy_f p]
  | .bi k p q => by simp [fW, fD, toPy, toPyA, toPy_f p, toPy_f q]
theorem lay_f : ∀ φ, (fD φ).canLay0 = true
  | .lf x => by simp only [fD, PyData.canLay0]; cases x <;> decide +kernel
  | .nt p => by simp only [fD, PyData.canLay0, PyData.canLayAll0, lay_f p, Bool.and_true]; decide +kernel
  | .bi k p q => by simp only [fD, PyData.canLay0, PyData.canLayAll0, lay_f p, lay_f q, Bool.and_true]; cases k <;> decide +kernel
theorem depth_f : ∀ φ, (fD φ).depth ≤ dep φ
  | .lf x => by simp [fD, PyData.depth]
  | .nt p => by
    have := depth_f p
    simp only [fD, dep, PyData.depth, PyData.depthAll]
    omega
  | .bi k p q => by
    have := depth_f p
    have := depth_f q
    simp only [fD, dep, PyData.depth, PyData.depthAll]
    omega
theorem shaped_f {φ : Fm} (h : dep φ ≤ 60) : SeqAt.shaped (fD φ) = true := by
  have := depth_f φ
  unfold SeqAt.shaped
  rw [lay_f, Bool.true_and]
  exact decide_eq_true (by omega)
theorem str_not_tuple (ds : List PyData) : ∀ l : List Str, ((l.map PyData.str).any fun z => PyData.eqv z (.tuple ds)) = false
  | [] => rfl
  | x :: l => by rw [List.map_cons, List.any_cons, str_not_tuple ds l]; simp [PyData.eqv]
theorem in_tuple {l : List W} {φ : Fm} (e : fW φ = .tup l) (h : dep φ ≤ 60) {ss : List Str} (hs : okS ss = true) : cmpW .In (fW φ) (.tup (ss.map .str)) = some false := by
  have d := toPy_f φ
  have sh := shaped_f h
  rw [e] at d ⊢
  show inSeq (.tup l) (ss.map .str) = _
  unfold inSeq
  rw [if_neg (fun z => by cases z.1)]
  rw [d, toPy_strs]
  simp only [Option.bind_some]
  rw [if_pos ⟨sh, shaped_lst hs⟩]
  obtain ⟨ds, hd⟩ : ∃ ds, fD φ = .tuple ds := by
    cases φ with
    | lf x => cases e
    | nt p => exact ⟨_, rfl⟩
    | bi k p q => exact ⟨_, rfl⟩
  rw [hd, str_not_tuple]
def lettersS : List Str := ["a", "b", "c", "d", "e"]
theorem okL : okS ["a", "b", "c", "d", "e"] = true := by decide +kernel
theorem okA : okS ["f", "t", "u"] = true := by decide +kernel
def unit : Lf → Bool
  | .f => true | .t => true | .u => true | _ => false
theorem leafL (x : Lf) : cmpW .In (.str (ls x)) k_LETTERS = some (!unit x) := by cases x <;> kernel_rfl
theorem leafA (x : Lf) : cmpW .In (.str (ls x)) k_ANSWERS = some (unit x) := by cases x <;> kernel_rfl
section
variable {K : Nat} (st : Sto) (hr : st.all stillO = true)
include hr
theorem leaf_yes (hK : 0 < K) (x : Lf) : callK g K "is_leaf" [.str (ls x)] st = some (.bl true, st) := by
  obtain ⟨k, rfl⟩ : ∃ k, K = k + 1 := ⟨K - 1, by omega⟩
  rw [c_is_leaf]
  refine run_rt rfl ?_ rfl hr
  show b_is_leaf (callK g k) [some (.str (ls x))] st = _
  have e1 := leafL x
  have e2 := leafA x
  cases h : unit x <;> simp [b_is_leaf, e1, e2, h]
theorem leaf_no (hK : 0 < K) {φ : Fm} {l : List W} (e : fW φ = .tup l) (h : dep φ ≤ 60) : callK g K "is_leaf" [fW φ] st = some (.bl false, st) := by
  obtain ⟨k, rfl⟩ : ∃ k, K = k + 1 := ⟨K - 1, by omega⟩
  rw [c_is_leaf]
  refine run_rt rfl ?_ rfl hr
  show b_is_leaf (callK g k) [some (fW φ)] st = _
  have e1 : cmpW .In (fW φ) k_LETTERS = some false := in_tuple e h okL
  have e2 : cmpW .In (fW φ) k_ANSWERS = some false := in_tuple e h okA
  simp [b_is_leaf, e1, e2]
theorem joined1 (hK : 0 < K) (w : W) : callK g K "is_joined" [.tup [.str "not", w]] st = some (.bl true, st) := by
  obtain ⟨k, rfl⟩ : ∃ k, K = k + 1 := ⟨K - 1, by omega⟩
  rw [c_is_joined]
  refine run_rt rfl ?_ rfl hr
  kernel_rfl
theorem joined2 (hK : 0 < K) (b : Bool) (w w' : W) : callK g K "is_joined" [.tup [.str (opS b), w, w']] st = some (.bl true, st) := by
  obtain ⟨k, rfl⟩ : ∃ k, K = k + 1 := ⟨K - 1, by omega⟩
  rw [c_is_joined]
  refine run_rt rfl ?_ rfl hr
  cases b <;> kernel_rfl
end
end K08
namespace K08
open PySem MP
open L2 (atI ixN cutS Key)
/-! leaves -/
abbrev lfW (x : Lf) : W := .str (ls x)
theorem still_lfW : ∀ l : List Lf, stillA (l.map lfW) = true
  | [] => rfl
  | x :: l => by simp [stillA, still, still_lfW l]
theorem cut1 (x : W) (l : List W) : slW (.tup (x :: l)) (some 1) none = some (.tup l) := by
  show some (W.tup (cutW (x :: l) (some 1) none)) = _
  congr 2
  unfold cutW
  have h1 : HT.sIx (x :: l).length 0 (some 1) = 1 := by
    simp [HT.sIx]
  have h2 : HT.sIx (x :: l).length (x :: l).length none = (x :: l).length := by
    simp [HT.sIx]
  rw [h1, h2]
  simp
theorem comp_id (a b c d : Option W) (st : Sto) : ∀ (l : List W) (e : Option W), compW (aName 4) tYes (eVar 4) [a, b, c, d, e] l st = some (l, st)
  | [], _ => rfl
  | x :: l, e => by
    unfold compW
    simp only [aName, tYes, Option.bind_some, if_true, List.set_cons_succ, List.set_cons_zero, x_eVar, List.getElem?_cons_succ, List.getElem?_cons_zero, Option.map_some]
    rw [comp_id a b c d st l e]
    rfl
theorem toPy_lfW : ∀ l : List Lf, toPyA (l.map lfW) = some (l.map fun x => .str (ls x)) := fun l => by
  have := toPy_strs (l.map ls)
  rw [List.map_map, List.map_map] at this
  exact this
theorem okLs (l : List Lf) : okS (l.map ls) = true := by
  unfold okS
  rw [List.all_map, List.all_eq_true]
  intro x _
  cases x <;> decide +kernel
theorem shaped_ls (l : List Lf) : SeqAt.shaped (.list (l.map fun x => .str (ls x))) = true := by
  have := shaped_lst (okLs l)
  rw [List.map_map] at this
  exact this
theorem shaped_two {l : List PyData} (h : ∀ d ∈ l, ∃ m : List Lf, d = .list (m.map fun x => .str (ls x))) : SeqAt.shaped (.list l) = true := by
  have h1 : PyData.canLayAll0 l = true ∧ PyData.depthAll l ≤ 1 := by
    induction l with
    | nil => simp [PyData.canLayAll0, PyData.depthAll]
    | cons d l ih =>
      obtain ⟨i1, i2⟩ := ih fun d hd => h d (List.mem_cons_of_mem _ hd)
      obtain ⟨m, rfl⟩ := h d List.mem_cons_self
      have s := lay_strs (m.map ls) (okLs m)
      have t := depth_strs (m.map ls)
      rw [List.map_map] at s t
      have s' : PyData.canLayAll0 (m.map fun x => .str (ls x)) = true := s
      have t' : PyData.depthAll (m.map fun x => .str (ls x)) = 0 := t
      refine ⟨by simp only [PyData.canLayAll0, PyData.canLay0, s', i1, Bool.and_self], ?_⟩
      simp only [PyData.depthAll, PyData.depth, t']
      omega
  unfold SeqAt.shaped
  simp only [PyData.canLay0, h1.1, Bool.true_and, PyData.depth]
  exact decide_eq_true (by omega)
theorem non_in1 (l : List Lf) : cmpW .In .non (.lst [.lst (l.map lfW)]) = some false := by
  show inSeq .non [.lst (l.map lfW)] = _
  unfold inSeq
  rw [if_neg (fun z => by cases z.2)]
  show (some PyData.none).bind _ = _
  have e : toPyA [.lst (l.map lfW)] = some [.list (l.map fun x => .str (ls x))] := by simp [toPyA, toPy, toPy_lfW]
  rw [e]
  simp only [Option.bind_some]
  rw [if_pos ⟨by decide +kernel, shaped_two (by simp; exact ⟨l, rfl⟩)⟩]
  simp [PyData.eqv]
theorem non_in2 (l m : List Lf) : cmpW .In .non (.lst [.lst (l.map lfW), .lst (m.map lfW)]) = some false := by
  show inSeq .non [.lst (l.map lfW), .lst (m.map lfW)] = _
  unfold inSeq
  rw [if_neg (fun z => by cases z.2)]
  show (some PyData.none).bind _ = _
  have e : toPyA [.lst (l.map lfW), .lst (m.map lfW)] = some [.list (l.map fun x => .str (ls x)), .list (m.map fun x => .str (ls x))] := by simp [toPyA, toPy, toPy_lfW]
  rw [e]
  simp only [Option.bind_some]
  rw [if_pos ⟨by decide +kernel, shaped_two (by simp; exact ⟨⟨l, rfl⟩, ⟨m, rfl⟩⟩)⟩]
  simp [PyData.eqv]
section
variable (st : Sto) (hr : st.all stillO = true)
include hr
theorem leaves_at : ∀ (φ : Fm) {K m : Nat}, dep φ + 1 < K → dep φ ≤ m → dep φ ≤ 9 → callK g K "leaves_of" [fW φ, .int (m : Nat)] st = some (.lst ((lv φ).map lfW), st)
  | .lf x, K, m, hK, hm, h8 => by
    obtain ⟨k, rfl⟩ : ∃ k, K = k + 1 := ⟨K - 1, by omega⟩
    rw [c_leaves_of]
    have e1 := leaf_yes st hr (K := k) (by simp only [dep] at hK; omega) x
    refine run_rt rfl ?_ rfl hr
    show b_leaves_of (callK g k) [some (.str (ls x)), some (.int (m : Nat)), none, none, none] st = _
    unfold b_leaves_of
    have t : tTr (eCall (callK g k) "is_leaf" 1 [eVar 0]) [some (.str (ls x)), some (.int (m : Nat)), none, none, none] st = some (true, st) := by simp [e1, truthW]
    refine seq_rt ((if_yes t).trans (seq_rt ?_))
    have := big_sz
    simp [lv, show 1 ≤ sizeLine by omega]
  | .nt p, K, m, hK, hm, h8 => by
    obtain ⟨k, rfl⟩ : ∃ k, K = k + 1 := ⟨K - 1, by omega⟩
    simp only [dep] at hK hm h8
    obtain ⟨m', rfl⟩ : ∃ m', m = m' + 1 := ⟨m - 1, by omega⟩
    rw [c_leaves_of]
    have e1 := leaf_no st hr (K := k) (φ := .nt p) (by omega) rfl (by simp only [dep]; omega)
    have e2 := joined1 st hr (K := k) (by omega) (fW p)
    have e3 := leaves_at p (K := k) (m := m') (by omega) (by omega) (by omega)
    have hlen := lv_len p
    have hle : (lv p).length ≤ 512 := Nat.le_trans hlen (Nat.le_trans (Nat.pow_le_pow_right (by decide) (show dep p ≤ 9 by omega)) (by decide))
    have bs := big_sz
    refine run_rt rfl ?_ (if_pos (still_lfW _)) hr
    show b_leaves_of (callK g k) [some (fW (.nt p)), some (.int ((m' + 1 : Nat) : Int)), none, none, none] st = _
    have mi : ((m' + 1 : Nat) : Int) - 1 = (m' : Nat) := by omega
    have m0 : ¬ ((m' + 1 : Nat) : Int) = 0 := by omega
    generalize ((m' + 1 : Nat) : Int) = mm at *
    unfold b_leaves_of
    have z1 : sIf (tTr (eCall (callK g k) "is_leaf" 1 [eVar 0])) [sRet (eLst [eVar 0])] [] [some (fW (.nt p)), some (.int mm), none, none, none] st = some (.nx [some (fW (.nt p)), some (.int mm), none, none, none] st) := by
      simp [e1, truthW]
    have z2 : sIf (tOr (tCmp .Eq (eVar 1) (eVal (.int 0))) (tNot (tTr (eCall (callK g k) "is_joined" 1 [eVar 0])))) [sRet (eVal .non)] [] [some (fW (.nt p)), some (.int mm), none, none, none] st = some (.nx [some (fW (.nt p)), some (.int mm), none, none, none] st) := by
      simp [e2, fW, truthW, m0]
    have z3 : sAsg 2 (eComp [3] (iSeq (eSl (eVar 0) (some (eVal (.int 1))) none)) (aName 3) tYes (eCall (callK g k) "leaves_of" 2 [eVar 3, eBin .Sub (eVar 1) (eVal (.int 1))])) [some (fW (.nt p)), some (.int mm), none, none, none] st = some (.nx [some (fW (.nt p)), some (.int mm), some (.lst [.lst ((lv p).map lfW)]), none, none] st) := by
      have c := cut1 (.str "not") [fW p]
      simp [fW, c, compW, mi, e3, show 1 ≤ sizeLine by omega, show 1 < sizeLine by omega]
    have z4 : sIf (tCmp .In (eVal .non) (eVar 2)) [sRet (eVal .non)] [] [some (fW (.nt p)), some (.int mm), some (.lst [.lst ((lv p).map lfW)]), none, none] st = some (.nx [some (fW (.nt p)), some (.int mm), some (.lst [.lst ((lv p).map lfW)]), none, none] st) := by
      simp [non_in1]
    have z5 : sRet (eComp2 [3, 4] (iSeq (eVar 2)) (aName 3) tYes [4] (iSeq (eVar 3)) (aName 4) tYes (eVar 4)) [some (fW (.nt p)), some (.int mm), some (.lst [.lst ((lv p).map lfW)]), none, none] st = some (.rt (.lst ((lv (.nt p)).map lfW)) st) := by
      have hl2 : ((lv p).map lfW).length ≤ sizeLine := by rw [List.length_map]; omega
      have e : (lv (.nt p)).map lfW = (lv p).map lfW := rfl
      rw [e]
      generalize (lv p).map lfW = l at *
      simp [compF, comp_id, hl2]
    rw [seq_nx z1, seq_nx z2, seq_nx z3, seq_nx z4, seq_rt z5]
  | .bi b p q, K, m, hK, hm, h8 => by
    obtain ⟨k, rfl⟩ : ∃ k, K = k + 1 := ⟨K - 1, by omega⟩
    simp only [dep] at hK hm h8
    obtain ⟨m', rfl⟩ : ∃ m', m = m' + 1 := ⟨m - 1, by omega⟩
    rw [c_leaves_of]
    have e1 := leaf_no st hr (K := k) (φ := .bi b p q) (by omega) rfl (by simp only [dep]; omega)
    have e2 := joined2 st hr (K := k) (by omega) b (fW p) (fW q)
    have e3 := leaves_at p (K := k) (m := m') (by omega) (by omega) (by omega)
    have e3' := leaves_at q (K := k) (m := m') (by omega) (by omega) (by omega)
    have hle : (lv p).length ≤ 256 := Nat.le_trans (lv_len p) (Nat.le_trans (Nat.pow_le_pow_right (by decide) (show dep p ≤ 8 by omega)) (by decide))
    have hle' : (lv q).length ≤ 256 := Nat.le_trans (lv_len q) (Nat.le_trans (Nat.pow_le_pow_right (by decide) (show dep q ≤ 8 by omega)) (by decide))
    have bs := big_sz
    refine run_rt rfl ?_ (if_pos (still_lfW _)) hr
    show b_leaves_of (callK g k) [some (fW (.bi b p q)), some (.int ((m' + 1 : Nat) : Int)), none, none, none] st = _
    have mi : ((m' + 1 : Nat) : Int) - 1 = (m' : Nat) := by omega
    have m0 : ¬ ((m' + 1 : Nat) : Int) = 0 := by omega
    generalize ((m' + 1 : Nat) : Int) = mm at *
    unfold b_leaves_of
    have z1 : sIf (tTr (eCall (callK g k) "is_leaf" 1 [eVar 0])) [sRet (eLst [eVar 0])] [] [some (fW (.bi b p q)), some (.int mm), none, none, none] st = some (.nx [some (fW (.bi b p q)), some (.int mm), none, none, none] st) := by
      simp [e1, truthW]
    have z2 : sIf (tOr (tCmp .Eq (eVar 1) (eVal (.int 0))) (tNot (tTr (eCall (callK g k) "is_joined" 1 [eVar 0])))) [sRet (eVal .non)] [] [some (fW (.bi b p q)), some (.int mm), none, none, none] st = some (.nx [some (fW (.bi b p q)), some (.int mm), none, none, none] st) := by
      simp [e2, fW, truthW, m0]
    have z3 : sAsg 2 (eComp [3] (iSeq (eSl (eVar 0) (some (eVal (.int 1))) none)) (aName 3) tYes (eCall (callK g k) "leaves_of" 2 [eVar 3, eBin .Sub (eVar 1) (eVal (.int 1))])) [some (fW (.bi b p q)), some (.int mm), none, none, none] st = some (.nx [some (fW (.bi b p q)), some (.int mm), some (.lst [.lst ((lv p).map lfW), .lst ((lv q).map lfW)]), none, none] st) := by
      have c := cut1 (.str (opS b)) [fW p, fW q]
      simp [fW, c, compW, mi, e3, e3', show 2 ≤ sizeLine by omega, show 2 < sizeLine by omega]
    have z4 : sIf (tCmp .In (eVal .non) (eVar 2)) [sRet (eVal .non)] [] [some (fW (.bi b p q)), some (.int mm), some (.lst [.lst ((lv p).map lfW), .lst ((lv q).map lfW)]), none, none] st = some (.nx [some (fW (.bi b p q)), some (.int mm), some (.lst [.lst ((lv p).map lfW), .lst ((lv q).map lfW)]), none, none] st) := by
      simp [non_in2]
    have z5 : sRet (eComp2 [3, 4] (iSeq (eVar 2)) (aName 3) tYes [4] (iSeq (eVar 3)) (aName 4) tYes (eVar 4)) [some (fW (.bi b p q)), some (.int mm), some (.lst [.lst ((lv p).map lfW), .lst ((lv q).map lfW)]), none, none] st = some (.rt (.lst ((lv (.bi b p q)).map lfW)) st) := by
      have hl2 : ((lv p).map lfW).length + ((lv q).map lfW).length ≤ sizeLine := by rw [List.length_map, List.length_map]; omega
      have e : (lv (.bi b p q)).map lfW = (lv p).map lfW ++ (lv q).map lfW := by simp [lv]
      rw [e]
      generalize (lv p).map lfW = l at *
      generalize (lv q).map lfW = l' at *
      simp [compF, comp_id, hl2]
    rw [seq_nx z1, seq_nx z2, seq_nx z3, seq_nx z4, seq_rt z5]
theorem is_formula_at {K : Nat} (φ : Fm) (hK : 11 < K) (h8 : dep φ ≤ 8) : callK g K "is_formula" [fW φ] st = some (.bl (decide ((lv φ).length ≤ 20)), st) := by
  obtain ⟨k, rfl⟩ : ∃ k, K = k + 1 := ⟨K - 1, by omega⟩
  rw [c_is_formula]
  have e := leaves_at st hr φ (K := k) (m := 8) (by omega) h8 (by omega)
  refine run_rt rfl ?_ rfl hr
  show b_is_formula (callK g k) [some (fW φ), none] st = _
  have e' : callK g k "leaves_of" [fW φ, .int 8] st = some (.lst ((lv φ).map lfW), st) := e
  have nn : cmpW .IsNot (.lst ((lv φ).map lfW)) .non = some true := Eq.trans rfl rfl
  have le : ∀ i j : Int, cmpW .LtE (.int i) (.int j) = some (decide (i ≤ j)) := fun i j => Eq.trans rfl rfl
  have cast : decide (((lv φ).length : Int) ≤ 20) = decide ((lv φ).length ≤ 20) := decide_eq_decide.mpr (by omega)
  simp [b_is_formula, e', nn, le, cast]
end
end K08
namespace K08
open PySem MP
/-! the reading of texts, and writing -/
abbrev cAND : List Nat := [32, 97, 110, 100, 32]
abbrev cOR : List Nat := [32, 111, 114, 32]
abbrev cNOT : List Nat := [110, 111, 116, 32]
def opC : Bool → List Nat
  | true => cAND | false => cOR
def lfOf (c : Nat) : Option Lf := if c = 97 then some .a else if c = 98 then some .b else if c = 99 then some .c else if c = 100 then some .d else if c = 101 then some .e else if c = 102 then some .f else if c = 116 then some .t else if c = 117 then some .u else none
def strip (p r : List Nat) : Option (List Nat) := if r.take p.length = p then some (r.drop p.length) else none
def PM : Nat → List Nat → Option (Fm × List Nat)
  | _, [] => none
  | 0, c :: r1 => match lfOf c with
    | some x => some (.lf x, r1)
    | none => none
  | m + 1, c :: r1 => match lfOf c with
    | some x => some (.lf x, r1)
    | none => if c = 40 then (PM m r1).bind fun (one, r2) => (strip (opC (decide (r2.take 5 = cAND))) r2).bind fun r3 => (PM m r3).bind fun (oth, r4) => (strip [41] r4).bind fun r5 => some (.bi (decide (r2.take 5 = cAND)) one oth, r5)
      else (strip cNOT (c :: r1)).bind fun r2 => (PM m r2).bind fun (p, r3) => some (.nt p, r3)
theorem PM_open (n : Nat) (r1 : List Nat) : PM (n + 1) (40 :: r1) = ((PM n r1).bind fun (one, r2) => (strip (opC (decide (r2.take 5 = cAND))) r2).bind fun r3 => (PM n r3).bind fun (oth, r4) => (strip [41] r4).bind fun r5 => some (.bi (decide (r2.take 5 = cAND)) one oth, r5)) := by
  rw [PM]
  simp only [show lfOf 40 = none from rfl, if_pos]
theorem PM_not (n : Nat) {c : Nat} (r1 : List Nat) (h1 : lfOf c = none) (h2 : c ≠ 40) : PM (n + 1) (c :: r1) = ((strip cNOT (c :: r1)).bind fun r2 => (PM n r2).bind fun (p, r3) => some (.nt p, r3)) := by
  rw [PM]
  simp only [h1, if_neg h2]
theorem PM_leaf (m : Nat) {c : Nat} {x : Lf} (r1 : List Nat) (h : lfOf c = some x) : PM m (c :: r1) = some (.lf x, r1) := by
  cases m <;> (rw [PM]; simp only [h])
theorem PM_zero {c : Nat} (r1 : List Nat) (h : lfOf c = none) : PM 0 (c :: r1) = none := by
  rw [PM]; simp only [h]
theorem PM_nil (m : Nat) : PM m [] = none := by cases m <;> rfl
def tx : Fm → List Nat
  | .lf x => [lc x]
  | .nt p => cNOT ++ tx p
  | .bi k p q => 40 :: (tx p ++ (opC k ++ (tx q ++ [41])))
theorem lf_lc (x : Lf) : lfOf (lc x) = some x := by cases x <;> rfl
theorem lfOf_some {c : Nat} {x : Lf} (h : lfOf c = some x) : c = lc x := by
  unfold lfOf at h
  repeat' split at h
  all_goals first | (cases h; assumption) | cases h
theorem strip_app (p r : List Nat) : strip p (p ++ r) = some r := by
  unfold strip
  rw [if_pos (by simp)]
  simp
theorem op_of (k : Bool) (r : List Nat) : decide ((opC k ++ r).take 5 = cAND) = k := by
  cases k
  · exact decide_eq_false (by simp [opC])
  · exact decide_eq_true (by simp [opC])
theorem PM_tx : ∀ (φ : Fm) (m : Nat) (r : List Nat), dep φ ≤ m → PM m (tx φ ++ r) = some (φ, r)
  | .lf x, m, r, h => by
    cases m <;> simp [tx, PM, lf_lc]
  | .nt p, m, r, h => by
    obtain ⟨n, rfl⟩ : ∃ n, m = n + 1 := ⟨m - 1, by simp only [dep] at h; omega⟩
    simp only [dep] at h
    show PM (n + 1) (110 :: ([111, 116, 32] ++ (tx p ++ r))) = _
    rw [PM_not n _ (by rfl) (by decide), show (110 :: ([111, 116, 32] ++ (tx p ++ r))) = cNOT ++ (tx p ++ r) from rfl]
    rw [strip_app, Option.bind_some, PM_tx p n r (by omega)]
    rfl
  | .bi k p q, m, r, h => by
    obtain ⟨n, rfl⟩ : ∃ n, m = n + 1 := ⟨m - 1, by simp only [dep] at h; omega⟩
    simp only [dep] at h
    have ea : tx (.bi k p q) ++ r = 40 :: (tx p ++ (opC k ++ (tx q ++ (41 :: r)))) := by simp [tx]
    rw [ea]
    rw [PM_open, PM_tx p n _ (by omega)]
    simp only [Option.bind_some, op_of, strip_app]
    rw [PM_tx q n _ (by omega)]
    simp only [Option.bind_some]
    rw [show (41 :: r) = [41] ++ r from rfl, strip_app]
    rfl
/-- what is left is an end of what was read -/
def Suf (r r' : List Nat) : Prop := ∃ n, n ≤ r.length ∧ r' = r.drop n
theorem Suf.trans {a b c : List Nat} (h : Suf a b) (h' : Suf b c) : Suf a c := by
  obtain ⟨n, h1, rfl⟩ := h
  obtain ⟨m, h2, rfl⟩ := h'
  rw [List.length_drop] at h2
  exact ⟨n + m, by omega, by rw [List.drop_drop]⟩
theorem strip_suf {p r r' : List Nat} (h : strip p r = some r') : Suf r r' ∧ r'.length + p.length = r.length := by
  unfold strip at h
  split at h
  · next e =>
    cases h
    have := congrArg List.length e
    rw [List.length_take] at this
    exact ⟨⟨p.length, by omega, rfl⟩, by rw [List.length_drop]; omega⟩
  · cases h
theorem PM_suf : ∀ (m : Nat) (r : List Nat) (φ : Fm) (r' : List Nat), PM m r = some (φ, r') → Suf r r' ∧ dep φ ≤ m
  | m, [], φ, r', h => by cases m <;> cases h
  | 0, c :: r1, φ, r', h => by
    unfold PM at h
    split at h
    · cases h; exact ⟨⟨1, by simp, rfl⟩, Nat.zero_le _⟩
    · cases h
  | m + 1, c :: r1, φ, r', h => by
    unfold PM at h
    split at h
    · cases h; exact ⟨⟨1, by simp, rfl⟩, Nat.zero_le _⟩
    split at h
    · obtain ⟨⟨one, r2⟩, e1, h⟩ := Option.bind_eq_some_iff.mp h
      obtain ⟨r3, e2, h⟩ := Option.bind_eq_some_iff.mp h
      obtain ⟨⟨oth, r4⟩, e3, h⟩ := Option.bind_eq_some_iff.mp h
      obtain ⟨r5, e4, h⟩ := Option.bind_eq_some_iff.mp h
      cases h
      obtain ⟨a1, a2⟩ := PM_suf m _ _ _ e1
      obtain ⟨b1, b2⟩ := PM_suf m _ _ _ e3
      have s0 : Suf (c :: r1) r1 := ⟨1, by simp, rfl⟩
      refine ⟨s0.trans (a1.trans ((strip_suf e2).1.trans (b1.trans (strip_suf e4).1))), ?_⟩
      simp only [dep]
      omega
    · obtain ⟨r2, e1, h⟩ := Option.bind_eq_some_iff.mp h
      obtain ⟨⟨p, r3⟩, e2, h⟩ := Option.bind_eq_some_iff.mp h
      cases h
      obtain ⟨a1, a2⟩ := PM_suf m _ _ _ e2
      refine ⟨(strip_suf e1).1.trans a1, ?_⟩
      simp only [dep]
      omega
def RF (cs : List Nat) : Option Fm := match PM 8 cs with
  | some (φ, []) => if (lv φ).length ≤ 20 then some φ else none
  | _ => none
theorem RF_tx {φ : Fm} (h : dep φ ≤ 8) (h' : (lv φ).length ≤ 20) : RF (tx φ) = some φ := by
  have := PM_tx φ 8 [] h
  rw [List.append_nil] at this
  unfold RF
  rw [this]
  exact if_pos h'
theorem RF_open {φ : Fm} (h : dep φ ≤ 7) : RF (40 :: tx φ) = none := by
  have := PM_tx φ 7 [] h
  rw [List.append_nil] at this
  have e : PM 8 (40 :: tx φ) = none := by
    rw [PM_open, this]
    rfl
  unfold RF
  rw [e]
theorem RF_close {φ : Fm} (h : dep φ ≤ 8) : RF (tx φ ++ [41]) = none := by
  unfold RF
  rw [PM_tx φ 8 [41] h]
end K08
namespace MP
open PySem

/-! evaluations that may raise: an error or a value -/
abbrev R2S := (Exn × Sto) ⊕ (W × Sto)
def b2 {α β γ : Type} (m : Option (γ ⊕ α)) (f : α → Option (γ ⊕ β)) : Option (γ ⊕ β) := m.bind fun
  | .inl x => some (.inl x)
  | .inr a => f a
@[simp] theorem b2_inl {α β γ : Type} (x : γ) (f : α → Option (γ ⊕ β)) : b2 (some (.inl x)) f = some (.inl x) := rfl
@[simp] theorem b2_inr {α β γ : Type} (a : α) (f : α → Option (γ ⊕ β)) : b2 (some (.inr a)) f = f a := rfl
@[simp] theorem b2_no {α β γ : Type} (f : α → Option (γ ⊕ β)) : b2 none f = none := rfl
def run2 (e : EX) (z : ZX) (ρ : Rho) (st : Sto) : Option R2S := match z ρ st with
  | some x => some (.inl x)
  | none => (e ρ st).map .inr
def runL (ps : List (EX × ZX)) (ρ : Rho) (st : Sto) : Option ((Exn × Sto) ⊕ (List W × Sto)) := match zList ps ρ st with
  | some x => some (.inl x)
  | none => (eList (ps.map (·.1)) ρ st).map .inr
def ix2 (st : Sto) (x y : W) : Option R2S := match missW x y with
  | some e => some (.inl (e, st))
  | none => (ixW st x y).map fun w => .inr (w, st)
def call2 (call : CX1) (callR : RX1) (f : Str) (ws : List W) (st : Sto) : Option R2S := match callR f ws st with
  | some x => some (.inl x)
  | none => (call f ws st).map .inr
theorem r_no (e : EX) (ρ : Rho) (st : Sto) : run2 e zNo ρ st = (e ρ st).map .inr := rfl
theorem rL_nil (ρ : Rho) (st : Sto) : runL [] ρ st = some (.inr ([], st)) := rfl
theorem rL_cons (e : EX) (z : ZX) (ps : List (EX × ZX)) (ρ : Rho) (st : Sto) : runL ((e, z) :: ps) ρ st = b2 (run2 e z ρ st) fun (w, st1) => b2 (runL ps ρ st1) fun (ws, st2) => some (.inr (w :: ws, st2)) := by
  unfold runL run2
  simp only [zList, List.map_cons, eList]
  cases z ρ st with
  | some x => rfl
  | none =>
    cases e ρ st with
    | none => rfl
    | some p =>
      simp only [Option.bind_some, Option.map_some, b2_inr]
      cases zList ps ρ p.2 with
      | some x => rfl
      | none => cases eList (ps.map (·.1)) ρ p.2 <;> rfl
theorem r_tup2 (a b : EX) (za zb : ZX) (ρ : Rho) (st : Sto) : run2 (eTup [a, b]) (zList [(a, za), (b, zb)]) ρ st = b2 (run2 a za ρ st) fun (x, st1) => b2 (run2 b zb ρ st1) fun (y, st2) => some (.inr (.tup [x, y], st2)) := by
  have h := rL_cons a za [(b, zb)] ρ st
  have hs : 2 ≤ sizeLine := by decide
  unfold runL at h
  unfold run2 at h ⊢
  simp only [List.map_cons, List.map_nil] at h
  unfold eTup
  cases hz : zList [(a, za), (b, zb)] ρ st with
  | some x =>
    rw [hz] at h
    simp only [zList] at hz
    cases h1 : za ρ st with
    | some y => rw [h1] at hz; simp only at hz; cases hz; rfl
    | none =>
      rw [h1] at hz
      simp only at hz ⊢
      cases h2 : a ρ st with
      | none => rw [h2] at hz; cases hz
      | some p =>
        rw [h2] at hz
        simp only [Option.bind_some, Option.map_some, b2_inr] at hz ⊢
        cases h3 : zb ρ p.2 with
        | some y => rw [h3] at hz; cases hz; rfl
        | none => rw [h3] at hz; simp only at hz; cases hb : b ρ p.2 <;> (rw [hb] at hz; cases hz)
  | none =>
    simp only [zList] at hz
    cases h1 : za ρ st with
    | some y => rw [h1] at hz; cases hz
    | none =>
      rw [h1] at hz
      simp only at hz ⊢
      cases h2 : a ρ st with
      | none => simp [eList, h2]
      | some p =>
        rw [h2] at hz
        simp only [Option.bind_some, Option.map_some, b2_inr] at hz ⊢
        cases h3 : zb ρ p.2 with
        | some y => rw [h3] at hz; cases hz
        | none =>
          simp only [eList, h2, Option.bind_some]
          cases h4 : b ρ p.2 with
          | none => rfl
          | some q => simp [hs]
theorem r_cmp (op : CmpOp) (a b : EX) (za zb : ZX) (ρ : Rho) (st : Sto) : run2 (eCmp op a b) (zList [(a, za), (b, zb)]) ρ st = b2 (run2 a za ρ st) fun (x, st1) => b2 (run2 b zb ρ st1) fun (y, st2) => (cmpW op x y).map fun k => .inr (.bl k, st2) := by
  unfold run2 eCmp
  simp only [zList]
  cases za ρ st with
  | some y => rfl
  | none =>
    cases a ρ st with
    | none => rfl
    | some p =>
      simp only [Option.bind_some, Option.map_some, b2_inr]
      cases zb ρ p.2 with
      | some y => rfl
      | none =>
        cases b ρ p.2 with
        | none => rfl
        | some q => simp only [Option.bind_some, Option.map_some, b2_inr, Option.map_map]; rfl
theorem r_ix (a b : EX) (za zb : ZX) (ρ : Rho) (st : Sto) : run2 (eIx a b) (zIx a za b zb) ρ st = b2 (run2 a za ρ st) fun (x, st1) => b2 (run2 b zb ρ st1) fun (y, st2) => ix2 st2 x y := by
  unfold run2 eIx zIx
  simp only [zList]
  cases za ρ st with
  | some y => rfl
  | none =>
    cases a ρ st with
    | none => rfl
    | some p =>
      simp only [Option.bind_some, Option.map_some, b2_inr]
      cases zb ρ p.2 with
      | some y => rfl
      | none =>
        cases b ρ p.2 with
        | none => rfl
        | some q =>
          simp only [Option.bind_some, Option.map_some, b2_inr]
          unfold ix2
          cases missW p.1 q.1 with
          | some e => rfl
          | none => simp only [Option.map_none, Option.map_map]; rfl
theorem r_and (a b : EX) (za zb : ZX) (ρ : Rho) (st : Sto) : run2 (eAnd a b) (zAnd a za zb) ρ st = b2 (run2 a za ρ st) fun (x, st1) => match x with
    | .bl k => if k = true then run2 b zb ρ st1 else some (.inr (.bl false, st1))
    | _ => none := by
  unfold run2 eAnd zAnd
  cases za ρ st with
  | some y => rfl
  | none =>
    cases a ρ st with
    | none => rfl
    | some p =>
      obtain ⟨x, st1⟩ := p
      cases x <;> first | rfl | skip
      next k => cases k <;> rfl
theorem r_or (a b : EX) (za zb : ZX) (ρ : Rho) (st : Sto) : run2 (eOr a b) (zOr a za zb) ρ st = b2 (run2 a za ρ st) fun (x, st1) => match x with
    | .bl k => if k = true then some (.inr (.bl true, st1)) else run2 b zb ρ st1
    | _ => none := by
  unfold run2 eOr zOr
  cases za ρ st with
  | some y => rfl
  | none =>
    cases a ρ st with
    | none => rfl
    | some p =>
      obtain ⟨x, st1⟩ := p
      cases x <;> first | rfl | skip
      next k => cases k <;> rfl
theorem r_call (call : CX1) (callR : RX1) (f : Str) (n : Nat) (ps : List (EX × ZX)) (es : List EX) (he : es = ps.map (·.1)) (ρ : Rho) (st : Sto) : run2 (eCall call f n es) (zCall callR f n ps) ρ st = b2 (runL ps ρ st) fun (ws, st1) => if ws.length = n then call2 call callR f ws st1 else none := by
  subst he
  unfold run2 runL eCall zCall
  cases zList ps ρ st with
  | some y => rfl
  | none =>
    cases eList (ps.map (·.1)) ρ st with
    | none => rfl
    | some p =>
      simp only [Option.bind_some, Option.map_some, b2_inr]
      by_cases h : p.1.length = n
      · rw [if_pos h, if_pos h, if_pos h]; rfl
      · rw [if_neg h, if_neg h, if_neg h]; rfl
theorem r_callV (gg : List (Str × Fn)) (call : CX1) (callR : RX1) (i : Nat) (ps : List (EX × ZX)) (es : List EX) (he : es = ps.map (·.1)) (ρ : Rho) (st : Sto) {h : Str} {d : Fn} (hi : ((ρ[i]?).bind fun w => w) = some (.fn h)) (hd : gg.lookup h = some d) :
    run2 (eCallV gg call i es) (zCallV gg callR i ps) ρ st = b2 (runL ps ρ st) fun (ws, st1) => if ws.length = d.ps.length then call2 call callR h ws st1 else none := by
  subst he
  unfold run2 runL eCallV zCallV
  rw [hi]
  simp only [Option.bind_some, hd]
  cases zList ps ρ st with
  | some y => rfl
  | none =>
    cases eList (ps.map (·.1)) ρ st with
    | none => rfl
    | some p =>
      simp only [Option.bind_some, Option.map_some, b2_inr]
      by_cases h : p.1.length = d.ps.length
      · rw [if_pos h, if_pos h, if_pos h]; rfl
      · rw [if_neg h, if_neg h, if_neg h]; rfl
/-! statements -/
abbrev S2S := (Exn × Rho × Sto) ⊕ Out
def runS (s : SX) (z : ZS) (ρ : Rho) (st : Sto) : Option S2S := match z ρ st with
  | some x => some (.inl x)
  | none => (s ρ st).map .inr
def runQ (ps : List (SX × ZS)) (ρ : Rho) (st : Sto) : Option S2S := match zSeq ps ρ st with
  | some x => some (.inl x)
  | none => (sSeq (ps.map (·.1)) ρ st).map .inr
theorem rS_no (s : SX) (ρ : Rho) (st : Sto) : runS s zsNo ρ st = (s ρ st).map .inr := rfl
theorem rS_ret (e : EX) (z : ZX) (ρ : Rho) (st : Sto) : runS (sRet e) (zSt z) ρ st = (run2 e z ρ st).bind fun
    | .inl (x, st1) => some (.inl (x, ρ, st1))
    | .inr (w, st1) => some (.inr (.rt w st1)) := by
  unfold runS run2 sRet zSt
  cases z ρ st with
  | some y => rfl
  | none => cases e ρ st <;> rfl
theorem rS_asg (i : Nat) (e : EX) (z : ZX) (ρ : Rho) (st : Sto) : runS (sAsg i e) (zSt z) ρ st = (run2 e z ρ st).bind fun
    | .inl (x, st1) => some (.inl (x, ρ, st1))
    | .inr (w, st1) => some (.inr (.nx (ρ.set i (some w)) st1)) := by
  unfold runS run2 sAsg zSt
  cases z ρ st with
  | some y => rfl
  | none => cases e ρ st <;> rfl
theorem rQ_cons (s : SX) (z : ZS) (ps : List (SX × ZS)) (ρ : Rho) (st : Sto) : runQ ((s, z) :: ps) ρ st = (runS s z ρ st).bind fun
    | .inl x => some (.inl x)
    | .inr (.nx ρ1 st1) => runQ ps ρ1 st1
    | .inr o => some (.inr o) := by
  unfold runQ runS
  simp only [zSeq, List.map_cons, sSeq]
  cases z ρ st with
  | some y => rfl
  | none =>
    cases s ρ st with
    | none => rfl
    | some o => cases o <;> rfl
theorem rQ_nil (ρ : Rho) (st : Sto) : runQ [] ρ st = some (.inr (.nx ρ st)) := rfl
/-- the answer of a def that may raise a KeyError -/
def toR (r : Option W) (st : Sto) : R2S := match r with
  | none => .inl (.key, st)
  | some w => .inr (w, st)
theorem call2_of {call : CX1} {callR : RX1} {f : Str} {n k : Nat} {ps : List (SX × ZS)} {b : SX} {z : ZS} {ws : List W} {st : Sto} {r : Option W} (hc : call f ws st = runF n k b ws st) (hr : callR f ws st = runZ n k z ws st) (hb : b = sSeq (ps.map (·.1))) (hz : z = zSeq ps) (hn : ws.length = n)
    (h : match r with | none => ∃ ρ', runQ ps (ws.map some ++ List.replicate (k - ws.length) none) st = some (.inl (.key, ρ', st)) | some w => runQ ps (ws.map some ++ List.replicate (k - ws.length) none) st = some (.inr (.rt w st)) ∧ back st.length w st = some w) (hs : st.all stillO = true) :
    call2 call callR f ws st = some (toR r st) := by
  subst hb hz
  unfold call2
  rw [hc, hr]
  unfold runZ
  rw [if_pos hn]
  cases r with
  | none =>
    obtain ⟨ρ', h⟩ := h
    unfold runQ at h
    split at h
    · next x hx =>
      cases h
      rw [hx]
      simp only [Option.bind_some, List.take_length]
      rw [if_pos ⟨hs, rfl⟩]
      rfl
    · cases hq : sSeq (ps.map (·.1)) (ws.map some ++ List.replicate (k - ws.length) none) st with
      | none => rename_i h'; rw [hq] at h; cases h
      | some o => rw [hq] at h; cases h
  | some w =>
    obtain ⟨h, hb⟩ := h
    unfold runQ at h
    split at h
    · cases h
    · next hx =>
      rw [hx]
      simp only [Option.bind_none]
      cases hq : sSeq (ps.map (·.1)) (ws.map some ++ List.replicate (k - ws.length) none) st with
      | none => rw [hq] at h; cases h
      | some o =>
        rw [hq] at h
        cases h
        rw [run_rt hn hq hb hs]
        rfl
end MP
namespace MP
open PySem

/-! statements that may raise, step by step -/
theorem zL_no : ∀ (es : List EX) (ρ : Rho) (st : Sto), zList (es.map fun e => (e, zNo)) ρ st = none
  | [], ρ, st => rfl
  | e :: es, ρ, st => by
    rw [List.map_cons]
    unfold zList
    show (e ρ st).bind _ = none
    cases e ρ st with
    | none => rfl
    | some p => exact zL_no es ρ p.2
theorem r_z {e : EX} {z : ZX} {ρ : Rho} {st : Sto} (h : z ρ st = none) : run2 e z ρ st = (e ρ st).map .inr := by
  unfold run2
  rw [h]
theorem rS_z {s : SX} {z : ZX} {ρ : Rho} {st : Sto} (h : z ρ st = none) : runS s (zSt z) ρ st = (s ρ st).map .inr := by
  unfold runS zSt
  rw [h]
  rfl
theorem rS_if (t : TX) (as bs : List SX) (za zb : List (SX × ZS)) (ha : as = za.map (·.1)) (hb : bs = zb.map (·.1)) (ρ : Rho) (st : Sto) : runS (sIf t as bs) (zIf t za zb) ρ st = (t ρ st).bind fun (k, st1) => if k = true then runQ za ρ st1 else runQ zb ρ st1 := by
  subst ha hb
  unfold runS sIf zIf runQ
  cases t ρ st with
  | none => rfl
  | some p =>
    obtain ⟨k, st1⟩ := p
    cases k <;> rfl
theorem rS_tup (is : List Nat) (e : EX) (z : ZX) (ρ : Rho) (st : Sto) : runS (sTup is e) (zSt z) ρ st = (run2 e z ρ st).bind fun
    | .inl (x, st1) => some (.inl (x, ρ, st1))
    | .inr (w, st1) => (aTup is w ρ).map fun ρ1 => .inr (.nx ρ1 st1) := by
  unfold runS run2 sTup zSt
  cases z ρ st with
  | some y => rfl
  | none =>
    cases e ρ st with
    | none => rfl
    | some p => obtain ⟨w, st1⟩ := p; simp only [Option.map_none, Option.map_some, Option.bind_some, Option.map_map]; rfl
theorem rS_do (e : EX) (z : ZX) (ρ : Rho) (st : Sto) : runS (sDo e) (zSt z) ρ st = (run2 e z ρ st).bind fun
    | .inl (x, st1) => some (.inl (x, ρ, st1))
    | .inr (_, st1) => some (.inr (.nx ρ st1)) := by
  unfold runS run2 sDo zSt
  cases z ρ st with
  | some y => rfl
  | none => cases e ρ st <;> rfl
theorem rS_rai (x : Str) (e : EX) (ρ : Rho) (st : Sto) : runS sNo (zRai x e) ρ st = (e ρ st).map fun (_, st1) => .inl (.own x none, ρ, st1) := by
  unfold runS zRai sNo
  cases e ρ st <;> rfl
theorem rS_raiV (x : Str) (e : EX) (ρ : Rho) (st : Sto) : runS sNo (zRaiV x e) ρ st = (e ρ st).map fun (w, st1) => .inl (.own x (some w), ρ, st1) := by
  unfold runS zRaiV sNo
  cases e ρ st <;> rfl
/-- a def's end, by its statements -/
theorem call2_val {call : CX1} {callR : RX1} {f : Str} {n k : Nat} {ps : List (SX × ZS)} {b : SX} {ws : List W} {st : Sto} {w : W} (hc : call f ws st = runF n k b ws st) (hr : callR f ws st = runZ n k (zSeq ps) ws st) (hb : b = sSeq (ps.map (·.1))) (hn : ws.length = n)
    (h : runQ ps (ws.map some ++ List.replicate (k - ws.length) none) st = some (.inr (.rt w st))) (hw : back st.length w st = some w) (hs : st.all stillO = true) : call2 call callR f ws st = some (.inr (w, st)) := by
  subst hb
  unfold call2
  rw [hc, hr]
  unfold runZ
  rw [if_pos hn]
  unfold runQ at h
  split at h
  · cases h
  · next hx =>
    rw [hx]
    simp only [Option.bind_none]
    cases hq : sSeq (ps.map (·.1)) (ws.map some ++ List.replicate (k - ws.length) none) st with
    | none => rw [hq] at h; cases h
    | some o =>
      rw [hq] at h
      cases h
      rw [run_rt hn hq hw hs]
      rfl
theorem call2_nx {call : CX1} {callR : RX1} {f : Str} {n k : Nat} {ps : List (SX × ZS)} {b : SX} {ws : List W} {st : Sto} {ρ : Rho} (hc : call f ws st = runF n k b ws st) (hr : callR f ws st = runZ n k (zSeq ps) ws st) (hb : b = sSeq (ps.map (·.1))) (hn : ws.length = n)
    (h : runQ ps (ws.map some ++ List.replicate (k - ws.length) none) st = some (.inr (.nx ρ st))) (hs : st.all stillO = true) : call2 call callR f ws st = some (.inr (.non, st)) := by
  subst hb
  unfold call2
  rw [hc, hr]
  unfold runZ
  rw [if_pos hn]
  unfold runQ at h
  split at h
  · cases h
  · next hx =>
    rw [hx]
    simp only [Option.bind_none]
    cases hq : sSeq (ps.map (·.1)) (ws.map some ++ List.replicate (k - ws.length) none) st with
    | none => rw [hq] at h; cases h
    | some o =>
      rw [hq] at h
      cases h
      rw [run_nx hn hq hs]
      rfl
theorem runZ_err {n k : Nat} {ps : List (SX × ZS)} {ws : List W} {st : Sto} {x : Exn} {ρ : Rho} (hn : ws.length = n) (h : runQ ps (ws.map some ++ List.replicate (k - ws.length) none) st = some (.inl (x, ρ, st))) (hx : stillX x = true) (hs : st.all stillO = true) : runZ n k (zSeq ps) ws st = some (x, st) := by
  unfold runZ
  rw [if_pos hn]
  unfold runQ at h
  split at h
  · next y hy =>
    cases h
    rw [hy]
    simp only [Option.bind_some, List.take_length]
    rw [if_pos ⟨hs, hx⟩]
  · cases hq : sSeq (ps.map (·.1)) (ws.map some ++ List.replicate (k - ws.length) none) st with
    | none => rw [hq] at h; cases h
    | some o => rw [hq] at h; cases h
theorem call2_err {call : CX1} {callR : RX1} {f : Str} {n k : Nat} {ps : List (SX × ZS)} {ws : List W} {st : Sto} {x : Exn} {ρ : Rho} (hr : callR f ws st = runZ n k (zSeq ps) ws st) (hn : ws.length = n)
    (h : runQ ps (ws.map some ++ List.replicate (k - ws.length) none) st = some (.inl (x, ρ, st))) (hx : stillX x = true) (hs : st.all stillO = true) : call2 call callR f ws st = some (.inl (x, st)) := by
  unfold call2
  rw [hr, runZ_err hn h hx hs]
theorem call2_inr {call : CX1} {callR : RX1} {f : Str} {ws : List W} {st st1 : Sto} {w : W} (h : call2 call callR f ws st = some (.inr (w, st1))) : callR f ws st = none ∧ call f ws st = some (w, st1) := by
  unfold call2 at h
  split at h
  · cases h
  · next hx =>
    obtain ⟨p, h1, h2⟩ := Option.map_eq_some_iff.mp h
    cases h2
    exact ⟨hx, h1⟩
theorem call2_inl {call : CX1} {callR : RX1} {f : Str} {ws : List W} {st st1 : Sto} {x : Exn} (h : call2 call callR f ws st = some (.inl (x, st1))) : callR f ws st = some (x, st1) := by
  unfold call2 at h
  split at h
  · next hx => cases h; exact hx
  · obtain ⟨p, h1, h2⟩ := Option.map_eq_some_iff.mp h
    cases h2
theorem rQ_skip {t : TX} {as : List SX} {za : List (SX × ZS)} {ps : List (SX × ZS)} {ρ : Rho} {st st1 : Sto} (ht : t ρ st = some (false, st1)) : runQ ((sIf t as [], zIf t za []) :: ps) ρ st = runQ ps ρ st1 := by
  rw [rQ_cons]
  unfold runS sIf zIf
  rw [ht]
  rfl
theorem rQ_in1 {t : TX} {s : SX} {z : ZS} {bs : List SX} {zb : List (SX × ZS)} {ps : List (SX × ZS)} {ρ : Rho} {st st1 : Sto} {r : S2S} (ht : t ρ st = some (true, st1)) (hs : runS s z ρ st1 = some r) (hr : ∀ ρ1 st2, r ≠ .inr (.nx ρ1 st2)) :
    runQ ((sIf t [s] bs, zIf t [(s, z)] zb) :: ps) ρ st = some r := by
  rw [rQ_cons]
  have e : runS (sIf t [s] bs) (zIf t [(s, z)] zb) ρ st = some r := by
    unfold runS sIf zIf
    rw [ht]
    simp only [Option.bind_some, if_true]
    have q := rQ_cons s z [] ρ st1
    rw [hs] at q
    unfold runQ at q
    simp only [List.map_cons, List.map_nil] at q
    rw [q]
    cases r with
    | inl x => rfl
    | inr o =>
      cases o with
      | nx ρ1 st2 => exact absurd rfl (hr ρ1 st2)
      | rt w st2 => rfl
      | bk ρ1 st2 => rfl
      | ct ρ1 st2 => rfl
  rw [e]
  cases r with
  | inl x => rfl
  | inr o =>
    cases o with
    | nx ρ1 st2 => exact absurd rfl (hr ρ1 st2)
    | rt w st2 => rfl
    | bk ρ1 st2 => rfl
    | ct ρ1 st2 => rfl
theorem rQ_nx {s : SX} {z : ZX} {ps : List (SX × ZS)} {ρ ρ1 : Rho} {st st1 : Sto} (hz : z ρ st = none) (hs : s ρ st = some (.nx ρ1 st1)) : runQ ((s, zSt z) :: ps) ρ st = runQ ps ρ1 st1 := by
  rw [rQ_cons, rS_z hz, hs]
  rfl
theorem rQ_rt {s : SX} {z : ZX} {ps : List (SX × ZS)} {ρ : Rho} {st st1 : Sto} {w : W} (hz : z ρ st = none) (hs : s ρ st = some (.rt w st1)) : runQ ((s, zSt z) :: ps) ρ st = some (.inr (.rt w st1)) := by
  rw [rQ_cons, rS_z hz, hs]
  rfl
theorem rQ_err {s : SX} {z : ZS} {ps : List (SX × ZS)} {ρ : Rho} {st : Sto} {x : Exn × Rho × Sto} (hs : runS s z ρ st = some (.inl x)) : runQ ((s, z) :: ps) ρ st = some (.inl x) := by
  rw [rQ_cons, hs]
  rfl
theorem rQ_go {s : SX} {z : ZS} {ps : List (SX × ZS)} {ρ ρ1 : Rho} {st st1 : Sto} (hs : runS s z ρ st = some (.inr (.nx ρ1 st1))) : runQ ((s, z) :: ps) ρ st = runQ ps ρ1 st1 := by
  rw [rQ_cons, hs]
  rfl
theorem rQ_end {s : SX} {z : ZS} {ps : List (SX × ZS)} {ρ : Rho} {st st1 : Sto} {w : W} (hs : runS s z ρ st = some (.inr (.rt w st1))) : runQ ((s, z) :: ps) ρ st = some (.inr (.rt w st1)) := by
  rw [rQ_cons, hs]
  rfl
theorem r_call3 {call : CX1} {callR : RX1} {f : Str} {e1 e2 e3 : EX} {z1 z2 z3 : ZX} {ρ : Rho} {st st1 : Sto} {x y z : W} (h : runL [(e1, z1), (e2, z2), (e3, z3)] ρ st = some (.inr ([x, y, z], st1))) :
    run2 (eCall call f 3 [e1, e2, e3]) (zCall callR f 3 [(e1, z1), (e2, z2), (e3, z3)]) ρ st = call2 call callR f [x, y, z] st1 := by
  have := r_call call callR f 3 [(e1, z1), (e2, z2), (e3, z3)] [e1, e2, e3] rfl ρ st
  rw [h] at this
  exact this
theorem r_call3e {call : CX1} {callR : RX1} {f : Str} {e1 e2 e3 : EX} {z1 z2 z3 : ZX} {ρ : Rho} {st : Sto} {x : Exn × Sto} (h : runL [(e1, z1), (e2, z2), (e3, z3)] ρ st = some (.inl x)) :
    run2 (eCall call f 3 [e1, e2, e3]) (zCall callR f 3 [(e1, z1), (e2, z2), (e3, z3)]) ρ st = some (.inl x) := by
  have := r_call call callR f 3 [(e1, z1), (e2, z2), (e3, z3)] [e1, e2, e3] rfl ρ st
  rw [h] at this
  exact this
theorem r_call1 {call : CX1} {callR : RX1} {f : Str} {e1 : EX} {z1 : ZX} {ρ : Rho} {st st1 : Sto} {x : W} (h : run2 e1 z1 ρ st = some (.inr (x, st1))) :
    run2 (eCall call f 1 [e1]) (zCall callR f 1 [(e1, z1)]) ρ st = call2 call callR f [x] st1 := by
  have := r_call call callR f 1 [(e1, z1)] [e1] rfl ρ st
  rw [rL_cons, h] at this
  exact this
theorem rL3 {e1 e2 e3 : EX} {z1 z2 z3 : ZX} {ρ : Rho} {st st1 st2 st3 : Sto} {x y z : W} (h1 : run2 e1 z1 ρ st = some (.inr (x, st1))) (h2 : run2 e2 z2 ρ st1 = some (.inr (y, st2))) (h3 : run2 e3 z3 ρ st2 = some (.inr (z, st3))) :
    runL [(e1, z1), (e2, z2), (e3, z3)] ρ st = some (.inr ([x, y, z], st3)) := by
  simp only [rL_cons, h1, b2_inr, h2, h3, rL_nil]
theorem rL3e {e1 e2 e3 : EX} {z1 z2 z3 : ZX} {ρ : Rho} {st st1 : Sto} {x : W} {y : Exn × Sto} (h1 : run2 e1 z1 ρ st = some (.inr (x, st1))) (h2 : run2 e2 z2 ρ st1 = some (.inl y)) :
    runL [(e1, z1), (e2, z2), (e3, z3)] ρ st = some (.inl y) := by
  simp only [rL_cons, h1, b2_inr, h2, b2_inl]
theorem r_n {e : EX} {ρ : Rho} {st st1 : Sto} {w : W} (h : e ρ st = some (w, st1)) : run2 e zNo ρ st = some (.inr (w, st1)) := by rw [r_no, h]; rfl
theorem rS_tupv {is : List Nat} {e : EX} {z : ZX} {ρ ρ1 : Rho} {st st1 : Sto} {w : W} (h : run2 e z ρ st = some (.inr (w, st1))) (ha : aTup is w ρ = some ρ1) : runS (sTup is e) (zSt z) ρ st = some (.inr (.nx ρ1 st1)) := by
  rw [rS_tup, h, Option.bind_some]
  dsimp only
  rw [ha]
  rfl
theorem rS_tupe {is : List Nat} {e : EX} {z : ZX} {ρ : Rho} {st st1 : Sto} {x : Exn} (h : run2 e z ρ st = some (.inl (x, st1))) : runS (sTup is e) (zSt z) ρ st = some (.inl (x, ρ, st1)) := by
  rw [rS_tup, h]
  rfl
theorem rS_retv {e : EX} {z : ZX} {ρ : Rho} {st st1 : Sto} {w : W} (h : run2 e z ρ st = some (.inr (w, st1))) : runS (sRet e) (zSt z) ρ st = some (.inr (.rt w st1)) := by
  rw [rS_ret, h]
  rfl
theorem rS_rete {e : EX} {z : ZX} {ρ : Rho} {st st1 : Sto} {x : Exn} (h : run2 e z ρ st = some (.inl (x, st1))) : runS (sRet e) (zSt z) ρ st = some (.inl (x, ρ, st1)) := by
  rw [rS_ret, h]
  rfl
end MP
namespace K08
open PySem MP
open L2 (atI ixN cutS Key)
/-! texts by their signs -/
def Sx (cs : List Nat) : Str := ⟨cs.toArray⟩
theorem Sx_list (cs : List Nat) : (Sx cs).cps.toList = cs := rfl
theorem Sx_of (t : Str) : Sx t.cps.toList = t := rfl
theorem Sx_len (cs : List Nat) : (Sx cs).length = cs.length := by show cs.toArray.size = _; simp
theorem Sx_inj {a b : List Nat} : (Sx a = Sx b) ↔ a = b := by
  constructor
  · intro h
    have := congrArg (fun s : Str => s.cps.toList) h
    simpa [Sx] using this
  · rintro rfl; rfl
theorem cut_at (cs : List Nat) (i n : Nat) (h : i ≤ cs.length) : cutS (Sx cs) (some (i : Int)) (some ((i + n : Nat) : Int)) = Sx ((cs.drop i).take n) := by
  unfold cutS
  rw [HT.sIx_nat, HT.sIx_nat, Sx_list, Sx_len]
  have e1 : min i cs.length = i := Nat.min_eq_left h
  rw [e1]
  show Sx _ = Sx _
  rw [Sx_inj]
  by_cases hn : i + n ≤ cs.length
  · rw [Nat.min_eq_left hn, show i + n - i = n by omega]
  · rw [Nat.min_eq_right (by omega), List.take_of_length_le (by rw [List.length_drop]; omega), List.take_of_length_le (by rw [List.length_drop]; omega)]
theorem k_len : 1000 ≤ sizeLine := by decide
theorem sl_at {cs : List Nat} {i n : Nat} (hl : cs.length ≤ 1000) (h : i ≤ cs.length) : slW (.str (Sx cs)) (some (i : Int)) (some ((i + n : Nat) : Int)) = some (.str (Sx ((cs.drop i).take n))) := by
  show (if (Sx cs).length ≤ sizeLine then some (W.str (cutS (Sx cs) _ _)) else none) = _
  have := k_len
  rw [if_pos (by rw [Sx_len]; omega), cut_at cs i n h]
theorem len_str {st : Sto} {cs : List Nat} (hl : cs.length ≤ 1000) : callB st "len" [.str (Sx cs)] = some (.int (cs.length : Nat)) := by
  have e : callB st "len" [.str (Sx cs)] = (lenW st (.str (Sx cs))).map fun (n : Nat) => W.int (n : Int) := Eq.trans rfl rfl
  rw [e]
  have := k_len
  unfold lenW
  dsimp only
  rw [if_pos (by rw [Sx_len]; omega), Sx_len]
  rfl
theorem in_strs (s : Str) (l : List Str) : cmpW .In (.str s) (.tup (l.map .str)) = some (l.any fun y => y == s) := by
  show inSeq (.str s) (l.map W.str) = _
  unfold inSeq
  have : (l.map W.str).all flatW = true := by simp [flatW]
  rw [if_pos ⟨rfl, this⟩, List.any_map]
  rfl
theorem leaf_other {K : Nat} (hK : 0 < K) (st : Sto) (hr : st.all stillO = true) {cs : List Nat} (h : ∀ x, cs ≠ [lc x]) : callK g K "is_leaf" [.str (Sx cs)] st = some (.bl false, st) := by
  obtain ⟨k, rfl⟩ : ∃ k, K = k + 1 := ⟨K - 1, by omega⟩
  rw [c_is_leaf]
  refine run_rt rfl ?_ rfl hr
  show b_is_leaf (callK g k) [some (.str (Sx cs))] st = _
  have q : ∀ x : Lf, (ls x == Sx cs) = false := fun x => beq_eq_false_iff_ne.mpr fun z => by
    have z : Sx [lc x] = Sx cs := z
    exact h x (Sx_inj.mp z).symm
  have e1 : cmpW .In (.str (Sx cs)) k_LETTERS = some false := by
    refine (in_strs (Sx cs) ["a", "b", "c", "d", "e"]).trans ?_
    have := q .a; have := q .b; have := q .c; have := q .d; have := q .e
    simp only [List.any_cons, List.any_nil, show ("a" : Str) = ls .a by decide +kernel, show ("b" : Str) = ls .b by decide +kernel, show ("c" : Str) = ls .c by decide +kernel, show ("d" : Str) = ls .d by decide +kernel, show ("e" : Str) = ls .e by decide +kernel, q, Bool.or_false]
  have e2 : cmpW .In (.str (Sx cs)) k_ANSWERS = some false := by
    refine (in_strs (Sx cs) ["f", "t", "u"]).trans ?_
    simp only [List.any_cons, List.any_nil, show ("f" : Str) = ls .f by decide +kernel, show ("t" : Str) = ls .t by decide +kernel, show ("u" : Str) = ls .u by decide +kernel, q, Bool.or_false]
  simp [b_is_leaf, e1, e2]
/-! behind -/
/-- the signs that are looked for -/
def Sign (s : Str) : Prop := s.length ≤ 5 ∧ ∃ z, ∀ (ρ : Rho) (st : Sto), ((ρ[2]?).bind fun w => w) = some (.str s) → eJoin [eVal (.str "no "), eFmtR (eVar 2), eVal (.str " where it has to stand")] ρ st = some (.str z, st)
theorem join_no {s : Str} (h1 : s.length ≤ 5) (h2 : (reprText s).length ≤ 100) : Sign s := by
  refine ⟨h1, ((Str.empty ++ ("no " : Str)) ++ reprText s) ++ (" where it has to stand" : Str), fun ρ st h => ?_⟩
  have hl : (reprText s).length ≤ sizeLine := Nat.le_trans h2 (by decide)
  have e1 : eFmtR (eVar 2) ρ st = some (.str (reprText s), st) := by
    simp [h, hl]
  unfold eJoin eParts
  simp only [x_eVal, Option.bind_some]
  have a1 : (Str.empty ++ ("no " : Str)).length = 3 := by decide +kernel
  have a2 : ((Str.empty ++ ("no " : Str)) ++ reprText s).length = 3 + (reprText s).length := by rw [Str.length_append, a1]
  have a3 : (((Str.empty ++ ("no " : Str)) ++ reprText s) ++ (" where it has to stand" : Str)).length = 3 + (reprText s).length + 22 := by
    rw [Str.length_append, a2]
    rfl
  have bs := k_len
  rw [if_pos (by rw [a1]; omega)]
  unfold eParts
  rw [e1]
  simp only [Option.bind_some]
  rw [if_pos (by rw [a2]; omega)]
  unfold eParts
  simp only [x_eVal, Option.bind_some]
  rw [if_pos (by rw [a3]; omega)]
  rfl
theorem behind_at {K : Nat} (hK : 0 < K) (st : Sto) (hr : st.all stillO = true) {cs sg : List Nat} (hs : Sign (Sx sg)) {i : Nat} (hl : cs.length ≤ 1000) (hi : i ≤ cs.length) :
    call2 (callK g K) (callR g K) "behind" [.str (Sx cs), .int (i : Nat), .str (Sx sg)] st = some (match strip sg (cs.drop i) with
      | none => .inl (.own "InvalidText" none, st)
      | some _ => .inr (.int ((i + sg.length : Nat) : Int), st)) := by
  obtain ⟨k, rfl⟩ : ∃ k, K = k + 1 := ⟨K - 1, by omega⟩
  obtain ⟨h5, z, hz⟩ := hs
  rw [Sx_len] at h5
  have z1 : sAsg 3 (eBin .Add (eVar 1) (eBlt "len" [eVar 2])) [some (.str (Sx cs)), some (.int (i : Nat)), some (.str (Sx sg)), none] st = some (.nx [some (.str (Sx cs)), some (.int (i : Nat)), some (.str (Sx sg)), some (.int ((i + sg.length : Nat) : Int))] st) := by
    have := len_str (st := st) (cs := sg) (by omega)
    simp [this]
  have t : tCmp .NotEq (eSl (eVar 0) (some (eVar 1)) (some (eVar 3))) (eVar 2) [some (.str (Sx cs)), some (.int (i : Nat)), some (.str (Sx sg)), some (.int ((i + sg.length : Nat) : Int))] st = some (!decide ((cs.drop i).take sg.length = sg), st) := by
    have := sl_at (n := sg.length) hl hi
    rw [x_tCmp]
    generalize ((i + sg.length : Nat) : Int) = j at *
    simp [this, Sx_inj]
  unfold strip
  by_cases hc : (cs.drop i).take sg.length = sg
  · rw [if_pos hc]
    refine call2_val (c_behind k _ _) (r_behind k _ _) rfl rfl ?_ rfl hr
    show runQ (l_behind (callK g k) (callR g k)) [some (.str (Sx cs)), some (.int (i : Nat)), some (.str (Sx sg)), none] st = _
    unfold l_behind
    rw [rQ_nx (by rfl) z1, rQ_skip (st1 := st) (by rw [t, hc]; simp), rQ_rt (by rfl) (by rfl)]
  · rw [if_neg hc]
    refine call2_err (ρ := [some (.str (Sx cs)), some (.int (i : Nat)), some (.str (Sx sg)), some (.int ((i + sg.length : Nat) : Int))]) (r_behind k _ _) rfl ?_ rfl hr
    show runQ (l_behind (callK g k) (callR g k)) [some (.str (Sx cs)), some (.int (i : Nat)), some (.str (Sx sg)), none] st = _
    unfold l_behind
    rw [rQ_nx (by rfl) z1]
    refine rQ_in1 (st1 := st) (by rw [t]; simp [hc]) (by rw [rS_rai, hz _ st rfl]; rfl) (fun _ _ h => by cases h)
theorem sign_not : Sign (Sx cNOT) := join_no (by decide) (by decide +kernel)
theorem sign_op (k : Bool) : Sign (Sx (opC k)) := by cases k <;> exact join_no (by decide) (by decide +kernel)
theorem sign_end : Sign (Sx [41]) := join_no (by decide) (by decide +kernel)
/-! a part -/
def RP (L : Nat) (st : Sto) (o : Option (Fm × List Nat)) : R2S := match o with
  | none => .inl (.own "InvalidText" none, st)
  | some (φ, r) => .inr (.tup [fW φ, .int ((L - r.length : Nat) : Int)], st)
theorem back_two (n : Nat) (φ : Fm) (i : Int) (st : Sto) : back n (.tup [fW φ, .int i]) st = some (.tup [fW φ, .int i]) := by
  show (if stillA [fW φ, .int i] = true then _ else _) = _
  rw [if_pos]
  simp [stillA, still_f, still]
section
variable (st : Sto) (hr : st.all stillO = true) {cs : List Nat} (hl : cs.length ≤ 1000)
include hr hl
/-- what read_joined makes -/
def JM (m : Nat) (r1 : List Nat) : Option (Fm × List Nat) := (PM m r1).bind fun (one, r2) => (strip (opC (decide (r2.take 5 = cAND))) r2).bind fun r3 => (PM m r3).bind fun (oth, r4) => (strip [41] r4).bind fun r5 => some (.bi (decide (r2.take 5 = cAND)) one oth, r5)
theorem joined_at {K m : Nat} (hK : 0 < K) (ih : ∀ j, j ≤ cs.length → call2 (callK g K) (callR g K) "read_part" [.str (Sx cs), .int (j : Nat), .int (m : Nat)] st = some (RP cs.length st (PM m (cs.drop j)))) {i : Nat} (hi : i ≤ cs.length) :
    call2 (callK g (K + 1)) (callR g (K + 1)) "read_joined" [.str (Sx cs), .int (i : Nat), .int ((m + 1 : Nat) : Int)] st = some (RP cs.length st (JM m (cs.drop i))) := by
  have mi : ((m + 1 : Nat) : Int) - 1 = (m : Nat) := by omega
  generalize ((m + 1 : Nat) : Int) = mm at mi ⊢
  have arg : ∀ (ρ : Rho), ρ[0]? = some (some (.str (Sx cs))) → run2 (eVar 0) zNo ρ st = some (.inr (.str (Sx cs), st)) := fun ρ h => r_n (by simp [h])
  have sub : ∀ (ρ : Rho), ρ[2]? = some (some (.int mm)) → run2 (eBin .Sub (eVar 2) (eVal (.int 1))) zNo ρ st = some (.inr (.int (m : Nat), st)) := fun ρ h => r_n (by simp [h, mi])
  have sufL : ∀ {j : Nat} {n : Nat} {φ : Fm} {r' : List Nat}, j ≤ cs.length → PM n (cs.drop j) = some (φ, r') → ∃ j', j' ≤ cs.length ∧ r' = cs.drop j' ∧ cs.length - r'.length = j' := fun {j n φ r'} hj h => by
    obtain ⟨⟨a, ha, rfl⟩, _⟩ := PM_suf _ _ _ _ h
    rw [List.length_drop] at ha
    refine ⟨j + a, by omega, by rw [List.drop_drop], ?_⟩
    rw [List.length_drop, List.length_drop]
    omega
  have start : ([.str (Sx cs), .int (i : Nat), .int mm] : List W).map some ++ List.replicate (7 - 3) none = [some (.str (Sx cs)), some (.int (i : Nat)), some (.int mm), none, none, none, none] := rfl
  have q1 : run2 (eCall (callK g K) "read_part" 3 [eVar 0, eVar 1, eBin .Sub (eVar 2) (eVal (.int 1))]) (zCall (callR g K) "read_part" 3 [(eVar 0, zNo), (eVar 1, zNo), (eBin .Sub (eVar 2) (eVal (.int 1)), zNo)]) [some (.str (Sx cs)), some (.int (i : Nat)), some (.int mm), none, none, none, none] st = some (RP cs.length st (PM m (cs.drop i))) :=
    (r_call3 (rL3 (arg _ rfl) (r_n (by simp)) (sub _ rfl))).trans (ih i hi)
  unfold JM
  cases h1 : PM m (cs.drop i) with
  | none =>
    rw [h1] at q1
    refine call2_err (ρ := [some (.str (Sx cs)), some (.int (i : Nat)), some (.int mm), none, none, none, none]) (r_read_joined K _ _) rfl ?_ rfl hr
    show runQ (l_read_joined (callK g K) (callR g K)) _ st = _
    exact rQ_err (rS_tupe q1)
  | some p =>
  obtain ⟨one, r2⟩ := p
  rw [h1] at q1
  obtain ⟨j, hj, rfl, ej⟩ := sufL hi h1
  have q1 : run2 (eCall (callK g K) "read_part" 3 [eVar 0, eVar 1, eBin .Sub (eVar 2) (eVal (.int 1))]) (zCall (callR g K) "read_part" 3 [(eVar 0, zNo), (eVar 1, zNo), (eBin .Sub (eVar 2) (eVal (.int 1)), zNo)]) [some (.str (Sx cs)), some (.int (i : Nat)), some (.int mm), none, none, none, none] st = some (.inr (.tup [fW one, .int (j : Nat)], st)) := by
    rw [q1]
    unfold RP
    dsimp only
    rw [ej]
  obtain ⟨b, hb⟩ : ∃ b, b = decide ((cs.drop j).take 5 = cAND) := ⟨_, rfl⟩
  simp only [Option.bind_some, ← hb]
  have z2 : sAsg 5 (eIf (tCmp .Eq (eSl (eVar 0) (some (eVar 4)) (some (eBin .Add (eVar 4) (eVal (.int 5))))) (eVal (.str " and "))) (eVal (.str "and")) (eVal (.str "or"))) [some (.str (Sx cs)), some (.int (i : Nat)), some (.int mm), some (fW one), some (.int (j : Nat)), none, none] st =
      some (.nx [some (.str (Sx cs)), some (.int (i : Nat)), some (.int mm), some (fW one), some (.int (j : Nat)), some (.str (opS b)), none] st) := by
    have s := sl_at (n := 5) hl hj
    have e : ((j : Nat) : Int) + 5 = ((j + 5 : Nat) : Int) := by omega
    have c : (decide (Sx ((cs.drop j).take 5) = (" and " : Str))) = b := by
      rw [hb]
      refine decide_eq_decide.mpr ?_
      rw [show (" and " : Str) = Sx cAND by decide +kernel, Sx_inj]
    have eo : eIf (tCmp .Eq (eSl (eVar 0) (some (eVar 4)) (some (eBin .Add (eVar 4) (eVal (.int 5))))) (eVal (.str " and "))) (eVal (.str "and")) (eVal (.str "or")) [some (.str (Sx cs)), some (.int (i : Nat)), some (.int mm), some (fW one), some (.int (j : Nat)), none, none] st = some (.str (opS b), st) := by
      have t : tCmp .Eq (eSl (eVar 0) (some (eVar 4)) (some (eBin .Add (eVar 4) (eVal (.int 5))))) (eVal (.str " and ")) [some (.str (Sx cs)), some (.int (i : Nat)), some (.int mm), some (fW one), some (.int (j : Nat)), none, none] st = some (b, st) := by
        rw [x_tCmp]
        generalize ((j + 5 : Nat) : Int) = j5 at *
        simp [e, s, c]
      rw [x_eIf, t]
      cases b <;> rfl
    simp only [x_sAsg, eo, Option.bind_some]
    rfl
  obtain ⟨ρ3, h3⟩ : ∃ ρ3 : Rho, ρ3 = [some (.str (Sx cs)), some (.int (i : Nat)), some (.int mm), some (fW one), some (.int (j : Nat)), some (.str (opS b)), none] := ⟨_, rfl⟩
  have go2 : ∀ r, runQ ((l_read_joined (callK g K) (callR g K)).drop 2) ρ3 st = r → runQ (l_read_joined (callK g K) (callR g K)) [some (.str (Sx cs)), some (.int (i : Nat)), some (.int mm), none, none, none, none] st = r := fun r hr2 => by
    unfold l_read_joined at hr2 ⊢
    rw [rQ_go (rS_tupv q1 rfl)]
    refine (rQ_nx (by rfl) z2).trans ?_
    rw [← h3]
    exact hr2
  have jn : eJoin [eVal (.str " "), eFmt (eVar 5), eVal (.str " ")] ρ3 st = some (.str (Sx (opC b)), st) := by
    rw [h3]
    cases b
    · exact (show _ = some (W.str (((Str.empty ++ (" " : Str)) ++ ("or" : Str)) ++ (" " : Str)), st) from by kernel_rfl).trans (by rw [show (((Str.empty ++ (" " : Str)) ++ ("or" : Str)) ++ (" " : Str)) = Sx cOR by decide +kernel]; rfl)
    · exact (show _ = some (W.str (((Str.empty ++ (" " : Str)) ++ ("and" : Str)) ++ (" " : Str)), st) from by kernel_rfl).trans (by rw [show (((Str.empty ++ (" " : Str)) ++ ("and" : Str)) ++ (" " : Str)) = Sx cAND by decide +kernel]; rfl)
  have bh := behind_at hK st hr (sign_op b) hl hj
  have bq : run2 (eCall (callK g K) "behind" 3 [eVar 0, eVar 4, eJoin [eVal (.str " "), eFmt (eVar 5), eVal (.str " ")]]) (zCall (callR g K) "behind" 3 [(eVar 0, zNo), (eVar 4, zNo), (eJoin [eVal (.str " "), eFmt (eVar 5), eVal (.str " ")], zNo)]) ρ3 st = _ :=
    (r_call3 (rL3 (arg ρ3 (by rw [h3]; rfl)) (r_n (by rw [h3]; simp)) (r_n jn))).trans bh
  cases h2 : strip (opC b) (cs.drop j) with
  | none =>
    rw [h2] at bq
    refine call2_err (ρ := ρ3) (r_read_joined K _ _) rfl ?_ rfl hr
    exact go2 _ (rQ_err (rS_tupe (r_call3e (rL3e (arg ρ3 (by rw [h3]; rfl)) bq))))
  | some r3 =>
  rw [h2] at bq
  obtain ⟨hs1, hs2⟩ := strip_suf h2
  have er3 : r3 = cs.drop (j + (opC b).length) := by
    unfold strip at h2
    split at h2
    · cases h2; rw [List.drop_drop]
    · cases h2
  rw [List.length_drop] at hs2
  have hj2 : j + (opC b).length ≤ cs.length := by omega
  generalize j + (opC b).length = j2 at *
  subst er3
  have q3 : run2 (eCall (callK g K) "read_part" 3 [eVar 0, eCall (callK g K) "behind" 3 [eVar 0, eVar 4, eJoin [eVal (.str " "), eFmt (eVar 5), eVal (.str " ")]], eBin .Sub (eVar 2) (eVal (.int 1))])
      (zCall (callR g K) "read_part" 3 [(eVar 0, zNo), (eCall (callK g K) "behind" 3 [eVar 0, eVar 4, eJoin [eVal (.str " "), eFmt (eVar 5), eVal (.str " ")]], zCall (callR g K) "behind" 3 [(eVar 0, zNo), (eVar 4, zNo), (eJoin [eVal (.str " "), eFmt (eVar 5), eVal (.str " ")], zNo)]), (eBin .Sub (eVar 2) (eVal (.int 1)), zNo)]) ρ3 st = some (RP cs.length st (PM m (cs.drop j2))) :=
    (r_call3 (rL3 (arg ρ3 (by rw [h3]; rfl)) bq (sub ρ3 (by rw [h3]; rfl)))).trans (ih j2 hj2)
  simp only [Option.bind_some]
  cases h4 : PM m (cs.drop j2) with
  | none =>
    rw [h4] at q3
    refine call2_err (ρ := ρ3) (r_read_joined K _ _) rfl ?_ rfl hr
    exact go2 _ (rQ_err (rS_tupe q3))
  | some p =>
  obtain ⟨oth, r4⟩ := p
  rw [h4] at q3
  obtain ⟨j4, hj4, rfl, ej4⟩ := sufL hj2 h4
  unfold RP at q3
  dsimp only at q3
  rw [ej4] at q3
  have go3 : ∀ r, runQ ((l_read_joined (callK g K) (callR g K)).drop 3) [some (.str (Sx cs)), some (.int (i : Nat)), some (.int mm), some (fW one), some (.int (j4 : Nat)), some (.str (opS b)), some (fW oth)] st = r → runQ (l_read_joined (callK g K) (callR g K)) [some (.str (Sx cs)), some (.int (i : Nat)), some (.int mm), none, none, none, none] st = r := fun r hr2 => by
    refine go2 r ((rQ_go (rS_tupv q3 ?_)).trans hr2)
    rw [h3]
    rfl
  have be := behind_at hK st hr sign_end hl hj4
  have e41 : (")" : Str) = Sx [41] := by decide +kernel
  have bq2 : run2 (eCall (callK g K) "behind" 3 [eVar 0, eVar 4, eVal (.str ")")]) (zCall (callR g K) "behind" 3 [(eVar 0, zNo), (eVar 4, zNo), (eVal (.str ")"), zNo)]) [some (.str (Sx cs)), some (.int (i : Nat)), some (.int mm), some (fW one), some (.int (j4 : Nat)), some (.str (opS b)), some (fW oth)] st = _ :=
    (r_call3 (rL3 (y := .int (j4 : Nat)) (z := .str (Sx [41])) (st2 := st) (st3 := st) (arg _ rfl) (r_n (by rfl)) (r_n (by rw [← e41]; rfl)))).trans be
  have tq : run2 (eTup [eVar 5, eVar 3, eVar 6]) (zList [(eVar 5, zNo), (eVar 3, zNo), (eVar 6, zNo)]) [some (.str (Sx cs)), some (.int (i : Nat)), some (.int mm), some (fW one), some (.int (j4 : Nat)), some (.str (opS b)), some (fW oth)] st = some (.inr (fW (.bi b one oth), st)) := by
    refine (r_z (zL_no [eVar 5, eVar 3, eVar 6] _ _)).trans ?_
    have : 3 ≤ sizeLine := by decide
    simp [fW, this]
  simp only [Option.bind_some]
  cases h5 : strip [41] (cs.drop j4) with
  | none =>
    rw [h5] at bq2
    refine call2_err (ρ := [some (.str (Sx cs)), some (.int (i : Nat)), some (.int mm), some (fW one), some (.int (j4 : Nat)), some (.str (opS b)), some (fW oth)]) (r_read_joined K _ _) rfl ?_ rfl hr
    refine go3 _ (rQ_err (rS_rete ?_))
    rw [r_tup2, tq]
    simp only [b2_inr]
    rw [bq2]
    rfl
  | some r5 =>
    rw [h5] at bq2
    obtain ⟨hs3, hs4⟩ := strip_suf h5
    rw [List.length_drop] at hs4
    refine call2_val (c_read_joined K _ _) (r_read_joined K _ _) rfl rfl ?_ (back_two _ (.bi b one oth) _ _) hr
    refine go3 _ (rQ_end (rS_retv ?_))
    rw [r_tup2, tq]
    simp only [b2_inr]
    rw [bq2]
    simp only [b2_inr]
    have : j4 + [41].length = cs.length - r5.length := by omega
    rw [this]
end
end K08
namespace K08
open PySem MP
open L2 (atI ixN cutS Key)
theorem atI_nat {α : Type} (l : List α) (i : Nat) (h : i < l.length) : atI l ((i : Nat) : Int) = l[i]? := by
  unfold atI ixN
  simp [h]
abbrev eS1 : EX := eSl (eVar 0) (some (eVar 1)) (some (eBin .Add (eVar 1) (eVal (.int 1))))
section
variable (st : Sto) (hr : st.all stillO = true) {cs : List Nat} (hl : cs.length ≤ 1000)
include hr hl
abbrev rho0 (cs : List Nat) (i : Nat) (m : Int) : Rho := [some (.str (Sx cs)), some (.int (i : Nat)), some (.int m), none, none]
omit hr in
theorem s1_at {i : Nat} (hi : i ≤ cs.length) (m : Int) : eS1 (rho0 cs i m) st = some (.str (Sx ((cs.drop i).take 1)), st) := by
  have s := sl_at (n := 1) hl hi
  have e : ((i : Nat) : Int) + 1 = ((i + 1 : Nat) : Int) := by omega
  unfold rho0
  generalize ((i + 1 : Nat) : Int) = j at *
  simp [e, s]
/-- the first question -/
theorem t1_yes {k : Nat} (hk : 0 < k) {i : Nat} (hi : i ≤ cs.length) (m : Int) {x : Lf} {r1 : List Nat} (hd : cs.drop i = lc x :: r1) : tTr (eCall (callK g k) "is_leaf" 1 [eS1]) (rho0 cs i m) st = some (true, st) := by
  have s := s1_at st hl hi m
  rw [hd] at s
  have e := leaf_yes st hr hk x
  have e : callK g k "is_leaf" [.str (Sx [lc x])] st = some (.bl true, st) := e
  have s : eS1 (rho0 cs i m) st = some (.str (Sx [lc x]), st) := s
  simp [-x_eSl, s, e, truthW]
theorem t1_no {k : Nat} (hk : 0 < k) {i : Nat} (hi : i ≤ cs.length) (m : Int) (hd : ∀ x, (cs.drop i).take 1 ≠ [lc x]) : tTr (eCall (callK g k) "is_leaf" 1 [eS1]) (rho0 cs i m) st = some (false, st) := by
  have s := s1_at st hl hi m
  have e := leaf_other hk st hr hd
  simp [-x_eSl, s, e, truthW]
omit hr in
theorem t3_at {i : Nat} (hi : i ≤ cs.length) (m : Int) : tCmp .Eq eS1 (eVal (.str "(")) (rho0 cs i m) st = some (decide ((cs.drop i).take 1 = [40]), st) := by
  have s := s1_at st hl hi m
  rw [x_tCmp, s]
  have : ("(" : Str) = Sx [40] := by decide +kernel
  simp [this, Sx_inj]
/-- a letter or a unit -/
theorem part_leaf {k : Nat} (hk : 0 < k) {i : Nat} (hi : i ≤ cs.length) (m : Nat) {x : Lf} {r1 : List Nat} (hd : cs.drop i = lc x :: r1) :
    call2 (callK g (k + 1)) (callR g (k + 1)) "read_part" [.str (Sx cs), .int (i : Nat), .int (m : Nat)] st = some (RP cs.length st (PM m (cs.drop i))) := by
  rw [hd, PM_leaf m r1 (lf_lc x)]
  have hlen := congrArg List.length hd
  rw [List.length_drop, List.length_cons] at hlen
  have hix : cs[i]? = some (lc x) := by
    have := List.getElem?_drop (xs := cs) (i := i) (j := 0)
    rw [hd] at this
    simpa using this.symm
  have e1 : ((i : Nat) : Int) + 1 = ((cs.length - r1.length : Nat) : Int) := by omega
  refine call2_val (c_read_part k _ _) (r_read_part k _ _) rfl rfl ?_ (back_two _ (.lf x) _ _) hr
  show runQ (l_read_part (callK g k) (callR g k)) (rho0 cs i (m : Nat)) st = _
  unfold l_read_part
  refine rQ_in1 (t1_yes st hr hl hk hi _ hd) (rS_retv ?_) (fun _ _ h => by cases h)
  rw [r_tup2, r_ix, r_n (w := .str (Sx cs)) (st1 := st) (by rfl)]
  simp only [b2_inr]
  rw [r_n (w := .int (i : Nat)) (st1 := st) (by rfl)]
  simp only [b2_inr]
  have x1 : ix2 st (.str (Sx cs)) (.int (i : Nat)) = some (.inr (.str (ls x), st)) := by
    unfold ix2
    have hm : missW (.str (Sx cs)) (.int ((i : Nat) : Int)) = none := rfl
    rw [hm]
    dsimp only
    have bs := k_len
    have : ixW st (.str (Sx cs)) (.int ((i : Nat) : Int)) = some (.str (ls x)) := by
      show (if (Sx cs).length ≤ sizeLine then (atI cs ((i : Nat) : Int)).map fun c => W.str ⟨#[c]⟩ else none) = _
      rw [if_pos (by rw [Sx_len]; omega), atI_nat cs i (by omega), hix]
      rfl
    rw [this]
    rfl
  rw [x1]
  simp only [b2_inr]
  rw [r_n (w := .int (((i : Nat) : Int) + 1)) (st1 := st) (by simp)]
  simp only [b2_inr]
  rw [e1]
  rfl
theorem not_leaf1 {r : List Nat} (h : ∀ c r1, r = c :: r1 → lfOf c = none) (x : Lf) : r.take 1 ≠ [lc x] := by
  intro e
  cases r with
  | nil => cases e
  | cons c r1 =>
    have := h c r1 rfl
    have e : [c] = [lc x] := e
    cases e
    rw [lf_lc] at this
    cases this
theorem part_at : ∀ (m : Nat) {K : Nat}, 2 * m + 2 ≤ K → ∀ i, i ≤ cs.length → call2 (callK g K) (callR g K) "read_part" [.str (Sx cs), .int (i : Nat), .int (m : Nat)] st = some (RP cs.length st (PM m (cs.drop i))) := by
  intro m
  induction m with
  | zero =>
    intro K hK i hi
    obtain ⟨k, rfl⟩ : ∃ k, K = k + 1 := ⟨K - 1, by omega⟩
    by_cases hx : ∃ x r1, cs.drop i = lc x :: r1
    · obtain ⟨x, r1, hd⟩ := hx
      exact part_leaf st hr hl (by omega) hi 0 hd
    have hno : ∀ c r1, cs.drop i = c :: r1 → lfOf c = none := fun c r1 e => by
      cases q : lfOf c with
      | none => rfl
      | some x => exact absurd ⟨x, r1, by rw [e, lfOf_some q]⟩ hx
    have pm : PM 0 (cs.drop i) = none := by
      cases hd : cs.drop i with
      | nil => rfl
      | cons c r1 => exact PM_zero r1 (hno c r1 hd)
    rw [pm]
    refine call2_err (ρ := rho0 cs i (0 : Nat)) (r_read_part k _ _) rfl ?_ rfl hr
    show runQ (l_read_part (callK g k) (callR g k)) (rho0 cs i (0 : Nat)) st = _
    unfold l_read_part
    rw [rQ_skip (t1_no st hr hl (by omega) hi _ (not_leaf1 st hr hl hno))]
    refine rQ_in1 (st1 := st) (by rfl) (by rw [rS_rai]; rfl) (fun _ _ h => by cases h)
  | succ n ih =>
    intro K hK i hi
    obtain ⟨k, rfl⟩ : ∃ k, K = k + 2 := ⟨K - 2, by omega⟩
    by_cases hx : ∃ x r1, cs.drop i = lc x :: r1
    · obtain ⟨x, r1, hd⟩ := hx
      exact part_leaf st hr hl (by omega) hi (n + 1) hd
    have hno : ∀ c r1, cs.drop i = c :: r1 → lfOf c = none := fun c r1 e => by
      cases q : lfOf c with
      | none => rfl
      | some x => exact absurd ⟨x, r1, by rw [e, lfOf_some q]⟩ hx
    have m0 : ¬ ((n + 1 : Nat) : Int) = 0 := by omega
    have mi : ((n + 1 : Nat) : Int) - 1 = (n : Nat) := by omega
    have t2 : tCmp .Eq (eVar 2) (eVal (.int 0)) (rho0 cs i ((n + 1 : Nat) : Int)) st = some (false, st) := by
      unfold rho0
      rw [x_tCmp]
      generalize ((n + 1 : Nat) : Int) = mm at *
      simp [m0]
    have go : ∀ r, runQ ((l_read_part (callK g (k + 1)) (callR g (k + 1))).drop 2) (rho0 cs i ((n + 1 : Nat) : Int)) st = r → runQ (l_read_part (callK g (k + 1)) (callR g (k + 1))) (rho0 cs i ((n + 1 : Nat) : Int)) st = r := fun r h => by
      unfold l_read_part at h ⊢
      rw [rQ_skip (t1_no st hr hl (by omega) hi _ (not_leaf1 st hr hl hno)), rQ_skip t2]
      exact h
    have arg : run2 (eVar 0) zNo (rho0 cs i ((n + 1 : Nat) : Int)) st = some (.inr (.str (Sx cs), st)) := r_n (by rfl)
    have t3 := t3_at st hl hi ((n + 1 : Nat) : Int)
    by_cases hc : ∃ r1, cs.drop i = 40 :: r1
    · obtain ⟨r1, hd⟩ := hc
      have hlen := congrArg List.length hd
      rw [List.length_drop, List.length_cons] at hlen
      have hd1 : r1 = cs.drop (i + 1) := by rw [← List.drop_drop, hd]; rfl
      have j := joined_at st hr hl (K := k) (m := n) (by omega) (fun j hj => ih (by omega) j hj) (i := i + 1) (by omega)
      rw [← hd1] at j
      have pm : PM (n + 1) (cs.drop i) = JM n r1 := by rw [hd, PM_open]; rfl
      rw [pm]
      have e1 : ((i : Nat) : Int) + 1 = ((i + 1 : Nat) : Int) := by omega
      have q : run2 (eCall (callK g (k + 1)) "read_joined" 3 [eVar 0, eBin .Add (eVar 1) (eVal (.int 1)), eVar 2]) (zCall (callR g (k + 1)) "read_joined" 3 [(eVar 0, zNo), (eBin .Add (eVar 1) (eVal (.int 1)), zNo), (eVar 2, zNo)]) (rho0 cs i ((n + 1 : Nat) : Int)) st = some (RP cs.length st (JM n r1)) := by
        refine (r_call3 (rL3 (y := .int ((i + 1 : Nat) : Int)) (z := .int ((n + 1 : Nat) : Int)) (st2 := st) (st3 := st) arg (r_n ?_) (r_n (by rfl)))).trans j
        rw [← e1]
        simp
      have t3 : tCmp .Eq eS1 (eVal (.str "(")) (rho0 cs i ((n + 1 : Nat) : Int)) st = some (true, st) := by rw [t3, hd]; rfl
      cases hj : JM n r1 with
      | none =>
        rw [hj] at q
        refine call2_err (ρ := rho0 cs i ((n + 1 : Nat) : Int)) (r_read_part (k + 1) _ _) rfl ?_ rfl hr
        exact go _ (rQ_in1 t3 (rS_rete q) (fun _ _ h => by cases h))
      | some p =>
        obtain ⟨φ, r5⟩ := p
        rw [hj] at q
        refine call2_val (c_read_part (k + 1) _ _) (r_read_part (k + 1) _ _) rfl rfl ?_ (back_two _ φ _ _) hr
        exact go _ (rQ_in1 t3 (rS_retv q) (fun _ _ h => by cases h))
    have t3 : tCmp .Eq eS1 (eVal (.str "(")) (rho0 cs i ((n + 1 : Nat) : Int)) st = some (false, st) := by
      rw [t3]
      have : ¬ (cs.drop i).take 1 = [40] := fun e => by
        cases hd : cs.drop i with
        | nil => rw [hd] at e; cases e
        | cons c r1 =>
          rw [hd] at e
          have e : [c] = [40] := e
          cases e
          exact hc ⟨r1, hd⟩
      rw [decide_eq_false this]
    have pm : PM (n + 1) (cs.drop i) = ((strip cNOT (cs.drop i)).bind fun r2 => (PM n r2).bind fun (p, r3) => some (.nt p, r3)) := by
      cases hd : cs.drop i with
      | nil => rfl
      | cons c r1 => exact PM_not n r1 (hno c r1 hd) (fun e => hc ⟨r1, by rw [hd, e]⟩)
    rw [pm]
    have go2 : ∀ r, runQ ((l_read_part (callK g (k + 1)) (callR g (k + 1))).drop 3) (rho0 cs i ((n + 1 : Nat) : Int)) st = r → runQ (l_read_part (callK g (k + 1)) (callR g (k + 1))) (rho0 cs i ((n + 1 : Nat) : Int)) st = r := fun r h => go r ((rQ_skip t3).trans h)
    have eN : ("not " : Str) = Sx cNOT := by decide +kernel
    have bh := behind_at (K := k + 1) (by omega) st hr sign_not hl hi
    have bq : run2 (eCall (callK g (k + 1)) "behind" 3 [eVar 0, eVar 1, eVal (.str "not ")]) (zCall (callR g (k + 1)) "behind" 3 [(eVar 0, zNo), (eVar 1, zNo), (eVal (.str "not "), zNo)]) (rho0 cs i ((n + 1 : Nat) : Int)) st = _ :=
      (r_call3 (rL3 (y := .int (i : Nat)) (z := .str (Sx cNOT)) (st2 := st) (st3 := st) arg (r_n (by rfl)) (r_n (by rw [← eN]; rfl)))).trans bh
    cases h2 : strip cNOT (cs.drop i) with
    | none =>
      rw [h2] at bq
      refine call2_err (ρ := rho0 cs i ((n + 1 : Nat) : Int)) (r_read_part (k + 1) _ _) rfl ?_ rfl hr
      exact go2 _ (rQ_err (rS_tupe (r_call3e (rL3e arg bq))))
    | some r2 =>
    rw [h2] at bq
    obtain ⟨hs1, hs2⟩ := strip_suf h2
    have er : r2 = cs.drop (i + cNOT.length) := by
      unfold strip at h2
      split at h2
      · cases h2; rw [List.drop_drop]
      · cases h2
    rw [List.length_drop] at hs2
    have hj2 : i + cNOT.length ≤ cs.length := by omega
    generalize i + cNOT.length = j2 at *
    subst er
    have sub : run2 (eBin .Sub (eVar 2) (eVal (.int 1))) zNo (rho0 cs i ((n + 1 : Nat) : Int)) st = some (.inr (.int (n : Nat), st)) := by
      refine r_n ?_
      unfold rho0
      generalize ((n + 1 : Nat) : Int) = mm at *
      simp [mi]
    have q : run2 (eCall (callK g (k + 1)) "read_part" 3 [eVar 0, eCall (callK g (k + 1)) "behind" 3 [eVar 0, eVar 1, eVal (.str "not ")], eBin .Sub (eVar 2) (eVal (.int 1))])
        (zCall (callR g (k + 1)) "read_part" 3 [(eVar 0, zNo), (eCall (callK g (k + 1)) "behind" 3 [eVar 0, eVar 1, eVal (.str "not ")], zCall (callR g (k + 1)) "behind" 3 [(eVar 0, zNo), (eVar 1, zNo), (eVal (.str "not "), zNo)]), (eBin .Sub (eVar 2) (eVal (.int 1)), zNo)]) (rho0 cs i ((n + 1 : Nat) : Int)) st = some (RP cs.length st (PM n (cs.drop j2))) :=
      (r_call3 (rL3 arg bq sub)).trans (ih (by omega) j2 hj2)
    simp only [Option.bind_some]
    cases h4 : PM n (cs.drop j2) with
    | none =>
      rw [h4] at q
      refine call2_err (ρ := rho0 cs i ((n + 1 : Nat) : Int)) (r_read_part (k + 1) _ _) rfl ?_ rfl hr
      exact go2 _ (rQ_err (rS_tupe q))
    | some p =>
    obtain ⟨φ, r3⟩ := p
    rw [h4] at q
    refine call2_val (c_read_part (k + 1) _ _) (r_read_part (k + 1) _ _) rfl rfl ?_ (back_two _ (.nt φ) _ _) hr
    refine go2 _ ((rQ_go (rS_tupv q rfl)).trans (rQ_end (rS_retv ?_)))
    have tq : run2 (eTup [eVal (.str "not"), eVar 3]) (zList [(eVal (.str "not"), zNo), (eVar 3, zNo)]) [some (.str (Sx cs)), some (.int (i : Nat)), some (.int ((n + 1 : Nat) : Int)), some (fW φ), some (.int ((cs.length - r3.length : Nat) : Int))] st = some (.inr (fW (.nt φ), st)) := by
      refine (r_z (zL_no [eVal (.str "not"), eVar 3] _ _)).trans ?_
      have : 2 ≤ sizeLine := by decide
      simp [fW, this]
    refine (r_tup2 _ _ _ _ _ _).trans ?_
    refine (congrArg (fun z => b2 z _) tq).trans ?_
    rfl
end
end K08
namespace K08
open PySem MP
open L2 (atI ixN cutS Key)
theorem map_ls (l : List Lf) : (l.map ls).map W.str = l.map lfW := by rw [List.map_map]; rfl
theorem run_rt2 {n k : Nat} {b : SX} {ws : List W} {st st1 : Sto} {w : W} (hn : ws.length = n) (h : b (ws.map some ++ List.replicate (k - ws.length) none) st = some (.rt w st1)) (hb : back st.length w st1 = some w) (hl : st1.length = st.length) (hr : st1.all stillO = true) : runF n k b ws st = some (w, st1) := by
  unfold runF
  rw [if_pos hn, h]
  show outF st (.rt w st1) = _
  rw [z_out2, hb]
  simp only [Option.bind_some, ← hl, List.take_length]
  rw [if_pos hr]
theorem back_f (n : Nat) (st : Sto) : ∀ φ : Fm, back n (fW φ) st = some (fW φ)
  | .lf x => rfl
  | .nt p => if_pos (show (still (.str "not") && (still (fW p) && true)) = true by rw [still_f p]; rfl)
  | .bi b p q => if_pos (show (still (.str (opS b)) && (still (fW p) && (still (fW q) && true))) = true by rw [still_f p, still_f q]; rfl)
section
variable (ns : List Int) (ll uu : List Lf) (hll : ll ≠ []) (hlen : ll.length + uu.length ≤ 20) (rest : Sto) (hrest : rest.all stillO = true)
include hll hlen hrest
theorem leaf_pick {k : Nat} (hk : 2 < k) {n : W} {a b : Option W} {p s v : Int} (hp : 0 ≤ p) : ∃ x p' s' v', (x ∈ ll ++ uu ∧ 0 ≤ p') ∧
    sSeq [sRet (eCall (callK g k) "_law_pick" 2 [eVar 0, eBin .Add (eVar 2) (eIf (tCmp .Eq (eCall (callK g k) "_law_taken" 2 [eVar 0, eVal (.int 4)]) (eVal (.int 0))) (eVar 3) (eLst []))])] [some (.obj 0), some n, some (.lst (ll.map lfW)), some (.lst (uu.map lfW)), a, b] (rowO ns p s v :: rest) = some (.rt (fW (.lf x)) (rowO ns p' s' v' :: rest)) := by
  obtain ⟨i, p1, s1, v1, a1, a2, a3, a4⟩ := taken (K := k) (by omega) ns (m := 4) (p := p) (s := s) (v := v) rest hp (by decide) (by decide) hrest
  have bs := big_sz
  have go : ∀ m : List Lf, m ≠ [] → m.length ≤ 20 → ∃ x p' s' v', (x ∈ m ∧ 0 ≤ p') ∧ callK g k "_law_pick" [.obj 0, .lst (m.map lfW)] (rowO ns p1 s1 v1 :: rest) = some (fW (.lf x), (rowO ns p' s' v' :: rest)) := fun m hm hl => by
    obtain ⟨x, p2, s2, v2, b1, b2, b3⟩ := pick (K := k) (by omega) ns (p := p1) (s := s1) (v := v1) rest a1 hrest (m.map ls) (by simpa using hm) (by rw [List.length_map]; omega)
    obtain ⟨y, hy, rfl⟩ := List.mem_map.mp b1
    rw [map_ls] at b3
    exact ⟨y, p2, s2, v2, ⟨hy, b2⟩, b3⟩
  have ad : binW .Add (.lst (ll.map lfW)) (.lst (uu.map lfW)) = some (.lst ((ll ++ uu).map lfW)) := by
    show (if (ll.map lfW).length + (uu.map lfW).length ≤ sizeLine then some (W.lst _) else none) = _
    rw [if_pos (by rw [List.length_map, List.length_map]; omega), List.map_append]
  have ad0 : binW .Add (.lst (ll.map lfW)) (.lst []) = some (.lst (ll.map lfW)) := by
    show (if (ll.map lfW).length + 0 ≤ sizeLine then some (W.lst _) else none) = _
    rw [if_pos (by rw [List.length_map]; omega), List.append_nil]
  by_cases hi : i = 0
  · obtain ⟨x, p2, s2, v2, b2, b3⟩ := go (ll ++ uu) (by simp [hll]) (by rw [List.length_append]; exact hlen)
    refine ⟨x, p2, s2, v2, b2, ?_⟩
    subst hi
    generalize (ll ++ uu).map lfW = l3 at *
    generalize ll.map lfW = l1 at *
    generalize uu.map lfW = l2 at *
    generalize fW (.lf x) = w at *
    simp [a4, ad, b3]
  · obtain ⟨x, p2, s2, v2, ⟨bx, b2⟩, b3⟩ := go ll hll (by omega)
    refine ⟨x, p2, s2, v2, ⟨List.mem_append_left _ bx, b2⟩, ?_⟩
    generalize ll.map lfW = l1 at *
    generalize uu.map lfW = l2 at *
    generalize fW (.lf x) = w at *
    simp [a4, hi, ad0, b3]
theorem law_formula_at : ∀ (n : Nat) {K : Nat} {p s v : Int}, n + 4 < K → 0 ≤ p → ∃ φ p' s' v', (dep φ ≤ n ∧ ∀ x ∈ lv φ, x ∈ ll ++ uu) ∧ 0 ≤ p' ∧ callK g K "_law_formula" [.obj 0, .int (n : Nat), .lst (ll.map lfW), .lst (uu.map lfW)] (rowO ns p s v :: rest) = some (fW φ, (rowO ns p' s' v' :: rest))
  | 0, K, p, s, v, hK, hp => by
    obtain ⟨k, rfl⟩ : ∃ k, K = k + 1 := ⟨K - 1, by omega⟩
    obtain ⟨x, p1, s1, v1, ⟨hx, h1⟩, h2⟩ := leaf_pick ns ll uu hll hlen rest hrest (k := k) (by omega) (n := .int (0 : Nat)) (a := some (.int 0)) (b := none) (p := p) (s := s) (v := v) hp
    refine ⟨.lf x, p1, s1, v1, ⟨Nat.le_refl _, fun y hy => by rw [show lv (.lf x) = [x] from rfl, List.mem_singleton] at hy; rw [hy]; exact hx⟩, h1, ?_⟩
    rw [c__law_formula]
    refine run_rt2 rfl ?_ (back_f _ _ _) rfl (by show (stillO _ && rest.all stillO) = true; rw [still_row, hrest]; rfl)
    show b__law_formula (callK g k) [some (.obj 0), some (.int (0 : Nat)), some (.lst (ll.map lfW)), some (.lst (uu.map lfW)), none, none] (rowO ns p s v :: rest) = _
    have z1 : sAsg 4 (eIf (tCmp .Gt (eVar 1) (eVal (.int 0))) (eCall (callK g k) "_law_taken" 2 [eVar 0, eVal (.int 5)]) (eVal (.int 0))) [some (.obj 0), some (.int (0 : Nat)), some (.lst (ll.map lfW)), some (.lst (uu.map lfW)), none, none] (rowO ns p s v :: rest) = some (.nx [some (.obj 0), some (.int (0 : Nat)), some (.lst (ll.map lfW)), some (.lst (uu.map lfW)), some (.int 0), none] (rowO ns p s v :: rest)) := by simp
    unfold b__law_formula
    rw [seq_nx z1]
    exact seq_rt ((if_yes (st1 := (rowO ns p s v :: rest)) (by simp)).trans h2)
  | n + 1, K, p, s, v, hK, hp => by
    obtain ⟨k, rfl⟩ : ∃ k, K = k + 1 := ⟨K - 1, by omega⟩
    obtain ⟨i, p1, s1, v1, a1, a2, a3, a4⟩ := taken (K := k) (by omega) ns (m := 5) (p := p) (s := s) (v := v) rest hp (by decide) (by decide) hrest
    have mi : ((n + 1 : Nat) : Int) - 1 = (n : Nat) := by omega
    have m0 : (0 : Int) < ((n + 1 : Nat) : Int) := by omega
    rw [c__law_formula]
    have z1 : sAsg 4 (eIf (tCmp .Gt (eVar 1) (eVal (.int 0))) (eCall (callK g k) "_law_taken" 2 [eVar 0, eVal (.int 5)]) (eVal (.int 0))) [some (.obj 0), some (.int ((n + 1 : Nat) : Int)), some (.lst (ll.map lfW)), some (.lst (uu.map lfW)), none, none] (rowO ns p s v :: rest) = some (.nx [some (.obj 0), some (.int ((n + 1 : Nat) : Int)), some (.lst (ll.map lfW)), some (.lst (uu.map lfW)), some (.int i), none] (rowO ns p1 s1 v1 :: rest)) := by
      generalize ((n + 1 : Nat) : Int) = m at *
      simp [m0, a4]
    by_cases h0 : i = 0
    · subst h0
      obtain ⟨x, p2, s2, v2, ⟨hx, h1⟩, h2⟩ := leaf_pick ns ll uu hll hlen rest hrest (k := k) (by omega) (n := .int ((n + 1 : Nat) : Int)) (a := some (.int 0)) (b := none) (p := p1) (s := s1) (v := v1) a1
      refine ⟨.lf x, p2, s2, v2, ⟨Nat.zero_le _, fun y hy => by rw [show lv (.lf x) = [x] from rfl, List.mem_singleton] at hy; rw [hy]; exact hx⟩, h1, ?_⟩
      refine run_rt2 rfl ?_ (back_f _ _ _) rfl (by show (stillO _ && rest.all stillO) = true; rw [still_row, hrest]; rfl)
      show b__law_formula (callK g k) [some (.obj 0), some (.int ((n + 1 : Nat) : Int)), some (.lst (ll.map lfW)), some (.lst (uu.map lfW)), none, none] (rowO ns p s v :: rest) = _
      unfold b__law_formula
      rw [seq_nx z1]
      exact seq_rt ((if_yes (st1 := (rowO ns p1 s1 v1 :: rest)) (by simp)).trans h2)
    · have bs := big_sz
      by_cases h1 : i = 1
      · subst h1
        obtain ⟨φ, p2, s2, v2, c1, c2, c3⟩ := law_formula_at n (K := k) (p := p1) (s := s1) (v := v1) (by omega) a1
        refine ⟨.nt φ, p2, s2, v2, ⟨by simp only [dep]; omega, c1.2⟩, c2, ?_⟩
        refine run_rt2 rfl ?_ (back_f _ _ _) rfl (by show (stillO _ && rest.all stillO) = true; rw [still_row, hrest]; rfl)
        show b__law_formula (callK g k) [some (.obj 0), some (.int ((n + 1 : Nat) : Int)), some (.lst (ll.map lfW)), some (.lst (uu.map lfW)), none, none] (rowO ns p s v :: rest) = _
        unfold b__law_formula
        rw [seq_nx z1, seq_nx ((if_no (st1 := (rowO ns p1 s1 v1 :: rest)) (by simp)).trans rfl)]
        refine seq_rt ((if_yes (st1 := (rowO ns p1 s1 v1 :: rest)) (by simp)).trans (seq_rt ?_))
        show _ = some (Out.rt (.tup [.str "not", fW φ]) _)
        generalize ((n + 1 : Nat) : Int) = m at *
        generalize ll.map lfW = l1 at *
        generalize uu.map lfW = l2 at *
        generalize fW φ = w at *
        simp [mi, c3, show 2 ≤ sizeLine by omega]
      · obtain ⟨φ, p2, s2, v2, c1, c2, c3⟩ := law_formula_at n (K := k) (p := p1) (s := s1) (v := v1) (by omega) a1
        obtain ⟨o, p3, s3, v3, d1, d2, d3⟩ := pick (K := k) (by omega) ns (p := p2) (s := s2) (v := v2) rest c2 hrest ["and", "or"] (by simp) (by decide)
        obtain ⟨ψ, p4, s4, v4, e1, e2, e3⟩ := law_formula_at n (K := k) (p := p3) (s := s3) (v := v3) (by omega) d2
        obtain ⟨b, rfl⟩ : ∃ b, o = opS b := by
          simp only [List.mem_cons, List.not_mem_nil, or_false] at d1
          rcases d1 with rfl | rfl
          · exact ⟨true, rfl⟩
          · exact ⟨false, rfl⟩
        refine ⟨.bi b φ ψ, p4, s4, v4, ⟨by simp only [dep]; omega, fun x hx => by
          simp only [lv, List.mem_append] at hx
          exact hx.elim (c1.2 x) (e1.2 x)⟩, e2, ?_⟩
        refine run_rt2 rfl ?_ (back_f _ _ _) rfl (by show (stillO _ && rest.all stillO) = true; rw [still_row, hrest]; rfl)
        show b__law_formula (callK g k) [some (.obj 0), some (.int ((n + 1 : Nat) : Int)), some (.lst (ll.map lfW)), some (.lst (uu.map lfW)), none, none] (rowO ns p s v :: rest) = _
        unfold b__law_formula
        rw [seq_nx z1, seq_nx ((if_no (st1 := (rowO ns p1 s1 v1 :: rest)) (by simp [h0])).trans rfl), seq_nx ((if_no (st1 := (rowO ns p1 s1 v1 :: rest)) (by simp [h1])).trans rfl)]
        show _ = some (Out.rt (.tup [.str (opS b), fW φ, fW ψ]) _)
        simp only [List.map_cons, List.map_nil] at d3
        generalize ((n + 1 : Nat) : Int) = m at *
        generalize ll.map lfW = l1 at *
        generalize uu.map lfW = l2 at *
        generalize fW φ = w at *
        generalize fW ψ = w' at *
        generalize opS b = os at *
        simp [mi, c3, d3, e3, show 2 ≤ sizeLine by omega, show 3 ≤ sizeLine by omega]
end
end K08
namespace K08
open PySem MP
open L2 (atI ixN cutS Key)
theorem runQ_seq {ps : List (SX × ZS)} {ρ : Rho} {st : Sto} {o : Out} (h : runQ ps ρ st = some (.inr o)) : sSeq (ps.map (·.1)) ρ st = some o := by
  unfold runQ at h
  split at h
  · cases h
  · obtain ⟨q, h1, h2⟩ := Option.map_eq_some_iff.mp h
    cases h2
    exact h1
section
variable (st : Sto) (hr : st.all stillO = true)
include hr
theorem text_ok {K : Nat} (hK : 0 < K) (s : Str) : call2 (callK g K) (callR g K) "check_text" [.str s] st = some (.inr (.non, st)) := by
  obtain ⟨k, rfl⟩ : ∃ k, K = k + 1 := ⟨K - 1, by omega⟩
  refine call2_nx (ρ := [some (.str s)]) (c_check_text k _ _) (r_check_text k _ _) rfl rfl ?_ hr
  show runQ (l_check_text (callK g k) (callR g k)) [some (.str s)] st = _
  unfold l_check_text
  rw [rQ_skip (st1 := st) (by rfl), rQ_nil]
/-- no text -/
theorem text_bad {K : Nat} (hK : 0 < K) {w : W} (hw : ∀ st : Sto, callB st "isinstance" [w, .ty "str"] = some (.bl false)) : call2 (callK g K) (callR g K) "check_text" [w] st = some (.inl (.own "NotText" none, st)) := by
  obtain ⟨k, rfl⟩ : ∃ k, K = k + 1 := ⟨K - 1, by omega⟩
  refine call2_err (ρ := [some w]) (r_check_text k _ _) rfl ?_ rfl hr
  show runQ (l_check_text (callK g k) (callR g k)) [some w] st = _
  unfold l_check_text
  have t : tNot (tTr (eBlt "isinstance" [eVar 0, eVal (.ty "str")])) [some w] st = some (true, st) := by
    simp [hw, truthW]
  exact rQ_in1 t (by rw [rS_rai]; rfl) (fun _ _ h => by cases h)
variable {cs : List Nat} (hl : cs.length ≤ 1000)
include hl
theorem read_q {k : Nat} (hk : 17 < k) : runQ (lf_read_formula (callK g k) (callR g k)) [some (.str (Sx cs)), none, none] st = some (match RF cs with
    | some φ => .inr (.rt (fW φ) st)
    | none => match PM 8 cs with
      | none => .inl (.own "InvalidText" none, [some (.str (Sx cs)), none, none], st)
      | some (φ, r) => .inl (.own "InvalidText" none, [some (.str (Sx cs)), some (fW φ), some (.int ((cs.length - r.length : Nat) : Int))], st)) := by
  have p := part_at st hr hl 8 (K := k) (by omega) 0 (Nat.zero_le _)
  rw [List.drop_zero] at p
  have q : run2 (eCall (callK g k) "read_part" 3 [eVar 0, eVal (.int 0), eVal k_MOST_TUPLES]) (zCall (callR g k) "read_part" 3 [(eVar 0, zNo), (eVal (.int 0), zNo), (eVal k_MOST_TUPLES, zNo)]) [some (.str (Sx cs)), none, none] st = some (RP cs.length st (PM 8 cs)) :=
    (r_call3 (rL3 (x := .str (Sx cs)) (y := .int (0 : Nat)) (z := .int (8 : Nat)) (st1 := st) (st2 := st) (st3 := st) (r_n (by rfl)) (r_n (by rfl)) (r_n (by rfl)))).trans p
  have c := text_ok st hr (K := k) (by omega) (Sx cs)
  have z1 : runS (sDo (eCall (callK g k) "check_text" 1 [eVar 0])) (zSt (zCall (callR g k) "check_text" 1 [(eVar 0, zNo)])) [some (.str (Sx cs)), none, none] st = some (.inr (.nx [some (.str (Sx cs)), none, none] st)) := by
    rw [rS_do, r_call1 (x := .str (Sx cs)) (st1 := st) (r_n (by rfl)), c]
    rfl
  unfold lf_read_formula
  rw [rQ_go z1]
  unfold RF
  cases h : PM 8 cs with
  | none =>
    rw [h] at q
    exact rQ_err (rS_tupe q)
  | some pr =>
    obtain ⟨φ, r⟩ := pr
    rw [h] at q
    refine (rQ_go (rS_tupv q rfl)).trans ?_
    have hd := (PM_suf 8 cs φ r h).2
    have len := len_str (st := st) hl
    have f := is_formula_at st hr (K := k) φ (by omega) hd
    obtain ⟨⟨n, hn, hn2⟩, _⟩ := PM_suf 8 cs φ r h
    have hle : r.length ≤ cs.length := by rw [hn2, List.length_drop]; omega
    show runQ _ [some (.str (Sx cs)), some (fW φ), some (.int ((cs.length - r.length : Nat) : Int))] st = _
    have t : tOr (tCmp .NotEq (eVar 2) (eBlt "len" [eVar 0])) (tNot (tTr (eCall (callK g k) "is_formula" 1 [eVar 1]))) [some (.str (Sx cs)), some (fW φ), some (.int ((cs.length - r.length : Nat) : Int))] st = some (!decide (r = [] ∧ (lv φ).length ≤ 20), st) := by
      have e1 : decide (((cs.length - r.length : Nat) : Int) = ((cs.length : Nat) : Int)) = decide (r = []) := decide_eq_decide.mpr (by
        constructor
        · intro h
          have : r.length = 0 := by omega
          exact List.eq_nil_of_length_eq_zero this
        · rintro rfl
          simp)
      rw [x_tOr, x_tCmp]
      generalize ((cs.length - r.length : Nat) : Int) = a at *
      generalize ((cs.length : Nat) : Int) = b at *
      by_cases hr0 : r = []
      · subst hr0
        have e1 : a = b := by simpa using e1
        subst e1
        simp [len, f, truthW]
      · have e1 : ¬ a = b := by simpa [hr0] using e1
        simp [len, e1, hr0]
    cases r with
    | nil =>
      dsimp only
      by_cases h20 : (lv φ).length ≤ 20
      · rw [if_pos h20, rQ_skip (st1 := st) (by rw [t]; simp [h20])]
        exact rQ_rt (by rfl) (by rfl)
      · rw [if_neg h20]
        exact rQ_in1 (st1 := st) (by rw [t]; simp [h20]) (by rw [rS_rai]; rfl) (fun _ _ h => by cases h)
    | cons c r =>
      exact rQ_in1 (st1 := st) (by rw [t]; simp) (by rw [rS_rai]; rfl) (fun _ _ h => by cases h)
theorem read_ok {K : Nat} (hK : 18 < K) {φ : Fm} (h : RF cs = some φ) : callK g K "read_formula" [.str (Sx cs)] st = some (fW φ, st) := by
  obtain ⟨k, rfl⟩ : ∃ k, K = k + 1 := ⟨K - 1, by omega⟩
  have q := read_q st hr hl (k := k) (by omega)
  rw [h] at q
  rw [c_read_formula]
  have s : b_read_formula (callK g k) [some (.str (Sx cs)), none, none] st = some (.rt (fW φ) st) := runQ_seq q
  refine run_rt rfl s ?_ hr
  have := back_f st.length st φ
  exact this
theorem read_bad {K : Nat} (hK : 18 < K) (h : RF cs = none) : callF g K "read_formula" [.str (Sx cs)] st = some (.own "InvalidText" none, st) := by
  obtain ⟨k, rfl⟩ : ∃ k, K = k + 1 := ⟨K - 1, by omega⟩
  have q := read_q st hr hl (k := k) (by omega)
  rw [h] at q
  dsimp only at q
  rw [q_read_formula]
  cases hp : PM 8 cs with
  | none => rw [hp] at q; exact runZ_err rfl q rfl hr
  | some p => obtain ⟨φ, r⟩ := p; rw [hp] at q; exact runZ_err rfl q rfl hr
omit hl
theorem read_no {K : Nat} (hK : 1 < K) {w : W} (hw : ∀ st : Sto, callB st "isinstance" [w, .ty "str"] = some (.bl false)) : callF g K "read_formula" [w] st = some (.own "NotText" none, st) := by
  obtain ⟨k, rfl⟩ : ∃ k, K = k + 1 := ⟨K - 1, by omega⟩
  rw [q_read_formula]
  refine runZ_err (ρ := [some w, none, none]) rfl ?_ rfl hr
  show runQ (lf_read_formula (callK g k) (callR g k)) [some w, none, none] st = _
  unfold lf_read_formula
  refine rQ_err ?_
  rw [rS_do, r_call1 (x := w) (st1 := st) (r_n (by rfl)), text_bad st hr (by omega) hw]
  rfl
theorem readL_no {K : Nat} (hK : 1 < K) {w : W} (hw : ∀ st : Sto, callB st "isinstance" [w, .ty "str"] = some (.bl false)) : callF g K "read_logic" [w] st = some (.own "NotText" none, st) := by
  obtain ⟨k, rfl⟩ : ∃ k, K = k + 1 := ⟨K - 1, by omega⟩
  rw [q_read_logic]
  refine runZ_err (ρ := [some w, none]) rfl ?_ rfl hr
  show runQ (lf_read_logic (callK g k) (callR g k)) [some w, none] st = _
  unfold lf_read_logic
  refine rQ_err ?_
  rw [rS_do, r_call1 (x := w) (st1 := st) (r_n (by rfl)), text_bad st hr (by omega) hw]
  rfl
end
end K08
namespace K08
open PySem MP
open L2 (atI ixN cutS Key)
/-! the texts of logics -/
def sgW (c : Nat) : W := .str ⟨#[c]⟩
theorem signs_Sx (cs : List Nat) : signs (Sx cs) = cs.map sgW := rfl
def isA (c : Nat) : Bool := c == 102 || (c == 116 || c == 117)
theorem in_ans (c : Nat) : cmpW .NotIn (sgW c) k_ANSWERS = some (!isA c) := by
  have e := in_strs (Sx [c]) ["f", "t", "u"]
  have q : ∀ n : Nat, (Sx [n] == Sx [c]) = (c == n) := fun n => by
    by_cases h : n = c
    · subst h; simp
    · rw [beq_eq_false_iff_ne.mpr (fun z => h (by simpa using Sx_inj.mp z)), beq_eq_false_iff_ne.mpr (fun z => h z.symm)]
  simp only [List.any_cons, List.any_nil, show ("f" : Str) = Sx [102] by decide +kernel, show ("t" : Str) = Sx [116] by decide +kernel, show ("u" : Str) = Sx [117] by decide +kernel, q, Bool.or_false] at e
  show (cmpW .In (.str (Sx [c])) k_ANSWERS).map (fun k => !k) = _
  have e : cmpW .In (.str (Sx [c])) k_ANSWERS = some (isA c) := e
  rw [e]
  rfl
abbrev bC : List SX := [sIf (tCmp .NotIn (eVar 2) (eVal k_ANSWERS)) [sNo] []]
abbrev zC : List (SX × ZS) := [(sIf (tCmp .NotIn (eVar 2) (eVal k_ANSWERS)) [sNo] [], zIf (tCmp .NotIn (eVar 2) (eVal k_ANSWERS)) [(sNo, zRaiV "BadLogic" (eVar 1))] [])]
theorem turn_ok {c : Nat} (h : isA c = true) (a : Option W) (i : W) (st : Sto) : sSeq bC [a, some i, some (sgW c)] st = some (.nx [a, some i, some (sgW c)] st) ∧ zSeq zC [a, some i, some (sgW c)] st = none := by
  have t : tCmp .NotIn (eVar 2) (eVal k_ANSWERS) [a, some i, some (sgW c)] st = some (false, st) := by
    have := in_ans c
    rw [h] at this
    rw [x_tCmp]
    simp [this]
  have q : runQ zC [a, some i, some (sgW c)] st = some (.inr (.nx [a, some i, some (sgW c)] st)) := by rw [rQ_skip t, rQ_nil]
  refine ⟨runQ_seq q, ?_⟩
  unfold runQ at q
  split at q
  · cases q
  · next h => exact h
theorem turn_bad {c : Nat} (h : isA c = false) (a : Option W) (i : W) (st : Sto) : zSeq zC [a, some i, some (sgW c)] st = some (.own "BadLogic" (some i), [a, some i, some (sgW c)], st) := by
  have t : tCmp .NotIn (eVar 2) (eVal k_ANSWERS) [a, some i, some (sgW c)] st = some (true, st) := by
    have := in_ans c
    rw [h] at this
    rw [x_tCmp]
    simp [this]
  have q : runQ zC [a, some i, some (sgW c)] st = some (.inl (.own "BadLogic" (some i), [a, some i, some (sgW c)], st)) := rQ_in1 t (by rw [rS_raiV]; rfl) (fun _ _ h => by cases h)
  unfold runQ at q
  split at q
  · next h => cases q; exact h
  · obtain ⟨p, _, h2⟩ := Option.map_eq_some_iff.mp q
    cases h2
theorem loop_bad (a : Option W) (st : Sto) : ∀ (l : List Nat) (i : Nat) (r1 r2 : Option W), l.all isA = false →
    ∃ (j : Nat) (ρ : Rho), forZ (aTup [1, 2]) (sSeq bC) (zSeq zC) (numW i (l.map sgW)) [a, r1, r2] st = some (.own "BadLogic" (some (.int (j : Nat))), ρ, st)
  | [], i, r1, r2, h => by cases h
  | c :: l, i, r1, r2, h => by
    rw [List.map_cons]
    show ∃ (j : Nat) (ρ : Rho), forZ (aTup [1, 2]) (sSeq bC) (zSeq zC) (.tup [.int (i : Nat), sgW c] :: numW (i + 1) (l.map sgW)) [a, r1, r2] st = _
    unfold forZ
    have as : aTup [1, 2] (.tup [.int (i : Nat), sgW c]) [a, r1, r2] = some [a, some (.int (i : Nat)), some (sgW c)] := rfl
    rw [as]
    simp only [Option.bind_some]
    cases hc : isA c with
    | false => exact ⟨i, _, by rw [turn_bad hc]⟩
    | true =>
      obtain ⟨t1, t2⟩ := turn_ok hc a (.int (i : Nat)) st
      rw [t2, t1]
      simp only [Option.bind_some]
      exact loop_bad a st l (i + 1) _ _ (by simpa [hc] using h)
section
variable (st : Sto) (hr : st.all stillO = true)
include hr
theorem chk_bad {K : Nat} (hK : 0 < K) {cs : List Nat} (h : ¬ (cs.length = 11 ∧ cs.all isA = true)) : ∃ v, callR g K "check_logic" [.tup (cs.map sgW)] st = some (.own "BadLogic" (some v), st) := by
  obtain ⟨k, rfl⟩ : ∃ k, K = k + 1 := ⟨K - 1, by omega⟩
  rw [r_check_logic]
  obtain ⟨j, hj⟩ : ∃ j : Int, j = ((cs.map sgW).length : Nat) := ⟨_, rfl⟩
  have hlen : callB st "len" [.tup (cs.map sgW)] = some (.int j) := by rw [hj]; exact b_len_tup st _
  rw [List.length_map] at hj
  have i1 := isi_tup st (cs.map sgW)
  have t : tOr (tNot (tTr (eBlt "isinstance" [eVar 0, eVal (.ty "tuple")]))) (tCmp .NotEq (eBlt "len" [eVar 0]) (eVal k_LENGTH)) [some (.tup (cs.map sgW)), none, none] st = some (!decide (cs.length = 11), st) := by
    have e : decide (j = 11) = decide (cs.length = 11) := decide_eq_decide.mpr (by omega)
    rw [x_tOr]
    generalize cs.map sgW = ws at *
    simp [-b_len_tup, i1, hlen, truthW, e]
  by_cases h11 : cs.length = 11
  · obtain ⟨j, ρ, e⟩ := loop_bad (some (.tup (cs.map sgW))) st cs 0 none none (by simpa [h11] using h)
    refine ⟨.int (j : Nat), runZ_err (ρ := ρ) rfl ?_ rfl hr⟩
    show runQ (l_check_logic (callK g k) (callR g k)) [some (.tup (cs.map sgW)), none, none] st = _
    unfold l_check_logic
    rw [rQ_skip (st1 := st) (by rw [t]; simp [h11])]
    refine rQ_err ?_
    have it : iEnum (eVar 0) [some (.tup (cs.map sgW)), none, none] st = some (numW 0 (cs.map sgW), st) := rfl
    unfold runS zFor
    rw [it]
    simp only [Option.bind_some]
    rw [e]
  · refine ⟨.non, runZ_err (ρ := [some (.tup (cs.map sgW)), none, none]) rfl ?_ rfl hr⟩
    show runQ (l_check_logic (callK g k) (callR g k)) [some (.tup (cs.map sgW)), none, none] st = _
    unfold l_check_logic
    exact rQ_in1 (st1 := st) (by rw [t]; simp [h11]) (by rw [rS_raiV]; rfl) (fun _ _ h => by cases h)
theorem readL_bad {K : Nat} (hK : 1 < K) {cs : List Nat} (hl : cs.length ≤ 1000) (h : ¬ (cs.length = 11 ∧ cs.all isA = true)) : callF g K "read_logic" [.str (Sx cs)] st = some (.own "InvalidText" none, st) := by
  obtain ⟨k, rfl⟩ : ∃ k, K = k + 1 := ⟨K - 1, by omega⟩
  rw [q_read_logic]
  obtain ⟨v, hv⟩ := chk_bad st hr (K := k) (by omega) h
  have c := text_ok st hr (K := k) (by omega) (Sx cs)
  refine runZ_err (ρ := [some (.str (Sx cs)), some (.tup (cs.map sgW))]) rfl ?_ rfl hr
  show runQ (lf_read_logic (callK g k) (callR g k)) [some (.str (Sx cs)), none] st = _
  unfold lf_read_logic
  have z1 : runS (sDo (eCall (callK g k) "check_text" 1 [eVar 0])) (zSt (zCall (callR g k) "check_text" 1 [(eVar 0, zNo)])) [some (.str (Sx cs)), none] st = some (.inr (.nx [some (.str (Sx cs)), none] st)) := by
    rw [rS_do, r_call1 (x := .str (Sx cs)) (st1 := st) (r_n (by rfl)), c]
    rfl
  rw [rQ_go z1]
  have bs := k_len
  have tp : callB st "tuple" [.str (Sx cs)] = some (.tup (cs.map sgW)) := by
    show (if (Sx cs).length ≤ sizeLine then some (W.tup (signs (Sx cs))) else none) = _
    rw [if_pos (by rw [Sx_len]; omega)]
    rfl
  have z2 : sAsg 1 (eBlt "tuple" [eVar 0]) [some (.str (Sx cs)), none] st = some (.nx [some (.str (Sx cs)), some (.tup (cs.map sgW))] st) := by
    generalize cs.map sgW = ws at *
    simp [tp]
  refine (rQ_nx (by rfl) z2).trans (rQ_err ?_)
  have zq : zSeq [(sDo (eCall (callK g k) "check_logic" 1 [eVar 1]), zSt (zCall (callR g k) "check_logic" 1 [(eVar 1, zNo)]))] [some (.str (Sx cs)), some (.tup (cs.map sgW))] st = some (.own "BadLogic" (some v), [some (.str (Sx cs)), some (.tup (cs.map sgW))], st) := by
    have q : run2 (eCall (callK g k) "check_logic" 1 [eVar 1]) (zCall (callR g k) "check_logic" 1 [(eVar 1, zNo)]) [some (.str (Sx cs)), some (.tup (cs.map sgW))] st = some (.inl (.own "BadLogic" (some v), st)) := by
      rw [r_call1 (x := .tup (cs.map sgW)) (st1 := st) (r_n (by rfl))]
      unfold call2
      rw [hv]
    have qq : runQ [(sDo (eCall (callK g k) "check_logic" 1 [eVar 1]), zSt (zCall (callR g k) "check_logic" 1 [(eVar 1, zNo)]))] [some (.str (Sx cs)), some (.tup (cs.map sgW))] st = some (.inl (.own "BadLogic" (some v), [some (.str (Sx cs)), some (.tup (cs.map sgW))], st)) := by
      refine rQ_err ?_
      rw [rS_do, q]
      rfl
    unfold runQ at qq
    split at qq
    · next h => cases qq; exact h
    · obtain ⟨p, _, h2⟩ := Option.map_eq_some_iff.mp qq
      cases h2
  unfold runS zFrom
  rw [zq]
  rfl
end
end K08
namespace K08
open PySem MP
open L2 (atI ixN cutS Key)
theorem alike_loopG {k : Nat} (st : Sto) (ws : List W) (h : ∀ w ∈ ws, callK g k "_law_alike" [w, w] st = some (.bl true, st)) (r2 : Option W) : ∀ is : List Nat, (∀ i ∈ is, i < ws.length) →
    compW (aName 2) (tAl k) (eVar 2) [some (.tup ws), some (.tup ws), r2] (is.map fun i => .int ((i : Nat) : Int)) st = some ([], st)
  | [], _ => rfl
  | i :: is, hi' => by
    have hi := hi' i List.mem_cons_self
    have e : atI ws ((i : Nat) : Int) = some ws[i] := by
      apply at_lit
      rw [List.getElem?_eq_getElem hi]
    have ih := alike_loopG st ws h r2 is fun j hj => hi' j (List.mem_cons_of_mem _ hj)
    have a := h ws[i] (List.getElem_mem hi)
    rw [List.map_cons]
    unfold compW
    simp [e, a, truthW]
    exact ih
theorem alike_tupG {k : Nat} (st : Sto) (hr : st.all stillO = true) (ws : List W) (h : ∀ w ∈ ws, callK g k "_law_alike" [w, w] st = some (.bl true, st)) (hl : ws.length < 1000) : callK g (k + 1) "_law_alike" [.tup ws, .tup ws] st = some (.bl true, st) := by
  rw [c__law_alike]
  obtain ⟨j, hj⟩ : ∃ j : Int, j = (ws.length : Nat) := ⟨_, rfl⟩
  have hlen : ∀ st, callB st "len" [.tup ws] = some (.int j) := fun st => by rw [hj]; exact b_len_tup st _
  have hjn : j.toNat = ws.length := by rw [hj]; exact Int.toNat_natCast _
  have e := alike_loopG (k := k) st ws h none (List.range j.toNat) (by rw [hjn]; simp)
  have hj0 : 0 ≤ j ∧ j < 1000 := by omega
  have r := iRange_at (e := eBlt "len" [eVar 1]) (ρ := [some (.tup ws), some (.tup ws), none]) (st := st) (st1 := st) (j := j) (by simp [-b_len_tup, hlen]) ⟨by omega, by omega⟩
  have h3 : j.toNat < sizeLine := Nat.lt_of_lt_of_le (show j.toNat < 1000 by omega) (show 1000 ≤ sizeLine by decide)
  clear hj hjn
  have cm : eComp [2] (iRange (eBlt "len" [eVar 1])) (aName 2) (tAl k) (eVar 2) [some (.tup ws), some (.tup ws), none] st = some (.lst [], st) := by
    unfold eComp
    rw [r]
    simp only [Option.bind_some, wipeR, List.set_cons_succ, List.set_cons_zero]
    rw [e]
    simp only [Option.bind_some]
    rw [if_pos ⟨Nat.zero_le _, by rw [List.length_map, List.length_range]; exact h3⟩]
  simp only [tAl] at cm
  clear r e h3 hj0
  have sA : sIf (tOr (tNot (tTr (eBlt "isinstance" [eVar 0, eTup [eVal (.ty "tuple"), eVal (.ty "list")]]))) (tCmp .NotEq (eBlt "isinstance" [eVar 0, eVal (.ty "list")]) (eBlt "isinstance" [eVar 1, eVal (.ty "list")]))) [sRet (eVal (.bl false))] [] [some (.tup ws), some (.tup ws), none] st = some (.nx [some (.tup ws), some (.tup ws), none] st) := by
    simp [is3, is4, neB, truthW, two_le]
  have sB : sIf (tCmp .NotEq (eBlt "len" [eVar 0]) (eBlt "len" [eVar 1])) [sRet (eVal (.bl false))] [] [some (.tup ws), some (.tup ws), none] st = some (.nx [some (.tup ws), some (.tup ws), none] st) := by simp [-b_len_tup, hlen]
  have sC : sRet (eCmp .Eq (eComp [2] (iRange (eBlt "len" [eVar 1])) (aName 2) (tNot (tTr (eCall (callK g k) "_law_alike" 2 [eIx (eVar 0) (eVar 2), eIx (eVar 1) (eVar 2)]))) (eVar 2)) (eLst [])) [some (.tup ws), some (.tup ws), none] st = some (.rt (.bl true) st) := by
    simp [-x_eComp, -b_len_tup, cm, eqE]
  have t1 : tTr (eBlt "isinstance" [eVar 1, eTup [eVal (.ty "tuple"), eVal (.ty "list")]]) [some (.tup ws), some (.tup ws), none] st = some (true, st) := by
    simp [is3, truthW, two_le]
  have body : b__law_alike (callK g k) [some (.tup ws), some (.tup ws), none] st = some (.rt (.bl true) st) := seq_rt ((if_yes t1).trans ((seq_nx sA).trans ((seq_nx sB).trans (seq_rt sC))))
  clear sA sB sC t1 cm hlen
  have o : outF st (.rt (.bl true) st) = some (.bl true, st) := by
    simp
    simpa using hr
  show (if ([W.tup ws, W.tup ws] : List W).length = 2 then (b__law_alike (callK g k) [some (.tup ws), some (.tup ws), none] st).bind fun o => outF st o else none) = _
  rw [body]
  exact (if_pos (show ([W.tup ws, W.tup ws] : List W).length = 2 from rfl)).trans o
end K08
namespace K08
open PySem MP
open L2 (atI ixN cutS Key)
/-! the texts of formulas -/
theorem Sx_app (a b : List Nat) : Sx a ++ Sx b = Sx (a ++ b) := by
  have : (Sx a ++ Sx b).cps.toList = (Sx (a ++ b)).cps.toList := by
    show ((Sx a).cps ++ (Sx b).cps).toList = _
    simp [Sx]
  have h : Sx (Sx a ++ Sx b).cps.toList = Sx (Sx (a ++ b)).cps.toList := congrArg Sx this
  exact h
theorem addS {a b : List Nat} (h : a.length + b.length ≤ 1000) : binW .Add (.str (Sx a)) (.str (Sx b)) = some (.str (Sx (a ++ b))) := by
  show (if (Sx a).length + (Sx b).length ≤ sizeLine then some (W.str (Sx a ++ Sx b)) else none) = _
  have := k_len
  rw [if_pos (by rw [Sx_len, Sx_len]; omega), Sx_app]
theorem cut_tl (x : W) (l : List W) : slW (.tup (x :: l)) (some 1) none = some (.tup l) := cut1 x l
def opN : Bool → List Nat
  | true => [97, 110, 100] | false => [111, 114]
theorem opS_x (k : Bool) : opS k = Sx (opN k) := by cases k <;> decide +kernel
theorem opC_n (k : Bool) : opC k = [32] ++ (opN k ++ [32]) := by cases k <;> rfl
theorem l_not : ("not " : Str) = Sx cNOT := by decide +kernel
theorem l_op : ("(" : Str) = Sx [40] := by decide +kernel
theorem l_cl : (")" : Str) = Sx [41] := by decide +kernel
theorem l_sp : (" " : Str) = Sx [32] := by decide +kernel
theorem tx_len_bi (k : Bool) (p q : Fm) : (tx (.bi k p q)).length = 2 + (opN k).length + 2 + (tx p).length + (tx q).length := by
  simp only [tx, opC_n, List.length_cons, List.length_append, List.length_nil]
  omega
theorem tx_len_nt (p : Fm) : (tx (.nt p)).length = 4 + (tx p).length := by
  simp only [tx, List.length_append, List.length_cons, List.length_nil]
theorem isi_strT (st : Sto) (l : List W) : callB st "isinstance" [.tup l, .ty "str"] = some (.bl false) := Eq.trans rfl rfl
theorem tx_bi (k : Bool) (p q : Fm) : ((((([40] ++ tx p) ++ [32]) ++ opN k) ++ [32]) ++ tx q) ++ [41] = tx (.bi k p q) := by
  simp [tx, opC_n]
section
variable (st : Sto) (hr : st.all stillO = true)
include hr
theorem law_text_at : ∀ (φ : Fm) {K : Nat}, dep φ < K → (tx φ).length ≤ 900 → callK g K "_law_text" [fW φ] st = some (.str (Sx (tx φ)), st)
  | .lf x, K, hK, hl => by
    obtain ⟨k, rfl⟩ : ∃ k, K = k + 1 := ⟨K - 1, by omega⟩
    rw [c__law_text]
    refine run_rt (w := .str (Sx (tx (.lf x)))) rfl ?_ rfl hr
    show b__law_text (callK g k) [some (.str (ls x)), none, none] st = _
    have t : tTr (eBlt "isinstance" [eVar 0, eVal (.ty "str")]) [some (.str (ls x)), none, none] st = some (true, st) := by simp [is2, truthW]
    exact seq_rt ((if_yes t).trans (seq_rt rfl))
  | .nt p, K, hK, hl => by
    obtain ⟨k, rfl⟩ : ∃ k, K = k + 1 := ⟨K - 1, by omega⟩
    simp only [dep] at hK
    rw [tx_len_nt] at hl
    have ih := law_text_at p (K := k) (by omega) (by omega)
    rw [c__law_text]
    refine run_rt (w := .str (Sx (tx (.nt p)))) rfl ?_ rfl hr
    show b__law_text (callK g k) [some (.tup [.str "not", fW p]), none, none] st = _
    have t : tTr (eBlt "isinstance" [eVar 0, eVal (.ty "str")]) [some (.tup [.str "not", fW p]), none, none] st = some (false, st) := by simp [isi_strT, truthW]
    have s1 : (1 : Nat) ≤ sizeLine := by decide
    have s2 : (1 : Nat) < sizeLine := by decide
    have z2 : sAsg 1 (eComp [2] (iSeq (eSl (eVar 0) (some (eVal (.int 1))) none)) (aName 2) tYes (eCall (callK g k) "_law_text" 1 [eVar 2])) [some (.tup [.str "not", fW p]), none, none] st = some (.nx [some (.tup [.str "not", fW p]), some (.lst [.str (Sx (tx p))]), none] st) := by
      have c := cut_tl (.str "not") [fW p]
      simp [c, compW, ih, s1, s2]
    have a := addS (a := cNOT) (b := tx p) (by simp only [List.length_cons, List.length_nil]; omega)
    have z3 : sRet (eIf (tCmp .Eq (eBlt "len" [eVar 1]) (eVal (.int 1))) (eBin .Add (eVal (.str "not ")) (eIx (eVar 1) (eVal (.int 0)))) (eBin .Add (eBin .Add (eBin .Add (eBin .Add (eBin .Add (eBin .Add (eVal (.str "(")) (eIx (eVar 1) (eVal (.int 0)))) (eVal (.str " "))) (eIx (eVar 0) (eVal (.int 0)))) (eVal (.str " "))) (eIx (eVar 1) (eVal (.int 1)))) (eVal (.str ")")))) [some (.tup [.str "not", fW p]), some (.lst [.str (Sx (tx p))]), none] st = some (.rt (.str (Sx (tx (.nt p)))) st) := by
      rw [l_not]
      simp [ixW, a]
      rfl
    unfold b__law_text
    rw [seq_nx (if_no t), seq_nx z2, seq_rt z3]
  | .bi b p q, K, hK, hl => by
    obtain ⟨k, rfl⟩ : ∃ k, K = k + 1 := ⟨K - 1, by omega⟩
    simp only [dep] at hK
    rw [tx_len_bi] at hl
    have ih := law_text_at p (K := k) (by omega) (by omega)
    have ih2 := law_text_at q (K := k) (by omega) (by omega)
    rw [c__law_text]
    refine run_rt (w := .str (Sx (tx (.bi b p q)))) rfl ?_ rfl hr
    show b__law_text (callK g k) [some (.tup [.str (opS b), fW p, fW q]), none, none] st = _
    have t : tTr (eBlt "isinstance" [eVar 0, eVal (.ty "str")]) [some (.tup [.str (opS b), fW p, fW q]), none, none] st = some (false, st) := by simp [isi_strT, truthW]
    have s1 : (2 : Nat) ≤ sizeLine := by decide
    have s2 : (2 : Nat) < sizeLine := by decide
    have z2 : sAsg 1 (eComp [2] (iSeq (eSl (eVar 0) (some (eVal (.int 1))) none)) (aName 2) tYes (eCall (callK g k) "_law_text" 1 [eVar 2])) [some (.tup [.str (opS b), fW p, fW q]), none, none] st = some (.nx [some (.tup [.str (opS b), fW p, fW q]), some (.lst [.str (Sx (tx p)), .str (Sx (tx q))]), none] st) := by
      have c := cut_tl (.str (opS b)) [fW p, fW q]
      simp [c, compW, ih, ih2, s1, s2]
    have e1 := addS (a := [40]) (b := tx p) (by simp only [List.length_cons, List.length_nil]; omega)
    have e2 := addS (a := [40] ++ tx p) (b := [32]) (by simp only [List.length_append, List.length_cons, List.length_nil]; omega)
    have e3 := addS (a := ([40] ++ tx p) ++ [32]) (b := opN b) (by simp only [List.length_append, List.length_cons, List.length_nil]; omega)
    have e4 := addS (a := (([40] ++ tx p) ++ [32]) ++ opN b) (b := [32]) (by simp only [List.length_append, List.length_cons, List.length_nil]; omega)
    have e5 := addS (a := ((([40] ++ tx p) ++ [32]) ++ opN b) ++ [32]) (b := tx q) (by simp only [List.length_append, List.length_cons, List.length_nil]; omega)
    have e6 := addS (a := (((([40] ++ tx p) ++ [32]) ++ opN b) ++ [32]) ++ tx q) (b := [41]) (by simp only [List.length_append, List.length_cons, List.length_nil]; omega)
    rw [tx_bi] at e6
    have z3 : sRet (eIf (tCmp .Eq (eBlt "len" [eVar 1]) (eVal (.int 1))) (eBin .Add (eVal (.str "not ")) (eIx (eVar 1) (eVal (.int 0)))) (eBin .Add (eBin .Add (eBin .Add (eBin .Add (eBin .Add (eBin .Add (eVal (.str "(")) (eIx (eVar 1) (eVal (.int 0)))) (eVal (.str " "))) (eIx (eVar 0) (eVal (.int 0)))) (eVal (.str " "))) (eIx (eVar 1) (eVal (.int 1)))) (eVal (.str ")")))) [some (.tup [.str (opS b), fW p, fW q]), some (.lst [.str (Sx (tx p)), .str (Sx (tx q))]), none] st = some (.rt (.str (Sx (tx (.bi b p q)))) st) := by
      rw [l_op, l_sp, l_cl, opS_x]
      generalize tx (.bi b p q) = tb at *
      generalize tx p = tp at *
      generalize tx q = tq at *
      generalize opN b = ob at *
      simp only [List.append_eq, List.singleton_append, List.cons_append, List.nil_append, List.append_assoc] at e1 e2 e3 e4 e5 e6
      simp [ixW, e1, e2, e3, e4, e5, e6]
    unfold b__law_text
    rw [seq_nx (if_no t), seq_nx z2, seq_rt z3]
end
end K08
namespace K08
open PySem MP
open L2 (atI ixN cutS Key)
theorem parts_at {ρ : Rho} {st : Sto} : ∀ (es : List EX) (as : List (List Nat)) (acc : List Nat), es.length = as.length → (∀ i (h : i < es.length) (h' : i < as.length), es[i] ρ st = some (.str (Sx as[i]), st)) → acc.length + as.flatten.length ≤ 1000 → eParts (Sx acc) es ρ st = some (Sx (acc ++ as.flatten), st)
  | [], [], acc, _, _, _ => by simp [eParts]
  | [], a :: as, acc, h, _, _ => by cases h
  | e :: es, [], acc, h, _, _ => by cases h
  | e :: es, a :: as, acc, h, hv, hz => by
    have e0 : e ρ st = some (.str (Sx a), st) := hv 0 (by simp) (by simp)
    rw [List.flatten_cons, List.length_append] at hz
    have bs := k_len
    unfold eParts
    rw [e0]
    simp only [Option.bind_some]
    rw [Sx_app, if_pos (by rw [Sx_len, List.length_append]; omega), parts_at es as (acc ++ a) (by simpa using h) (fun i h1 h2 => hv (i + 1) (by simp; omega) (by simp; omega)) (by rw [List.length_append]; omega), List.flatten_cons, List.append_assoc]
theorem join_at {ρ : Rho} {st : Sto} {es : List EX} {as : List (List Nat)} (hl : es.length = as.length) (hv : ∀ i (h : i < es.length) (h' : i < as.length), es[i] ρ st = some (.str (Sx as[i]), st)) (hz : as.flatten.length ≤ 1000) : eJoin es ρ st = some (.str (Sx as.flatten), st) := by
  have := parts_at (ρ := ρ) (st := st) es as [] hl hv (by simpa using hz)
  unfold eJoin
  rw [show (Str.empty : Str) = Sx [] from rfl, this]
  rfl
theorem fmt_at {ρ : Rho} {st : Sto} {e : EX} {a : List Nat} (h : e ρ st = some (.str (Sx a), st)) (hz : a.length ≤ 1000) : eFmt e ρ st = some (.str (Sx a), st) := by
  unfold eFmt
  rw [h]
  simp only [Option.bind_some]
  have bs := k_len
  rw [if_pos (by rw [Sx_len]; omega)]
section
variable (st : Sto) (hr : st.all stillO = true)
include hr
theorem text_of_at : ∀ (φ : Fm) {K : Nat}, dep φ + 1 < K → dep φ ≤ 60 → (tx φ).length ≤ 900 → callK g K "text_of" [fW φ] st = some (.str (Sx (tx φ)), st)
  | .lf x, K, hK, h60, hl => by
    obtain ⟨k, rfl⟩ : ∃ k, K = k + 1 := ⟨K - 1, by omega⟩
    rw [c_text_of]
    have e1 := leaf_yes st hr (K := k) (by simp only [dep] at hK; omega) x
    refine run_rt (w := .str (Sx (tx (.lf x)))) rfl ?_ rfl hr
    show b_text_of (callK g k) [some (.str (ls x)), none, none] st = _
    have t : tTr (eCall (callK g k) "is_leaf" 1 [eVar 0]) [some (.str (ls x)), none, none] st = some (true, st) := by simp [e1, truthW]
    exact seq_rt ((if_yes t).trans (seq_rt rfl))
  | .nt p, K, hK, h60, hl => by
    obtain ⟨k, rfl⟩ : ∃ k, K = k + 1 := ⟨K - 1, by omega⟩
    have e1 := leaf_no st hr (K := k) (φ := .nt p) (by omega) rfl h60
    simp only [dep] at hK h60
    rw [tx_len_nt] at hl
    have ih := text_of_at p (K := k) (by omega) (by omega) (by omega)
    rw [c_text_of]
    refine run_rt (w := .str (Sx (tx (.nt p)))) rfl ?_ rfl hr
    show b_text_of (callK g k) [some (fW (.nt p)), none, none] st = _
    have t : tTr (eCall (callK g k) "is_leaf" 1 [eVar 0]) [some (fW (.nt p)), none, none] st = some (false, st) := by simp [e1, truthW]
    have s1 : (1 : Nat) ≤ sizeLine := by decide
    have s2 : (1 : Nat) < sizeLine := by decide
    have z2 : sAsg 1 (eComp [2] (iSeq (eSl (eVar 0) (some (eVal (.int 1))) none)) (aName 2) tYes (eCall (callK g k) "text_of" 1 [eVar 2])) [some (fW (.nt p)), none, none] st = some (.nx [some (fW (.nt p)), some (.lst [.str (Sx (tx p))]), none] st) := by
      have c := cut_tl (.str "not") [fW p]
      simp [fW, c, compW, ih, s1, s2]
    have j := join_at (ρ := [some (fW (.nt p)), some (.lst [.str (Sx (tx p))]), none]) (st := st) (es := [eVal (.str "not "), eFmt (eIx (eVar 1) (eVal (.int 0)))]) (as := [cNOT, tx p]) rfl (fun i h h' => by
      match i with
      | 0 => rw [l_not]; rfl
      | 1 => exact fmt_at (ρ := [some (fW (.nt p)), some (.lst [.str (Sx (tx p))]), none]) (st := st) (a := tx p) (e := eIx (eVar 1) (eVal (.int 0))) (by simp [ixW]) (by omega)
      | i + 2 => exact absurd h (by simp)) (by simp only [List.flatten_cons, List.flatten_nil, List.length_append, List.length_cons, List.length_nil]; omega)
    have t3 : tCmp .Eq (eIx (eVar 0) (eVal (.int 0))) (eVal (.str "not")) [some (fW (.nt p)), some (.lst [.str (Sx (tx p))]), none] st = some (true, st) := by
      rw [x_tCmp]
      simp [fW, ixW]
    unfold b_text_of
    rw [seq_nx (if_no t), seq_nx z2]
    refine seq_rt ((if_yes t3).trans (seq_rt ?_))
    rw [x_sRet, j]
    simp [tx]
  | .bi b p q, K, hK, h60, hl => by
    obtain ⟨k, rfl⟩ : ∃ k, K = k + 1 := ⟨K - 1, by omega⟩
    have e1 := leaf_no st hr (K := k) (φ := .bi b p q) (by omega) rfl h60
    simp only [dep] at hK h60
    rw [tx_len_bi] at hl
    have ih := text_of_at p (K := k) (by omega) (by omega) (by omega)
    have ih2 := text_of_at q (K := k) (by omega) (by omega) (by omega)
    rw [c_text_of]
    refine run_rt (w := .str (Sx (tx (.bi b p q)))) rfl ?_ rfl hr
    show b_text_of (callK g k) [some (fW (.bi b p q)), none, none] st = _
    have t : tTr (eCall (callK g k) "is_leaf" 1 [eVar 0]) [some (fW (.bi b p q)), none, none] st = some (false, st) := by simp [e1, truthW]
    have s1 : (2 : Nat) ≤ sizeLine := by decide
    have s2 : (2 : Nat) < sizeLine := by decide
    have z2 : sAsg 1 (eComp [2] (iSeq (eSl (eVar 0) (some (eVal (.int 1))) none)) (aName 2) tYes (eCall (callK g k) "text_of" 1 [eVar 2])) [some (fW (.bi b p q)), none, none] st = some (.nx [some (fW (.bi b p q)), some (.lst [.str (Sx (tx p)), .str (Sx (tx q))]), none] st) := by
      have c := cut_tl (.str (opS b)) [fW p, fW q]
      simp [fW, c, compW, ih, ih2, s1, s2]
    have j := join_at (ρ := [some (fW (.bi b p q)), some (.lst [.str (Sx (tx p)), .str (Sx (tx q))]), none]) (st := st) (es := [eVal (.str "("), eFmt (eIx (eVar 1) (eVal (.int 0))), eVal (.str " "), eFmt (eIx (eVar 0) (eVal (.int 0))), eVal (.str " "), eFmt (eIx (eVar 1) (eVal (.int 1))), eVal (.str ")")])
      (as := [[40], tx p, [32], opN b, [32], tx q, [41]]) rfl (fun i h h' => by
      match i with
      | 0 => rw [l_op]; rfl
      | 1 => exact fmt_at (ρ := [some (fW (.bi b p q)), some (.lst [.str (Sx (tx p)), .str (Sx (tx q))]), none]) (st := st) (a := tx p) (e := eIx (eVar 1) (eVal (.int 0))) (by simp [ixW]) (by omega)
      | 2 => rw [l_sp]; rfl
      | 3 => exact fmt_at (ρ := [some (fW (.bi b p q)), some (.lst [.str (Sx (tx p)), .str (Sx (tx q))]), none]) (st := st) (a := opN b) (e := eIx (eVar 0) (eVal (.int 0))) (by simp [fW, ixW, opS_x]) (by cases b <;> decide)
      | 4 => rw [l_sp]; rfl
      | 5 => exact fmt_at (ρ := [some (fW (.bi b p q)), some (.lst [.str (Sx (tx p)), .str (Sx (tx q))]), none]) (st := st) (a := tx q) (e := eIx (eVar 1) (eVal (.int 1))) (by simp [ixW]) (by omega)
      | 6 => rw [l_cl]; rfl
      | i + 7 => exact absurd h (by simp)) (by simp only [List.flatten_cons, List.flatten_nil, List.length_append, List.length_cons, List.length_nil]; omega)
    have t3 : tCmp .Eq (eIx (eVar 0) (eVal (.int 0))) (eVal (.str "not")) [some (fW (.bi b p q)), some (.lst [.str (Sx (tx p)), .str (Sx (tx q))]), none] st = some (false, st) := by
      rw [x_tCmp]
      have : decide (opS b = ("not" : Str)) = false := by cases b <;> decide +kernel
      simp [fW, ixW, this]
    unfold b_text_of
    rw [seq_nx (if_no t), seq_nx z2, seq_nx (if_no t3)]
    refine seq_rt ?_
    rw [x_sRet, j]
    simp [tx, opC_n]
theorem write_formula_at {K : Nat} (φ : Fm) (hK : 13 < K) (h8 : dep φ ≤ 8) (h20 : (lv φ).length ≤ 20) (hl : (tx φ).length ≤ 900) : callK g K "write_formula" [fW φ] st = some (.str (Sx (tx φ)), st) := by
  obtain ⟨k, rfl⟩ : ∃ k, K = k + 1 := ⟨K - 1, by omega⟩
  obtain ⟨k, rfl⟩ : ∃ k', k = k' + 1 := ⟨k - 1, by omega⟩
  have f := is_formula_at st hr (K := k) φ (by omega) h8
  have c : callK g (k + 1) "check_formula" [fW φ] st = some (.non, st) := by
    rw [c_check_formula]
    refine run_nx (ρ := [some (fW φ)]) rfl ?_ hr
    show b_check_formula (callK g k) [some (fW φ)] st = _
    simp [b_check_formula, f, h20, truthW]
  have t := text_of_at st hr φ (K := k + 1) (by omega) (by omega) hl
  rw [c_write_formula]
  refine run_rt (w := .str (Sx (tx φ))) rfl ?_ rfl hr
  show b_write_formula (callK g (k + 1)) [some (fW φ)] st = _
  simp [b_write_formula, c, t]
theorem alike_f : ∀ (φ : Fm) {K : Nat}, dep φ < K → callK g K "_law_alike" [fW φ, fW φ] st = some (.bl true, st)
  | .lf x, K, hK => alike_str (by omega) st hr (ls x)
  | .nt p, K, hK => by
    obtain ⟨k, rfl⟩ : ∃ k, K = k + 1 := ⟨K - 1, by omega⟩
    simp only [dep] at hK
    refine alike_tupG st hr [.str "not", fW p] (fun w hw => ?_) (by simp)
    simp only [List.mem_cons, List.not_mem_nil, or_false] at hw
    rcases hw with rfl | rfl
    · exact alike_str (by omega) st hr _
    · exact alike_f p (by omega)
  | .bi b p q, K, hK => by
    obtain ⟨k, rfl⟩ : ∃ k, K = k + 1 := ⟨K - 1, by omega⟩
    simp only [dep] at hK
    refine alike_tupG st hr [.str (opS b), fW p, fW q] (fun w hw => ?_) (by simp)
    simp only [List.mem_cons, List.not_mem_nil, or_false] at hw
    rcases hw with rfl | rfl | rfl
    · exact alike_str (by omega) st hr _
    · exact alike_f p (by omega)
    · exact alike_f q (by omega)
end
/-! a formula is itself -/
theorem eqv_f : ∀ φ : Fm, PyData.eqv (fD φ) (fD φ) = true
  | .lf x => by simp [fD, PyData.eqv]
  | .nt p => by simp [fD, PyData.eqv, PyData.eqvAll, eqv_f p]
  | .bi b p q => by simp [fD, PyData.eqv, PyData.eqvAll, eqv_f p, eqv_f q]
theorem ne_f {φ : Fm} (h : dep φ ≤ 60) : cmpW .NotEq (fW φ) (fW φ) = some false := by
  show (eqW (fW φ) (fW φ)).map (fun k => !k) = _
  have e : eqW (fW φ) (fW φ) = some true := by
    cases φ with
    | lf x => show some (decide (ls x = ls x)) = _; simp
    | nt p =>
      show ((toPy (fW (.nt p))).bind fun d => (toPy (fW (.nt p))).bind fun e => if SeqAt.shaped d = true ∧ SeqAt.shaped e = true then some (PyData.eqv d e) else none) = _
      rw [toPy_f]
      simp only [Option.bind_some]
      rw [if_pos ⟨shaped_f h, shaped_f h⟩, eqv_f]
    | bi b p q =>
      show ((toPy (fW (.bi b p q))).bind fun d => (toPy (fW (.bi b p q))).bind fun e => if SeqAt.shaped d = true ∧ SeqAt.shaped e = true then some (PyData.eqv d e) else none) = _
      rw [toPy_f]
      simp only [Option.bind_some]
      rw [if_pos ⟨shaped_f h, shaped_f h⟩, eqv_f]
  rw [e]
  rfl
end K08
namespace K08
open PySem MP
open L2 (atI ixN cutS Key)
/-! logics as texts -/
def lgC (L : Lg) : List Nat := [cp L.l0, cp L.l1, cp L.l2, cp L.l3, cp L.l4, cp L.l5, cp L.l6, cp L.l7, cp L.l8, cp L.l9, cp L.l10]
theorem isA_cp (a : A3) : isA (cp a) = true := by cases a <;> rfl
theorem LW_sg (L : Lg) : LW L = .tup ((lgC L).map sgW) := rfl
theorem join_L (L : Lg) : methB (.str "") "join" [LW L] = some (.str (Sx (lgC L))) := by kernel_rfl
section
variable (st : Sto) (hr : st.all stillO = true)
include hr
theorem write_L {K : Nat} (hK : 1 < K) (L : Lg) : callK g K "write_logic" [LW L] st = some (.str (Sx (lgC L)), st) := by
  obtain ⟨k, rfl⟩ : ∃ k, K = k + 1 := ⟨K - 1, by omega⟩
  have c := chk_logic (K := k) (by omega) st hr L
  have j := join_L L
  rw [c_write_logic]
  refine run_rt (w := .str (Sx (lgC L))) rfl ?_ rfl hr
  show b_write_logic (callK g k) [some (LW L)] st = _
  generalize LW L = w at *
  simp [b_write_logic, c, j]
theorem read_L {K : Nat} (hK : 1 < K) (L : Lg) : callK g K "read_logic" [.str (Sx (lgC L))] st = some (LW L, st) := by
  obtain ⟨k, rfl⟩ : ∃ k, K = k + 1 := ⟨K - 1, by omega⟩
  have c := chk_logic (K := k) (by omega) st hr L
  have t := (call2_inr (text_ok st hr (K := k) (by omega) (Sx (lgC L)))).2
  have tp : callB st "tuple" [.str (Sx (lgC L))] = some (LW L) := by kernel_rfl
  rw [c_read_logic]
  refine run_rt (w := LW L) rfl ?_ rfl hr
  show b_read_logic (callK g k) [some (.str (Sx (lgC L))), none] st = _
  generalize LW L = w at *
  generalize Sx (lgC L) = z at *
  simp [b_read_logic, c, t, tp]
theorem alike_L {K : Nat} (hK : 1 < K) (L : Lg) : callK g K "_law_alike" [LW L, LW L] st = some (.bl true, st) :=
  alike_tup hK st hr [an L.l0, an L.l1, an L.l2, an L.l3, an L.l4, an L.l5, an L.l6, an L.l7, an L.l8, an L.l9, an L.l10] (by simp)
end
/-! the lines that are no logic -/
def badC (L : Lg) : List (List Nat) := [[], (lgC L).take 10, lgC L ++ [117], (lgC L).take 5 ++ ([120] ++ (lgC L).drop 6), [32] ++ (lgC L).drop 1, (lgC L).map PyProof.Rows.up1, [115, 116, 114, 111, 110, 103]]
theorem bad_all (L : Lg) : ∀ c ∈ badC L, c.length ≤ 1000 ∧ ¬ (c.length = 11 ∧ c.all isA = true) := by
  intro c hc
  simp only [badC, List.mem_cons, List.not_mem_nil, or_false] at hc
  rcases hc with rfl | rfl | rfl | rfl | rfl | rfl | rfl
  · exact ⟨by decide, fun h => absurd h.1 (by decide)⟩
  · exact ⟨by simp [lgC], fun h => absurd h.1 (by simp [lgC])⟩
  · exact ⟨by simp [lgC], fun h => absurd h.1 (by simp [lgC])⟩
  · refine ⟨by simp [lgC], fun h => ?_⟩
    have := h.2
    simp [lgC, isA] at this
  · refine ⟨by simp [lgC], fun h => ?_⟩
    have := h.2
    simp [lgC, isA] at this
  · refine ⟨by simp [lgC], fun h => ?_⟩
    have := h.2
    simp only [lgC, List.map_cons, List.all_cons, Bool.and_eq_true] at this
    have h0 := this.1
    cases hq : L.l0 <;> (rw [hq] at h0; revert h0; decide)
  · exact ⟨by decide, fun h => absurd h.1 (by decide)⟩
theorem up_L (L : Lg) : Txt.upper (Sx (lgC L)) = Sx ((lgC L).map PyProof.Rows.up1) := by
  have h : (lgC L).all (· < 128) = true := by
    have : ∀ a : A3, decide (cp a < 128) = true := fun a => by cases a <;> rfl
    simp [lgC, this]
  have e := PyProof.Rows.upper_ascii (x := Sx (lgC L)) (fun c hc => of_decide_eq_true (List.all_eq_true.mp h c hc))
  rw [e]
  simp [Sx]
end K08
namespace K08
open PySem MP
open L2 (atI ixN cutS Key)
/-! what the law asks -/
/-- a pick among any values -/
theorem pickG {K : Nat} (hK : 1 < K) (ns : List Int) {p s v : Int} (hp : 0 ≤ p) (ws : List W) (h0 : ws ≠ []) (h1 : ws.length < 1073741824) (hb : ∀ w ∈ ws, ∀ n st, back n w st = some w) :
    ∃ w p' s' v', w ∈ ws ∧ 0 ≤ p' ∧ callK g K "_law_pick" [.obj 0, .lst ws] [rowO ns p s v] = some (w, [rowO ns p' s' v']) := by
  obtain ⟨k, rfl⟩ : ∃ k, K = k + 1 := ⟨K - 1, by omega⟩
  have hl : 0 < ws.length := List.length_pos_iff.mpr h0
  obtain ⟨i, p', s', v', a1, a2, a3, a4⟩ := taken (K := k) (by omega) ns (m := (ws.length : Nat)) (s := s) (v := v) [] hp (by omega) (by omega) rfl
  have hi : i.toNat < ws.length := by omega
  refine ⟨ws[i.toNat], p', s', v', List.getElem_mem _, a1, ?_⟩
  rw [c__law_pick]
  have e : atI ws i = some ws[i.toNat] := by
    rw [at_nat a2 (by simpa using a3), List.getElem?_eq_getElem hi]
  have b := hb ws[i.toNat] (List.getElem_mem _) 1 [rowO ns p' s' v']
  generalize ws[i.toNat] = w at *
  simp [b__law_pick, a4, e, b]
/-- what the catching def answers -/
def hw (x : Exn) : Option W := (g.fns.lookup ("_law_word" : Str)).bind fun d => (wordOf g d).bind fun (x0, e, ret, s0) => handW g (L2.defScope d.st) x0 e ret x
theorem hw_inv : hw (.own "InvalidText" none) = some (.str "invalid") := by kernel_rfl
theorem hw_txt : hw (.own "NotText" none) = some (.str "text") := by kernel_rfl
theorem lam_at {z : ZX} {b : EX} {ρ : Rho} {st st1 : Sto} {x : Exn} {w : W} (hz : z ρ st = some (x, st1)) (hx : hw x = some w) : eLam g "_law_word" z b ρ st = some (w, st1) := by
  unfold eLam
  unfold hw at hx
  obtain ⟨d, h1, h2⟩ := Option.bind_eq_some_iff.mp hx
  obtain ⟨⟨x0, e, ret, s0⟩, h3, h4⟩ := Option.bind_eq_some_iff.mp h2
  rw [h1, Option.bind_some, h3, Option.bind_some]
  dsimp only at h4 ⊢
  rw [hz]
  dsimp only
  rw [h4]
  rfl
def oddS1 : List Str := ["", " ", "g", "x", "(a and b", "a and b", "(a  and b)", "(a or b) ", " a", "nota", "not  a"]
def oddS2 : List Str := ["(a and b or c)", "((a and b))", "(a And b)", "(a and bx", "(not a or b]", "not", "not ", "()", "(a and )", "ab", "(not a)"]
def deepS : Str := Txt.mul "not " 9 ++ "a"
def wideS : Str := "((((a and b) and (a and b)) and ((a and b) and (a and b))) and (((a and b) and (a and b)) and ((a and b) and (a and b))))"
def largeS : Str := ("(" ++ wideS) ++ " or ((a or b) or ((a or b) or a)))"
theorem odd1 : ∀ s ∈ oddS1, s.cps.toList.length ≤ 1000 ∧ RF s.cps.toList = none := by
  have h : oddS1.all (fun s => decide (s.cps.toList.length ≤ 1000) && (RF s.cps.toList).isNone) = true := by decide +kernel
  intro s hs
  have := List.all_eq_true.mp h s hs
  simpa using this
theorem odd2 : ∀ s ∈ oddS2, s.cps.toList.length ≤ 1000 ∧ RF s.cps.toList = none := by
  have h : oddS2.all (fun s => decide (s.cps.toList.length ≤ 1000) && (RF s.cps.toList).isNone) = true := by decide +kernel
  intro s hs
  have := List.all_eq_true.mp h s hs
  simpa using this
theorem odd3 : ∀ s ∈ [deepS, largeS], s.cps.toList.length ≤ 1000 ∧ RF s.cps.toList = none := by
  have h : [deepS, largeS].all (fun s => decide (s.cps.toList.length ≤ 1000) && (RF s.cps.toList).isNone) = true := by decide +kernel
  intro s hs
  have := List.all_eq_true.mp h s hs
  simpa using this
def oddS (φ : Fm) : List Str := (oddS1 ++ oddS2) ++ [deepS, largeS, Sx ([40] ++ tx φ), Sx (tx φ ++ [41])]
theorem odd_all {φ : Fm} (h : dep φ ≤ 7) (hl : (tx φ).length ≤ 900) : ∀ s ∈ oddS φ, s.cps.toList.length ≤ 1000 ∧ RF s.cps.toList = none := by
  intro s hs
  simp only [oddS, List.mem_append] at hs
  rcases hs with (hs | hs) | hs
  · exact odd1 s hs
  · exact odd2 s hs
  · rcases List.mem_cons.mp hs with rfl | hs
    · exact odd3 _ (by simp)
    rcases List.mem_cons.mp hs with rfl | hs
    · exact odd3 _ (by simp)
    rcases List.mem_cons.mp hs with rfl | hs
    · exact ⟨by rw [Sx_list]; simp; omega, by rw [Sx_list]; exact RF_open h⟩
    rcases List.mem_cons.mp hs with rfl | hs
    · exact ⟨by rw [Sx_list]; simp; omega, by rw [Sx_list]; exact RF_close (by omega)⟩
    · cases hs
theorem tx_bound : ∀ φ : Fm, (tx φ).length + 7 ≤ 8 * 2 ^ dep φ
  | .lf x => by simp [tx, dep]
  | .nt p => by
    have := tx_bound p
    have h1 : 1 ≤ 2 ^ dep p := Nat.one_le_two_pow
    rw [tx_len_nt]
    simp only [dep, Nat.pow_succ]
    omega
  | .bi k p q => by
    have h1 := tx_bound p
    have h2 := tx_bound q
    have h3 : 2 ^ dep p ≤ 2 ^ max (dep p) (dep q) := Nat.pow_le_pow_right (by decide) (Nat.le_max_left _ _)
    have h4 : 2 ^ dep q ≤ 2 ^ max (dep p) (dep q) := Nat.pow_le_pow_right (by decide) (Nat.le_max_right _ _)
    have h5 : (opN k).length ≤ 3 := by cases k <;> decide
    rw [tx_len_bi]
    simp only [dep, Nat.pow_succ]
    omega
/-! the largest one -/
def nts : Nat → Lf → Fm
  | 0, x => .lf x
  | n + 1, x => .nt (nts n x)
def gA : Fm := nts 4 .b
def gB : Fm := .bi true (nts 3 .c) (nts 3 .d)
def twice (p : Fm) : Fm := .bi true p p
def gL : Fm := .bi true (.bi true (twice (twice gA)) (twice (twice gA))) (.bi true (twice (twice gA)) (twice (twice gB)))
theorem gL_len : (tx gL).length = 441 := by decide +kernel
theorem gL_lv : (lv gL).length = 20 := by decide +kernel
theorem gL_dep : dep gL = 8 := by decide +kernel
theorem wide_at : ∃ p q, RF wideS.cps.toList = some (.bi true p q) := by
  have h : (match RF wideS.cps.toList with | some (.bi true _ _) => true | _ => false) = true := by decide +kernel
  split at h
  · next p q e => exact ⟨p, q, e⟩
  · cases h
def eightS : Str := Txt.mul "not " 8 ++ "a"
theorem eight_at : ∃ p, RF eightS.cps.toList = some (.nt p) := by
  have h : (match RF eightS.cps.toList with | some (.nt _) => true | _ => false) = true := by decide +kernel
  split at h
  · next p e => exact ⟨p, e⟩
  · cases h
end K08
namespace K08
open PySem MP
open L2 (atI ixN cutS Key)
theorem row_still (ns : List Int) (p s v : Int) : ([rowO ns p s v] : Sto).all stillO = true := by simp [still_row]
theorem st_0 (C : CX1) (S : W) : sNew 1 (eLst [eVar 0, eVal (.int 0), eVal (.int 15648), eVal (.int 0)]) [some S, none, none, none, none, none, none, none, none, none, none, none, none, none] [] =
    some (.nx [some S, some (.obj 0), none, none, none, none, none, none, none, none, none, none, none, none] [.lst [S, .int 0, .int 15648, .int 0]]) := by kernel_rfl
section
variable (C : CX1) (F : RX1) (S w f : W) (R0 R1 R2 R3 : O)
theorem st_1 (h1 : C "_law_logic" [.obj 0] [R0] = some (w, [R1])) (h2 : C "_law_formula" [.obj 0, .int 3, .lst [.str "a", .str "b", .str "e"], .lst [.str "f", .str "t", .str "u"]] [R1] = some (f, [R2])) :
    sPar 2 3 (eCall C "_law_logic" 1 [eVar 1]) (eCall C "_law_formula" 4 [eVar 1, eVal (.int 3), eLst [eVal (.str "a"), eVal (.str "b"), eVal (.str "e")], eLst [eVal (.str "f"), eVal (.str "t"), eVal (.str "u")]]) [some S, some (.obj 0), none, none, none, none, none, none, none, none, none, none, none, none] [R0] =
      some (.nx [some S, some (.obj 0), some w, some f, none, none, none, none, none, none, none, none, none, none] [R2]) := by
  have : 3 ≤ sizeLine := by decide
  simp [h1, h2, this]
theorem st_2 (line : Str) (hj : methB (.str "") "join" [w] = some (.str line)) (h1 : C "write_logic" [w] [R2] = some (.str line, [R2])) (h2 : C "read_logic" [.str line] [R2] = some (w, [R2])) (h3 : C "_law_alike" [w, w] [R2] = some (.bl true, [R2])) :
    sIf (tOr (tCmp .NotEq (eCall C "write_logic" 1 [eVar 2]) (eMeth (eVal (.str "")) "join" [eVar 2])) (tNot (tTr (eCall C "_law_alike" 2 [eCall C "read_logic" 1 [eMeth (eVal (.str "")) "join" [eVar 2]], eVar 2])))) [sRet (eVal (.bl false))] [] [some S, some (.obj 0), some w, some f, none, none, none, none, none, none, none, none, none, none] [R2] =
      some (.nx [some S, some (.obj 0), some w, some f, none, none, none, none, none, none, none, none, none, none] [R2]) := by
  simp [hj, h1, h2, h3, truthW]
theorem st_3 (text : Str) (h1 : C "_law_text" [f] [R2] = some (.str text, [R2])) : sAsg 4 (eCall C "_law_text" 1 [eVar 3]) [some S, some (.obj 0), some w, some f, none, none, none, none, none, none, none, none, none, none] [R2] =
      some (.nx [some S, some (.obj 0), some w, some f, some (.str text), none, none, none, none, none, none, none, none, none] [R2]) := by
  simp [h1]
theorem st_4 (text : Str) (h1 : C "write_formula" [f] [R2] = some (.str text, [R2])) (h2 : C "read_formula" [.str text] [R2] = some (f, [R2])) (h3 : C "_law_alike" [f, f] [R2] = some (.bl true, [R2])) :
    sIf (tOr (tCmp .NotEq (eCall C "write_formula" 1 [eVar 3]) (eVar 4)) (tNot (tTr (eCall C "_law_alike" 2 [eCall C "read_formula" 1 [eVar 4], eVar 3])))) [sRet (eVal (.bl false))] [] [some S, some (.obj 0), some w, some f, some (.str text), none, none, none, none, none, none, none, none, none] [R2] =
      some (.nx [some S, some (.obj 0), some w, some f, some (.str text), none, none, none, none, none, none, none, none, none] [R2]) := by
  simp [h1, h2, h3, truthW]
theorem st_5 (t : W) (line : Str) (hj : methB (.str "") "join" [w] = some (.str line)) : sAsg 5 (eMeth (eVal (.str "")) "join" [eVar 2]) [some S, some (.obj 0), some w, some f, some t, none, none, none, none, none, none, none, none, none] [R2] =
      some (.nx [some S, some (.obj 0), some w, some f, some t, some (.str line), none, none, none, none, none, none, none, none] [R2]) := by
  simp [hj]
abbrev eBad : EX := eLst [eVal (.str ""), eSl (eVar 5) none (some (eVal (.int 10))), eBin .Add (eVar 5) (eVal (.str "u")), eBin .Add (eBin .Add (eSl (eVar 5) none (some (eVal (.int 5)))) (eVal (.str "x"))) (eSl (eVar 5) (some (eVal (.int 6))) none), eBin .Add (eVal (.str " ")) (eSl (eVar 5) (some (eVal (.int 1))) none), eMeth0 (eVar 5) "upper", eVal (.str "strong")]
end
theorem bad_at (L : Lg) (a b c d e : Option W) (st : Sto) : eBad [a, b, c, d, e, some (.str (Sx (lgC L))), none, none, none, none, none, none, none, none] st = some (.lst ((badC L).map fun c => .str (Sx c)), st) := by
  have s1 : slW (.str (Sx (lgC L))) none (some 10) = some (.str (Sx ((lgC L).take 10))) := by kernel_rfl
  have s2 : slW (.str (Sx (lgC L))) none (some 5) = some (.str (Sx ((lgC L).take 5))) := by kernel_rfl
  have s3 : slW (.str (Sx (lgC L))) (some 6) none = some (.str (Sx ((lgC L).drop 6))) := by kernel_rfl
  have s4 : slW (.str (Sx (lgC L))) (some 1) none = some (.str (Sx ((lgC L).drop 1))) := by kernel_rfl
  have u : methB0 (.str (Sx (lgC L))) "upper" = some (.str (Sx ((lgC L).map PyProof.Rows.up1))) := by
    show (if (Sx (lgC L)).length ≤ 5592405 then some (W.str (Txt.upper (Sx (lgC L)))) else none) = _
    rw [if_pos (by rw [Sx_len]; exact Nat.le_trans (show (lgC L).length ≤ 11 by simp [lgC]) (by decide)), up_L]
  have e0 : ("" : Str) = Sx [] := by decide +kernel
  have e1 : ("u" : Str) = Sx [117] := by decide +kernel
  have e2 : ("x" : Str) = Sx [120] := by decide +kernel
  have e4 : ("strong" : Str) = Sx [115, 116, 114, 111, 110, 103] := by decide +kernel
  have a1 := addS (a := lgC L) (b := [117]) (by simp [lgC])
  have a2 := addS (a := (lgC L).take 5) (b := [120]) (by simp [lgC])
  have a3 := addS (a := (lgC L).take 5 ++ [120]) (b := (lgC L).drop 6) (by simp [lgC])
  have a4 := addS (a := [32]) (b := (lgC L).drop 1) (by simp [lgC])
  rw [List.append_assoc] at a3
  have z : 7 ≤ sizeLine := by decide
  unfold eBad badC
  rw [e1, e2, l_sp, e4, e0]
  generalize lgC L = l at *
  generalize l.take 10 = l1 at *
  generalize l.take 5 = l2 at *
  generalize l.drop 6 = l3 at *
  generalize l.drop 1 = l4 at *
  generalize l.map PyProof.Rows.up1 = l5 at *
  have g1 : ∀ m : List Nat, l2 ++ 120 :: m = l2 ++ ([120] ++ m) := fun m => rfl
  have g2 : ∀ m : List Nat, 32 :: m = [32] ++ m := fun m => rfl
  simp only [x_eLst, x_eList0, x_eList1, x_eVal, x_eSl, x_eVar, x_ePart0, x_ePart1, x_eBin, x_eMeth0, List.getElem?_cons_succ, List.getElem?_cons_zero, Option.bind_some, Option.map_some, s1, s2, s3, s4, u, a1, a2, a3, a4, List.map_cons, List.map_nil, List.length_cons, List.length_nil]
  rw [if_pos z]
end K08
namespace K08
open PySem MP
open L2 (atI ixN cutS Key)
section
variable (C : CX1) (F : RX1) (S w f : W) (R2 R3 R4 : O) (st : Sto)
theorem st_6 (t line : W) (l : List W) (x : W) (hb : eBad [some S, some (.obj 0), some w, some f, some t, some line, none, none, none, none, none, none, none, none] [R2] = some (.lst l, [R2])) (hp : C "_law_pick" [.obj 0, .lst l] [R2] = some (x, [R3])) :
    sAsg 6 (eCall C "_law_pick" 2 [eVar 1, eBad]) [some S, some (.obj 0), some w, some f, some t, some line, none, none, none, none, none, none, none, none] [R2] =
      some (.nx [some S, some (.obj 0), some w, some f, some t, some line, some x, none, none, none, none, none, none, none] [R3]) := by
  simp only [x_sAsg, x_eCall, x_eList0, x_eList1, hb, x_eVar, List.getElem?_cons_succ, List.getElem?_cons_zero, Option.bind_some, Option.map_some, List.length_cons, List.length_nil, if_true, hp]
  rfl
theorem st_7 (t line x : W) : sAsg 7 (eLst [eVal (.str ""), eVal (.str " "), eVal (.str "g"), eVal (.str "x"), eVal (.str "(a and b"), eVal (.str "a and b"), eVal (.str "(a  and b)"), eVal (.str "(a or b) "), eVal (.str " a"), eVal (.str "nota"), eVal (.str "not  a")])
    [some S, some (.obj 0), some w, some f, some t, some line, some x, none, none, none, none, none, none, none] st =
      some (.nx [some S, some (.obj 0), some w, some f, some t, some line, some x, some (.lst (oddS1.map .str)), none, none, none, none, none, none] st) := by kernel_rfl
theorem st_8 (t line x : W) : sAsg 7 (eBinE (eVar 7) (eLst [eVal (.str "(a and b or c)"), eVal (.str "((a and b))"), eVal (.str "(a And b)"), eVal (.str "(a and bx"), eVal (.str "(not a or b]"), eVal (.str "not"), eVal (.str "not "), eVal (.str "()"), eVal (.str "(a and )"), eVal (.str "ab"), eVal (.str "(not a)")]))
    [some S, some (.obj 0), some w, some f, some t, some line, some x, some (.lst (oddS1.map .str)), none, none, none, none, none, none] st =
      some (.nx [some S, some (.obj 0), some w, some f, some t, some line, some x, some (.lst ((oddS1 ++ oddS2).map .str)), none, none, none, none, none, none] st) := by kernel_rfl
theorem st_9 (t line x o : W) : sAsg 8 (eBin .Add (eBin .Mult (eVal (.str "not ")) (eVal (.int 9))) (eVal (.str "a")))
    [some S, some (.obj 0), some w, some f, some t, some line, some x, some o, none, none, none, none, none, none] st =
      some (.nx [some S, some (.obj 0), some w, some f, some t, some line, some x, some o, some (.str deepS), none, none, none, none, none] st) := by kernel_rfl
theorem st_10 (t line x o d : W) : sAsg 9 (eVal (.str "((((a and b) and (a and b)) and ((a and b) and (a and b))) and (((a and b) and (a and b)) and ((a and b) and (a and b))))"))
    [some S, some (.obj 0), some w, some f, some t, some line, some x, some o, some d, none, none, none, none, none] st =
      some (.nx [some S, some (.obj 0), some w, some f, some t, some line, some x, some o, some d, some (.str wideS), none, none, none, none] st) := rfl
theorem st_11 (line x : W) (φ : Fm) (hl : (tx φ).length ≤ 900) : sAsg 7 (eBinE (eVar 7) (eLst [eVar 8, eBin .Add (eBin .Add (eVal (.str "(")) (eVar 9)) (eVal (.str " or ((a or b) or ((a or b) or a)))")), eBin .Add (eVal (.str "(")) (eVar 4), eBin .Add (eVar 4) (eVal (.str ")"))]))
    [some S, some (.obj 0), some w, some f, some (.str (Sx (tx φ))), some line, some x, some (.lst ((oddS1 ++ oddS2).map .str)), some (.str deepS), some (.str wideS), none, none, none, none] st =
      some (.nx [some S, some (.obj 0), some w, some f, some (.str (Sx (tx φ))), some line, some x, some (.lst ((oddS φ).map .str)), some (.str deepS), some (.str wideS), none, none, none, none] st) := by
  have b1 : binW .Add (.str "(") (.str wideS) = some (.str ("(" ++ wideS)) := by kernel_rfl
  have b2 : binW .Add (.str ("(" ++ wideS)) (.str " or ((a or b) or ((a or b) or a)))") = some (.str largeS) := by kernel_rfl
  have b3 : binW .Add (.str "(") (.str (Sx (tx φ))) = some (.str (Sx ([40] ++ tx φ))) := by rw [l_op]; exact addS (by simp; omega)
  have b4 : binW .Add (.str (Sx (tx φ))) (.str ")") = some (.str (Sx (tx φ ++ [41]))) := by rw [l_cl]; exact addS (by simp; omega)
  have z : 4 ≤ sizeLine := by decide
  have e : eLst [eVar 8, eBin .Add (eBin .Add (eVal (.str "(")) (eVar 9)) (eVal (.str " or ((a or b) or ((a or b) or a)))")), eBin .Add (eVal (.str "(")) (eVar 4), eBin .Add (eVar 4) (eVal (.str ")"))]
      [some S, some (.obj 0), some w, some f, some (.str (Sx (tx φ))), some line, some x, some (.lst ((oddS1 ++ oddS2).map .str)), some (.str deepS), some (.str wideS), none, none, none, none] st = some (.lst [.str deepS, .str largeS, .str (Sx ([40] ++ tx φ)), .str (Sx (tx φ ++ [41]))], st) := by
    simp only [x_eLst, x_eList0, x_eList1, x_eVal, x_eVar, x_eBin, List.getElem?_cons_succ, List.getElem?_cons_zero, Option.bind_some, Option.map_some, b1, b2, b3, b4, List.length_cons, List.length_nil]
    rw [if_pos z]
  have ad : binE st (.lst ((oddS1 ++ oddS2).map .str)) (.lst [.str deepS, .str largeS, .str (Sx ([40] ++ tx φ)), .str (Sx (tx φ ++ [41]))]) = some (.lst ((oddS φ).map .str)) := by kernel_rfl
  simp only [x_sAsg, x_eBinE, e, x_eVar, List.getElem?_cons_succ, List.getElem?_cons_zero, Option.bind_some, Option.map_some, ad]
  rfl
theorem st_12 (t line x o d wd y : W) (h1 : F "read_logic" [x] [R3] = some (.own "InvalidText" none, [R3])) (h2 : C "_law_pick" [.obj 0, o] [R3] = some (y, [R4])) (h3 : F "read_formula" [y] [R4] = some (.own "InvalidText" none, [R4])) :
    sIf (tCmp .NotEq (eLst [eLam g "_law_word" (zCallF F "read_logic" 1 [eVar 6]) (eCall C "read_logic" 1 [eVar 6]), eLam g "_law_word" (zCallF F "read_formula" 1 [eCall C "_law_pick" 2 [eVar 1, eVar 7]]) (eCall C "read_formula" 1 [eCall C "_law_pick" 2 [eVar 1, eVar 7]])]) (eLst [eVal (.str "invalid"), eVal (.str "invalid")])) [sRet (eVal (.bl false))] []
      [some S, some (.obj 0), some w, some f, some t, some line, some x, some o, some d, some wd, none, none, none, none] [R3] =
      some (.nx [some S, some (.obj 0), some w, some f, some t, some line, some x, some o, some d, some wd, none, none, none, none] [R4]) := by
  have l1 : eLam g "_law_word" (zCallF F "read_logic" 1 [eVar 6]) (eCall C "read_logic" 1 [eVar 6]) [some S, some (.obj 0), some w, some f, some t, some line, some x, some o, some d, some wd, none, none, none, none] [R3] = some (.str "invalid", [R3]) :=
    lam_at (by simp [zCallF, h1]) hw_inv
  have l2 : eLam g "_law_word" (zCallF F "read_formula" 1 [eCall C "_law_pick" 2 [eVar 1, eVar 7]]) (eCall C "read_formula" 1 [eCall C "_law_pick" 2 [eVar 1, eVar 7]]) [some S, some (.obj 0), some w, some f, some t, some line, some x, some o, some d, some wd, none, none, none, none] [R3] = some (.str "invalid", [R4]) :=
    lam_at (by simp [zCallF, h2, h3]) hw_inv
  have c := c_neL (l := ["invalid", "invalid"]) (m := ["invalid", "invalid"]) (by decide +kernel) (by decide +kernel)
  have c : cmpW .NotEq (.lst [.str "invalid", .str "invalid"]) (.lst [.str "invalid", .str "invalid"]) = some false := by
    refine c.trans ?_
    simp
  have z : 2 ≤ sizeLine := by decide
  have e : tCmp .NotEq (eLst [eLam g "_law_word" (zCallF F "read_logic" 1 [eVar 6]) (eCall C "read_logic" 1 [eVar 6]), eLam g "_law_word" (zCallF F "read_formula" 1 [eCall C "_law_pick" 2 [eVar 1, eVar 7]]) (eCall C "read_formula" 1 [eCall C "_law_pick" 2 [eVar 1, eVar 7]])]) (eLst [eVal (.str "invalid"), eVal (.str "invalid")])
      [some S, some (.obj 0), some w, some f, some t, some line, some x, some o, some d, some wd, none, none, none, none] [R3] = some (false, [R4]) := by
    simp only [x_tCmp, x_eLst, x_eList0, x_eList1, l1, l2, x_eVal, Option.bind_some, List.length_cons, List.length_nil]
    rw [if_pos z]
    simp only [Option.bind_some]
    rw [if_pos z]
    simp only [Option.bind_some, c, Option.map_some]
  exact (if_no e).trans rfl
theorem st_13 (t line x o d wd y : W) (hp : C "_law_pick" [.obj 0, .lst [.non, .int 5, .lst [.str "a"], .tup [.str "not", .str "a"], .bl true]] [R3] = some (y, [R4])) :
    sAsg 10 (eCall C "_law_pick" 2 [eVar 1, eLst [eVal .non, eVal (.int 5), eLst [eVal (.str "a")], eTup [eVal (.str "not"), eVal (.str "a")], eVal (.bl true)]])
      [some S, some (.obj 0), some w, some f, some t, some line, some x, some o, some d, some wd, none, none, none, none] [R3] =
      some (.nx [some S, some (.obj 0), some w, some f, some t, some line, some x, some o, some d, some wd, some y, none, none, none] [R4]) := by
  have z5 : 5 ≤ sizeLine := by decide
  have z2 : 2 ≤ sizeLine := by decide
  have z1 : 1 ≤ sizeLine := by decide
  simp [hp, z5, z2, z1]
theorem st_14 (t line x o d wd y : W) (h1 : F "read_logic" [y] [R3] = some (.own "NotText" none, [R3])) (h3 : F "read_formula" [y] [R3] = some (.own "NotText" none, [R3])) :
    sIf (tCmp .NotEq (eLst [eLam g "_law_word" (zCallF F "read_logic" 1 [eVar 10]) (eCall C "read_logic" 1 [eVar 10]), eLam g "_law_word" (zCallF F "read_formula" 1 [eVar 10]) (eCall C "read_formula" 1 [eVar 10])]) (eLst [eVal (.str "text"), eVal (.str "text")])) [sRet (eVal (.bl false))] []
      [some S, some (.obj 0), some w, some f, some t, some line, some x, some o, some d, some wd, some y, none, none, none] [R3] =
      some (.nx [some S, some (.obj 0), some w, some f, some t, some line, some x, some o, some d, some wd, some y, none, none, none] [R3]) := by
  have l1 : eLam g "_law_word" (zCallF F "read_logic" 1 [eVar 10]) (eCall C "read_logic" 1 [eVar 10]) [some S, some (.obj 0), some w, some f, some t, some line, some x, some o, some d, some wd, some y, none, none, none] [R3] = some (.str "text", [R3]) :=
    lam_at (by simp [zCallF, h1]) hw_txt
  have l2 : eLam g "_law_word" (zCallF F "read_formula" 1 [eVar 10]) (eCall C "read_formula" 1 [eVar 10]) [some S, some (.obj 0), some w, some f, some t, some line, some x, some o, some d, some wd, some y, none, none, none] [R3] = some (.str "text", [R3]) :=
    lam_at (by simp [zCallF, h3]) hw_txt
  have c := c_neL (l := ["text", "text"]) (m := ["text", "text"]) (by decide +kernel) (by decide +kernel)
  have c : cmpW .NotEq (.lst [.str "text", .str "text"]) (.lst [.str "text", .str "text"]) = some false := by
    refine c.trans ?_
    simp
  have z : 2 ≤ sizeLine := by decide
  have e : tCmp .NotEq (eLst [eLam g "_law_word" (zCallF F "read_logic" 1 [eVar 10]) (eCall C "read_logic" 1 [eVar 10]), eLam g "_law_word" (zCallF F "read_formula" 1 [eVar 10]) (eCall C "read_formula" 1 [eVar 10])]) (eLst [eVal (.str "text"), eVal (.str "text")])
      [some S, some (.obj 0), some w, some f, some t, some line, some x, some o, some d, some wd, some y, none, none, none] [R3] = some (false, [R3]) := by
    simp only [x_tCmp, x_eLst, x_eList0, x_eList1, l1, l2, x_eVal, Option.bind_some, List.length_cons, List.length_nil]
    rw [if_pos z]
    simp only [Option.bind_some]
    rw [if_pos z]
    simp only [Option.bind_some, c, Option.map_some]
  exact (if_no e).trans rfl
theorem st_15 (t line x o d wd y A B1 B2 : W) (h1 : C "_law_nots" [.int 4, .str "b"] st = some (A, st)) (h2 : C "_law_nots" [.int 3, .str "c"] st = some (B1, st)) (h3 : C "_law_nots" [.int 3, .str "d"] st = some (B2, st)) :
    sAsg 11 (eBin .Add (eBin .Mult (eLst [eCall C "_law_nots" 2 [eVal (.int 4), eVal (.str "b")]]) (eVal (.int 12))) (eBin .Mult (eLst [eTup [eVal (.str "and"), eCall C "_law_nots" 2 [eVal (.int 3), eVal (.str "c")], eCall C "_law_nots" 2 [eVal (.int 3), eVal (.str "d")]]]) (eVal (.int 4))))
      [some S, some (.obj 0), some w, some f, some t, some line, some x, some o, some d, some wd, some y, none, none, none] st =
      some (.nx [some S, some (.obj 0), some w, some f, some t, some line, some x, some o, some d, some wd, some y, some (.lst (List.replicate 12 A ++ List.replicate 4 (.tup [.str "and", B1, B2]))), none, none] st) := by
  have m1 : binW .Mult (.lst [A]) (.int 12) = some (.lst (List.replicate 12 A)) := by kernel_rfl
  have m2 : ∀ B : W, binW .Mult (.lst [B]) (.int 4) = some (.lst (List.replicate 4 B)) := fun B => by kernel_rfl
  have ad : ∀ B : W, binW .Add (.lst (List.replicate 12 A)) (.lst (List.replicate 4 B)) = some (.lst (List.replicate 12 A ++ List.replicate 4 B)) := fun B => by kernel_rfl
  have z3 : 3 ≤ sizeLine := by decide
  have z1 : 1 ≤ sizeLine := by decide
  have c1 : eCall C "_law_nots" 2 [eVal (.int 4), eVal (.str "b")] [some S, some (.obj 0), some w, some f, some t, some line, some x, some o, some d, some wd, some y, none, none, none] st = some (A, st) := by simp [h1]
  have c2 : eCall C "_law_nots" 2 [eVal (.int 3), eVal (.str "c")] [some S, some (.obj 0), some w, some f, some t, some line, some x, some o, some d, some wd, some y, none, none, none] st = some (B1, st) := by simp [h2]
  have c3 : eCall C "_law_nots" 2 [eVal (.int 3), eVal (.str "d")] [some S, some (.obj 0), some w, some f, some t, some line, some x, some o, some d, some wd, some y, none, none, none] st = some (B2, st) := by simp [h3]
  simp only [x_sAsg, x_eBin, x_eLst, x_eTup, x_eList0, x_eList1, x_eVal, c1, c2, c3, Option.bind_some, List.length_cons, List.length_nil, z3, z1, Nat.zero_add, Nat.reduceAdd, if_true, m1, m2, ad, Option.map_some]
  rfl
theorem nots_4 {K : Nat} (hK : 0 < K) (hr : st.all stillO = true) : callK g K "_law_nots" [.int 4, .str "b"] st = some (fW gA, st) := by
  obtain ⟨k, rfl⟩ : ∃ k, K = k + 1 := ⟨K - 1, by omega⟩
  rw [c__law_nots]
  exact run_rt (w := fW gA) rfl (by kernel_rfl) (back_f _ _ gA) hr
theorem nots_3 {K : Nat} (hK : 0 < K) (hr : st.all stillO = true) : callK g K "_law_nots" [.int 3, .str "c"] st = some (fW (nts 3 .c), st) ∧ callK g K "_law_nots" [.int 3, .str "d"] st = some (fW (nts 3 .d), st) := by
  obtain ⟨k, rfl⟩ : ∃ k, K = k + 1 := ⟨K - 1, by omega⟩
  rw [c__law_nots, c__law_nots]
  exact ⟨run_rt (w := fW (nts 3 .c)) rfl (by kernel_rfl) (back_f _ _ (nts 3 .c)) hr, run_rt (w := fW (nts 3 .d)) rfl (by kernel_rfl) (back_f _ _ (nts 3 .d)) hr⟩
abbrev pr (a b : W) : W := .tup [.str "and", a, b]
theorem st_16 (t line x o d wd y A B : W) :
    sFor (iSeq (eLst [eVal (.int 8), eVal (.int 4), eVal (.int 2), eVal (.int 1)])) (aName 12) [sAsg 11 (eComp [13] (iRange (eVar 12)) (aName 13) tYes (eTup [eVal (.str "and"), eIx (eVar 11) (eBin .Mult (eVal (.int 2)) (eVar 13)), eIx (eVar 11) (eBin .Add (eBin .Mult (eVal (.int 2)) (eVar 13)) (eVal (.int 1)))]))]
      [some S, some (.obj 0), some w, some f, some t, some line, some x, some o, some d, some wd, some y, some (.lst (List.replicate 12 A ++ List.replicate 4 B)), none, none] st =
      some (.nx [some S, some (.obj 0), some w, some f, some t, some line, some x, some o, some d, some wd, some y,
        some (.lst [pr (pr (pr (pr A A) (pr A A)) (pr (pr A A) (pr A A))) (pr (pr (pr A A) (pr A A)) (pr (pr B B) (pr B B)))]), some (.int 1), none] st) := by kernel_rfl
end
end K08
namespace K08
open PySem MP
open L2 (atI ixN cutS Key)
section
variable (C : CX1) (S w f t line x o d wd y : W) (st : Sto)
theorem st_17 (M sz at_ : Option W) (m : W) (T : Str) (h1 : C "_law_text" [m] st = some (.str T, st)) (hT : callB st "len" [.str T] = some (.int 441)) (h2 : C "write_formula" [m] st = some (.str T, st)) (h3 : C "read_formula" [.str T] st = some (m, st)) (h4 : cmpW .NotEq m m = some false) :
    sIf (tOr (tCmp .NotEq (eBlt "len" [eCall C "_law_text" 1 [eIx (eVar 11) (eVal (.int 0))]]) (eVal (.int 441))) (tOr (tCmp .NotEq (eCall C "write_formula" 1 [eIx (eVar 11) (eVal (.int 0))]) (eCall C "_law_text" 1 [eIx (eVar 11) (eVal (.int 0))])) (tCmp .NotEq (eCall C "read_formula" 1 [eCall C "_law_text" 1 [eIx (eVar 11) (eVal (.int 0))]]) (eIx (eVar 11) (eVal (.int 0)))))) [sRet (eVal (.bl false))] []
      [some S, some (.obj 0), some w, some f, some t, some line, some x, some o, some d, some wd, some y, some (.lst [m]), sz, at_] st =
      some (.nx [some S, some (.obj 0), some w, some f, some t, some line, some x, some o, some d, some wd, some y, some (.lst [m]), sz, at_] st) := by
  have i : eIx (eVar 11) (eVal (.int 0)) [some S, some (.obj 0), some w, some f, some t, some line, some x, some o, some d, some wd, some y, some (.lst [m]), sz, at_] st = some (m, st) := by simp [ixW]
  have e1 : eCall C "_law_text" 1 [eIx (eVar 11) (eVal (.int 0))] [some S, some (.obj 0), some w, some f, some t, some line, some x, some o, some d, some wd, some y, some (.lst [m]), sz, at_] st = some (.str T, st) := by simp [-x_eIx, i, h1]
  have e2 : eCall C "write_formula" 1 [eIx (eVar 11) (eVal (.int 0))] [some S, some (.obj 0), some w, some f, some t, some line, some x, some o, some d, some wd, some y, some (.lst [m]), sz, at_] st = some (.str T, st) := by simp [-x_eIx, i, h2]
  have e3 : eCall C "read_formula" 1 [eCall C "_law_text" 1 [eIx (eVar 11) (eVal (.int 0))]] [some S, some (.obj 0), some w, some f, some t, some line, some x, some o, some d, some wd, some y, some (.lst [m]), sz, at_] st = some (m, st) := by
    rw [x_eCall, x_eList1, e1]
    simp [h3]
  refine (if_no (st1 := st) ?_).trans rfl
  have e0 : eBlt "len" [eCall C "_law_text" 1 [eIx (eVar 11) (eVal (.int 0))]] [some S, some (.obj 0), some w, some f, some t, some line, some x, some o, some d, some wd, some y, some (.lst [m]), sz, at_] st = some (.int 441, st) := by
    rw [x_eBlt, x_eList1, e1]
    simp [hT]
  have q1 : tCmp .NotEq (eBlt "len" [eCall C "_law_text" 1 [eIx (eVar 11) (eVal (.int 0))]]) (eVal (.int 441)) [some S, some (.obj 0), some w, some f, some t, some line, some x, some o, some d, some wd, some y, some (.lst [m]), sz, at_] st = some (false, st) := by
    rw [x_tCmp, e0]
    simp
  have q2 : tCmp .NotEq (eCall C "write_formula" 1 [eIx (eVar 11) (eVal (.int 0))]) (eCall C "_law_text" 1 [eIx (eVar 11) (eVal (.int 0))]) [some S, some (.obj 0), some w, some f, some t, some line, some x, some o, some d, some wd, some y, some (.lst [m]), sz, at_] st = some (false, st) := by
    rw [x_tCmp, e2, Option.bind_some]
    dsimp only
    rw [e1]
    simp
  have q3 : tCmp .NotEq (eCall C "read_formula" 1 [eCall C "_law_text" 1 [eIx (eVar 11) (eVal (.int 0))]]) (eIx (eVar 11) (eVal (.int 0))) [some S, some (.obj 0), some w, some f, some t, some line, some x, some o, some d, some wd, some y, some (.lst [m]), sz, at_] st = some (false, st) := by
    rw [x_tCmp, e3, Option.bind_some]
    dsimp only
    rw [i]
    simp [h4]
  rw [x_tOr, q1, Option.bind_some]
  dsimp only
  rw [if_neg (by decide), x_tOr, q2, Option.bind_some]
  dsimp only
  rw [if_neg (by decide), q3]
theorem st_18 (M sz at_ : Option W) (p p2 q2 : W) (h1 : C "read_formula" [.str eightS] st = some (.tup [.str "not", p], st)) (h2 : C "_law_alike" [.str "not", .str "not"] st = some (.bl true, st)) (h3 : C "read_formula" [.str wideS] st = some (.tup [.str "and", p2, q2], st)) :
    sRet (eAnd (eCall C "_law_alike" 2 [eIx (eCall C "read_formula" 1 [eBin .Add (eBin .Mult (eVal (.str "not ")) (eVal (.int 8))) (eVal (.str "a"))]) (eVal (.int 0)), eVal (.str "not")]) (eCmp .Eq (eIx (eCall C "read_formula" 1 [eVar 9]) (eVal (.int 0))) (eVal (.str "and"))))
      [some S, some (.obj 0), some w, some f, some t, some line, some x, some o, some d, some (.str wideS), some y, M, sz, at_] st = some (.rt (.bl true) st) := by
  have b1 : binW .Mult (.str "not ") (.int 8) = some (.str (Txt.mul "not " 8)) := by kernel_rfl
  have b2 : binW .Add (.str (Txt.mul "not " 8)) (.str "a") = some (.str eightS) := by kernel_rfl
  simp [b1, b2, h1, h2, h3, ixW]
end
theorem lits : ("a" : Str) = ls .a ∧ ("b" : Str) = ls .b ∧ ("e" : Str) = ls .e ∧ ("f" : Str) = ls .f ∧ ("t" : Str) = ls .t ∧ ("u" : Str) = ls .u := by decide +kernel
theorem law_run {K : Nat} (hK : 18 < K) (ns : List Int) : ∃ R : O, b_law (callK g K) (callF g K) [some (.rl (ns.map .int)), none, none, none, none, none, none, none, none, none, none, none, none, none] [] = some (.rt (.bl true) [R]) := by
  obtain ⟨L, p1, s1, v1, hp1, e1⟩ := law_logic (K := K) (by omega) ns (p := 0) (s := 15648) (v := 0) (Int.le_refl 0)
  obtain ⟨φ, p2, s2, v2, ⟨hd, _⟩, hp2, e2⟩ := law_formula_at ns [.a, .b, .e] [.f, .t, .u] (by simp) (by simp) [] rfl 3 (K := K) (p := p1) (s := s1) (v := v1) (by omega) hp1
  have e2 : callK g K "_law_formula" [.obj 0, .int 3, .lst [.str "a", .str "b", .str "e"], .lst [.str "f", .str "t", .str "u"]] [rowO ns p1 s1 v1] = some (fW φ, [rowO ns p2 s2 v2]) := by
    obtain ⟨a1, a2, a3, a4, a5, a6⟩ := lits
    rw [a1, a2, a3, a4, a5, a6]
    exact e2
  have still : ∀ p s v : Int, ([rowO ns p s v] : Sto).all stillO = true := row_still ns
  have hb := tx_bound φ
  have hpow : 2 ^ dep φ ≤ 2 ^ 3 := Nat.pow_le_pow_right (by decide) hd
  have htx : (tx φ).length ≤ 57 := by omega
  have hlv : (lv φ).length ≤ 20 := Nat.le_trans (lv_len φ) (Nat.le_trans hpow (by decide))
  have rf : RF (tx φ) = some φ := RF_tx (by omega) hlv
  have st2 := still p2 s2 v2
  -- bad lines
  obtain ⟨x, p3, s3, v3, hx, hp3, e6⟩ := pick (K := K) (by omega) ns (p := p2) (s := s2) (v := v2) [] hp2 rfl ((badC L).map Sx) (by simp [badC]) (by simp [badC])
  obtain ⟨bc, hbc, rfl⟩ := List.mem_map.mp hx
  rw [List.map_map] at e6
  obtain ⟨hbl, hbn⟩ := bad_all L bc hbc
  -- odd texts
  obtain ⟨y, p4, s4, v4, hy, hp4, e12⟩ := pick (K := K) (by omega) ns (p := p3) (s := s3) (v := v3) [] hp3 rfl (oddS φ) (by simp [oddS]) (by simp [oddS, oddS1, oddS2])
  obtain ⟨hyl, hyn⟩ := odd_all (by omega) (by omega) y hy
  -- no texts
  obtain ⟨z, p5, s5, v5, hz, hp5, e13⟩ := pickG (K := K) (by omega) ns (p := p4) (s := s4) (v := v4) hp4 [.non, .int 5, .lst [.str "a"], .tup [.str "not", .str "a"], .bl true] (by simp) (by simp) (fun w hw n st => by
    simp only [List.mem_cons, List.not_mem_nil, or_false] at hw
    rcases hw with rfl | rfl | rfl | rfl | rfl <;> rfl)
  have hzs : ∀ st : Sto, callB st "isinstance" [z, .ty "str"] = some (.bl false) := fun st => by
    simp only [List.mem_cons, List.not_mem_nil, or_false] at hz
    rcases hz with rfl | rfl | rfl | rfl | rfl <;> exact Eq.trans rfl rfl
  have st5 := still p5 s5 v5
  obtain ⟨n3, n3'⟩ := nots_3 [rowO ns p5 s5 v5] (K := K) (by omega) st5
  obtain ⟨p8, hp8⟩ := eight_at
  obtain ⟨pw, qw, hw⟩ := wide_at
  have r8 : callK g K "read_formula" [.str eightS] [rowO ns p5 s5 v5] = some (.tup [.str "not", fW p8], [rowO ns p5 s5 v5]) := read_ok _ st5 (cs := eightS.cps.toList) (by decide +kernel) hK hp8
  have rw8 : callK g K "read_formula" [.str wideS] [rowO ns p5 s5 v5] = some (.tup [.str "and", fW pw, fW qw], [rowO ns p5 s5 v5]) := read_ok _ st5 (cs := wideS.cps.toList) (by decide +kernel) hK hw
  have rfg : RF (tx gL) = some gL := RF_tx (by rw [gL_dep]; decide) (by rw [gL_lv]; decide)
  refine ⟨rowO ns p5 s5 v5, ?_⟩
  have fin := st_18 (callK g K) (.rl (ns.map .int)) (LW L) (fW φ) (.str (Sx (tx φ))) (.str (Sx (lgC L))) (.str (Sx bc)) (.lst ((oddS φ).map .str)) (.str deepS) z [rowO ns p5 s5 v5] (some (.lst [fW gL])) (some (.int 1)) none (fW p8) (fW pw) (fW qw) r8 (alike_str (by omega) _ st5 "not") rw8
  unfold b_law
  rw [seq_nx (st_0 (callK g K) (.rl (ns.map .int)))]
  rw [seq_nx (st_1 (callK g K) _ _ _ _ _ _ e1 e2)]
  rw [seq_nx (st_2 (callK g K) _ _ _ _ (Sx (lgC L)) (join_L L) (write_L _ st2 (by omega) L) (read_L _ st2 (by omega) L) (alike_L _ st2 (by omega) L))]
  rw [seq_nx (st_3 (callK g K) _ _ _ _ (Sx (tx φ)) (law_text_at _ st2 φ (by omega) (by omega)))]
  rw [seq_nx (st_4 (callK g K) _ _ _ _ (Sx (tx φ)) (write_formula_at _ st2 φ (by omega) (by omega) hlv (by omega)) (read_ok _ st2 (by omega) hK rf) (alike_f _ st2 φ (by omega)))]
  rw [seq_nx (st_5 _ _ _ _ _ (Sx (lgC L)) (join_L L))]
  rw [seq_nx (st_6 (callK g K) _ _ _ _ _ _ _ _ _ (bad_at L _ _ _ _ _ _) e6)]
  rw [seq_nx (st_7 _ _ _ _ _ _ _)]
  rw [seq_nx (st_8 _ _ _ _ _ _ _)]
  rw [seq_nx (st_9 _ _ _ _ _ _ _ _)]
  rw [seq_nx (st_10 _ _ _ _ _ _ _ _ _)]
  rw [seq_nx (st_11 _ _ _ _ _ _ φ (by omega))]
  rw [seq_nx (st_12 (callK g K) (callF g K) _ _ _ _ _ _ _ _ _ _ _ _ (readL_bad _ (still p3 s3 v3) (by omega) hbl hbn) e12 (read_bad _ (still p4 s4 v4) (cs := y.cps.toList) hyl hK hyn))]
  rw [seq_nx (st_13 (callK g K) _ _ _ _ _ _ _ _ _ _ _ _ e13)]
  rw [seq_nx (st_14 (callK g K) (callF g K) _ _ _ _ _ _ _ _ _ _ _ (readL_no _ st5 (by omega) hzs) (read_no _ st5 (by omega) hzs))]
  rw [seq_nx (st_15 (callK g K) _ _ _ _ _ _ _ _ _ _ _ _ _ _ (nots_4 _ (by omega) st5) n3 n3')]
  rw [seq_nx (st_16 _ _ _ _ _ _ _ _ _ _ _ _ _)]
  have gl : pr (pr (pr (pr (fW gA) (fW gA)) (pr (fW gA) (fW gA))) (pr (pr (fW gA) (fW gA)) (pr (fW gA) (fW gA)))) (pr (pr (pr (fW gA) (fW gA)) (pr (fW gA) (fW gA))) (pr (pr (.tup [.str "and", fW (nts 3 .c), fW (nts 3 .d)]) (.tup [.str "and", fW (nts 3 .c), fW (nts 3 .d)])) (pr (.tup [.str "and", fW (nts 3 .c), fW (nts 3 .d)]) (.tup [.str "and", fW (nts 3 .c), fW (nts 3 .d)])))) = fW gL := rfl
  rw [gl]
  rw [seq_nx (st_17 (callK g K) _ _ _ _ _ _ _ _ _ _ _ none _ _ (fW gL) (Sx (tx gL)) (law_text_at _ st5 gL (by rw [gL_dep]; omega) (by rw [gL_len]; decide)) ((len_str (by rw [gL_len]; decide)).trans (by rw [gL_len]; rfl)) (write_formula_at _ st5 gL (by omega) (by rw [gL_dep]; decide) (by rw [gL_lv]; decide) (by rw [gL_len]; decide)) (read_ok _ st5 (by rw [gL_len]; decide) hK rfg) (ne_f (by rw [gL_dep]; decide)))]
  exact seq_rt fin
theorem main (ns : List Int) (h : ns.length ≤ 63) : callK g 20 "law" [.rl (ns.map .int)] [] = some (.bl true, []) := by
  rw [c_law]
  obtain ⟨R, e⟩ := law_run (K := 19) (by decide) ns
  generalize callK g 19 = C at *
  generalize callF g 19 = F at *
  show (if ([W.rl (ns.map .int)] : List W).length = 1 then (b_law C F [some (.rl (ns.map .int)), none, none, none, none, none, none, none, none, none, none, none, none, none] []).bind fun o => outF [] o else none) = _
  rw [e]
  rfl
end K08
namespace MP
open PySem L2 PySem.Spec PyProof.Rows

section
variable (B : Bd)
/-- what must hold behind an evaluation -/
def Post (μ ex : List Addr) (H : Hp) (w : W) (st' : Sto) (Q : VK) : Prop :=
  ∀ μ' H' x, Ext μ H μ' H' → S B μ' ex H' st' → R B μ' ex H' w x → Q x H'
def PostB (μ ex : List Addr) (H : Hp) (b : Bool) (st' : Sto) (Q : Bool → Hp → Prop) : Prop :=
  ∀ μ' H', Ext μ H μ' H' → S B μ' ex H' st' → Q b H'
def PostA (μ ex : List Addr) (H : Hp) (ws : List W) (st' : Sto) (Q : List V → Hp → Prop) : Prop :=
  ∀ μ' H' xs, Ext μ H μ' H' → S B μ' ex H' st' → RA B μ' ex H' ws xs → Q xs H'
def tW (f : Rho → Sto → Option (W × Sto)) : TE := fun σ H Q => ∃ ρ st μ ex w st',
  EnvR B μ ex H ρ σ ∧ S B μ ex H st ∧ f ρ st = some (w, st') ∧ Post B μ ex H w st' Q
/-- .. a new thing, that nobody else holds -/
def PostF (μ ex : List Addr) (H : Hp) (w : W) (st' : Sto) (Q : VK) : Prop :=
  ∀ μ1 H1 ho p o, newO w = some o → Ext μ H μ1 H1 → S B μ1 ex H1 st' → OR B μ1 ex H1 o p (some ho) → H1 p = none → Q (.ref p) (upd H1 p ho)
def tWf (f : Rho → Sto → Option (W × Sto)) : TE := fun σ H Q => ∃ ρ st μ ex w st',
  EnvR B μ ex H ρ σ ∧ S B μ ex H st ∧ f ρ st = some (w, st') ∧ PostF B μ ex H w st' Q
def tB (f : Rho → Sto → Option (Bool × Sto)) : TT := fun σ H Q => ∃ ρ st μ ex b st',
  EnvR B μ ex H ρ σ ∧ S B μ ex H st ∧ f ρ st = some (b, st') ∧ PostB B μ ex H b st' Q
def tAs (f : Rho → Sto → Option (List W × Sto)) : TA := fun σ H Q => ∃ ρ st μ ex ws st',
  EnvR B μ ex H ρ σ ∧ S B μ ex H st ∧ f ρ st = some (ws, st') ∧ PostA B μ ex H ws st' Q
/-- a def's promise -/
def spOf (call : Str → List W → Sto → Option (W × Sto)) (f : Str) (n : Nat) : Sp := fun vs H Q _ => ∃ ws st μ ex w st',
  ws.length = n ∧ RA B μ ex H ws vs ∧ S B μ ex H st ∧ call f ws st = some (w, st') ∧ Post B μ ex H w st' Q
/-- how an exception lies in the heap -/
def XR (μ ex : List Addr) (H : Hp) : Exn → Value → Option Addr → Prop
  | .key, cls, _ => cls = .type "KeyError"
  | .own c none, cls, d => d = none ∧ ∃ C, B.fa c = some C ∧ cls = .ref C
  | .own c (some w), cls, d => ∃ C a v, B.fa c = some C ∧ cls = .ref C ∧ d = some a ∧ H a = some (.xd [("index", v)]) ∧ a ∉ μ ∧ a ∉ ex ∧ R B μ ex H w v
/-- what must hold where an evaluation raises -/
def PostZ (μ ex : List Addr) (H : Hp) (x : Exn) (st' : Sto) (E : XK) : Prop :=
  ∀ μ' H' cls d, Ext μ H μ' H' → S B μ' ex H' st' → XR B μ' ex H' x cls d → E cls d H'
def tZ (f : Rho → Sto → Option (Exn × Sto)) (W : WX) (σ : L2.St) (H : Hp) : Prop := ∃ ρ st μ ex x st',
  EnvR B μ ex H ρ σ ∧ S B μ ex H st ∧ f ρ st = some (x, st') ∧ PostZ B μ ex H x st' fun cls d H' => W cls d σ H'
/-- what a def may let out -/
def spZ (call : Str → List W → Sto → Option (Exn × Sto)) (f : Str) (n : Nat) : Sp := fun vs H _ E => ∃ ws st μ ex x st',
  ws.length = n ∧ RA B μ ex H ws vs ∧ S B μ ex H st ∧ call f ws st = some (x, st') ∧ PostZ B μ ex H x st' E
end
/-- a def's promise where it ends with a new tuple -/
def spT (B : Bd) (call : Str → List W → Sto → Option (W × Sto)) (f : Str) (n : Nat) : Sp := fun vs H Q _ => ∃ ws st μ ex l st',
  ws.length = n ∧ RA B μ ex H ws vs ∧ S B μ ex H st ∧ call f ws st = some (.tup l, st') ∧
  ∀ μ' H' a o xs, Ext μ H μ' H' → S B μ' ex H' st' → H' a = some (.frz o (.tup xs)) → o.dict = none → a ∉ μ' → RA B μ' ex H' l xs → Q (.ref a) H'
/-- who takes every error takes those that were raised where nothing was handled -/
theorem takesN {X : Cx} {W : WX} (tk : L2.Takes X W) : L2N.Takes X W := fun u s' ⟨a, B, sI, pins, σ, H, cls, d, e, I, nb, up, sky, na, os, ag, w⟩ => by
  refine tk u s' ⟨a, B, sI, pins, σ, H, cls, d, e, I, nb, up, ?_, na, os, ag, w⟩
  rcases sky with ⟨z1, z2, z3, oe, vs, z4, z5, z6⟩ | ⟨z1, z2, z3, z4⟩ | ⟨z1, z2, z3, z4⟩
  · exact .inl ⟨z1, z2, z3, oe, vs, z4, z5.zc, z6⟩
  · exact .inr (.inl ⟨z1, z2, z3, L2H.tracedZ_imp (fun _ h => h.zc) z4⟩)
  · exact .inr (.inr ⟨z1, z2, z3, L2H.tracedZ_imp (fun _ h => h.zc) z4⟩)
/-- what the top has left of an own error class -/
structure ClsAt (K : PySem.W.Frag) (mg : Str → Option Value) (fa : Str → Option Addr) (g : Gam) (x : Str) (l : List Str) (C : Addr) : Prop where
  atF : fa x = some C
  atG : mg x = some (.ref C)
  kp : PySem.W.keepIn K (.ref C) = true
  ec : ExcC K C
  ty : PySem.W.typeIn K (.ref C) = some (.type "type")
  xp : x ∉ g.ini → PySem.W.excIn K C [.type "ValueError", .type "Exception", .type "BaseException", .type "object"] "ValueError.__new__" = true
  exm : ∀ y l', g.cls.lookup y = some l' → ∃ D, fa y = some D ∧ PySem.W.exmOne K (.ref C) (.ref D) = some (l.contains y) ∧ PySem.W.kitOne K (.ref C) (.ref D) = some (l.contains y)
/-- what the __init__ of an own error class does -/
def spIni (C : Addr) : Sp := fun vs H Q _ => ∃ (a : Addr) (v : V), vs = [.ref a, v] ∧ H a = some (exo a C none) ∧ ∀ d, H d = none → d ≠ a → Q .non (upd (upd H d (exd d [("index", v)])) a (exo a C (some d)))
structure IniAt (P : Program) (w : World) (K : PySem.W.Frag) (mg : Str → Option Value) (base : Heap) (fa : Str → Option Addr) (k : Nat) (x : Str) : Prop where
  ex : ∃ (C fI : Addr) (fd : FuncData), fa x = some C ∧ mg x = some (.ref C) ∧ OexC K C ∧ PySem.W.findIn K (.ref C) "__init__" = some (some (.ref fI)) ∧ PySem.W.typeIn K (.ref fI) = some (.type "function") ∧ Binds K fd ["self", "index"] [] ∧ FnOk P w K mg base CX0 k fI fd ["self", "index"] (spIni C)
/-- what the top has left of a def -/
structure DefAt (K : PySem.W.Frag) (mg : Str → Option Value) (fa : Str → Option Addr) (f : Str) (d : Fn) : Prop where
  ex : ∃ a fd, fa f = some a ∧ mg f = some (.ref a) ∧ PySem.W.keepIn K (.ref a) = true ∧ Fun K f d.qual d.st a fd ∧ Binds K fd d.ps []
  sc : FnScope d.N d.ps (defScope d.st)
/-- the context of a body or a block -/
structure Ok (c : Cfg) (fa : Str → Option Addr) (X : Cx) (sc : Scope) (k : Nat) : Prop where
  N : X.N = c.N
  nd : c.N.Nodup
  scE : X.env.scope = sc
  kind : sc.kind = .function
  calm : X.calm = true
  room : Room k X.A
  cs : ∀ x w, c.g.cs.lookup x = some w → ∃ u v, X.mg x = some u ∧ RelV v u ∧ ∀ μ ex H, R (bd fa X) μ ex H w v
  bs : ∀ x, x ∈ c.g.bs → X.mg x = none
  tys : ∀ x, x ∈ c.g.tys → X.mg x = none ∧ bootBuiltins x = some (.type x.toString)
  fns : ∀ f d, c.g.fns.lookup f = some d → ∃ a fd, fa f = some a ∧ X.mg f = some (.ref a) ∧ PySem.W.keepIn X.K (.ref a) = true ∧ Binds X.K fd d.ps [] ∧
    FnOk X.prog X.w X.K X.mg X.base CX0 k a fd d.ps (spOf (bd fa X) c.call f d.ps.length) ∧
    FnOk X.prog X.w X.K X.mg X.base (L2N.CX X.prog X.w) k a fd d.ps (spZ (bd fa X) c.callR f d.ps.length) ∧
    (tupOk c.g d = true → FnOk X.prog X.w X.K X.mg X.base CX0 k a fd d.ps (spT (bd fa X) c.call f d.ps.length))
  defs : ∀ f d, c.g.fns.lookup f = some d → DefAt X.K X.mg fa f d
  cls : ∀ x l, c.g.cls.lookup x = some l → ∃ C, ClsAt X.K X.mg fa c.g x l C
  fnsF : ∀ f d, c.g.fns.lookup f = some d → ∃ a fd, fa f = some a ∧ X.mg f = some (.ref a) ∧ PySem.W.keepIn X.K (.ref a) = true ∧ Binds X.K fd d.ps [] ∧ FnOk X.prog X.w X.K X.mg X.base (L2.CX X.prog X.w) k a fd d.ps (spZ (bd fa X) c.callF f d.ps.length)
  ini : ∀ x, x ∈ c.g.ini → IniAt X.prog X.w X.K X.mg X.base fa 1 x
  lam : c.lam = true → Room (k + 2) X.A ∧ ∃ cc P, tabsOf fa = [(P, X.env.qual ++ "<lambda>")] ∧ X.env.code = .ref cc ∧ LamX.TabB X.base X.mg cc P

theorem pe_mono {X : Cx} {e : Expr} {t t' : TE} (h : PE X e t) (m : ∀ σ H Q, t' σ H Q → t σ H Q) : PE X e t' := ⟨fun pins s σ H Q I q => h.run pins s σ H Q I (m σ H Q q)⟩
theorem pt_mono {X : Cx} {e : Expr} {t t' : TT} (h : PT X e t) (m : ∀ σ H Q, t' σ H Q → t σ H Q) : PT X e t' := ⟨fun pins s σ H Q I q => h.run pins s σ H Q I (m σ H Q q)⟩
theorem pa_mono {X : Cx} {e : List Expr} {t t' : TA} (h : PA X e t) (m : ∀ σ H Q, t' σ H Q → t σ H Q) : PA X e t' := ⟨fun pos pins s σ H Q I q => h.run pos pins s σ H Q I (m σ H Q q)⟩
theorem pe_false {X : Cx} {e : Expr} {t : TE} (m : ∀ σ H Q, ¬ t σ H Q) : PE X e t := ⟨fun pins s σ H Q I q => (m σ H Q q).elim⟩
theorem pt_false {X : Cx} {e : Expr} {t : TT} (m : ∀ σ H Q, ¬ t σ H Q) : PT X e t := ⟨fun pins s σ H Q I q => (m σ H Q q).elim⟩

section
variable {B : Bd} {μ ex : List Addr} {H : Hp}
theorem Post.now {w : W} {st : Sto} {Q : VK} {x : V} (p : Post B μ ex H w st Q) (s : S B μ ex H st) (r : R B μ ex H w x) : Q x H := p μ H x (Ext.refl _ _) s r
theorem Post.ext {μ' : List Addr} {H' : Hp} {w : W} {st : Sto} {Q : VK} (p : Post B μ ex H w st Q) (e : Ext μ H μ' H') : Post B μ' ex H' w st Q := fun μ2 H2 x e2 s r => p μ2 H2 x (e.trans e2) s r
/-- a new thing that stands still -/
theorem S.new {st : Sto} {p : Addr} {o : HO} (s : S B μ ex H st) (n : H p = none) : Ext μ H μ (upd H p o) ∧ S B μ ex (upd H p o) st ∧ p ∉ μ ∧ p ∉ ex := by
  have m : ∀ a, a ∈ μ → H a ≠ none := fun a ha e => by
    obtain ⟨i, hi, e1⟩ := List.mem_iff_getElem.mp ha
    have hi2 : i < st.length := s.len ▸ hi
    obtain ⟨b, q1, q2⟩ := s.obj i st[i] (List.getElem?_eq_getElem hi2)
    rw [List.getElem?_eq_getElem hi, e1] at q1
    cases q1
    rw [e] at q2
    cases h : st[i] with
    | lst l => rw [h] at q2; obtain ⟨_, q, _⟩ := q2; cases q
    | dk ks vs => rw [h] at q2; obtain ⟨_, q, _⟩ := q2; cases q
    | dt ks vs => rw [h] at q2; obtain ⟨_, q, _⟩ := q2; cases q
  have np : p ∉ μ := fun h => m p h n
  have nx : p ∉ ex := fun h => s.exs p h n
  have e : Ext μ H μ (upd H p o) := ⟨⟨[], by simp⟩, fun a u na q _ => ⟨by rw [upd_ne (ne_of_none q n)]; exact q, na⟩⟩
  refine ⟨e, ⟨s.nd, s.len, fun i u h => ?_, fun a h => ?_, s.tab.step fun b u nb q => ⟨by rw [upd_ne (ne_of_none q n)]; exact q, nb⟩⟩, np, nx⟩
  · obtain ⟨a, q1, q2⟩ := s.obj i u h
    have ha : a ∈ μ := List.mem_of_getElem? q1
    refine ⟨a, q1, ?_⟩
    rw [upd_ne (fun z => np (by rw [← z]; exact ha))]
    exact q2.chg e.chg
  · intro z
    by_cases hz : a = p
    · exact nx (by rw [← hz]; exact h)
    · rw [upd_ne hz] at z
      exact s.exs a h z
theorem Post.new {w : W} {st : Sto} {Q : VK} {o : O} {ho : HO} (q : Post B μ ex H w st Q) (e : newO w = some o) (s : S B μ ex H st) {p : Addr} (n : H p = none) (r : OR B μ ex H o p (some ho)) : Q (.ref p) (upd H p ho) := by
  obtain ⟨x, s', np, nx⟩ := s.new (o := ho) n
  refine q _ _ _ x s' ?_
  cases w <;> first | (cases e; done) | skip
  · cases e
    obtain ⟨xs, h1, h2⟩ := r
    cases h1
    exact ⟨p, xs, rfl, ⟨upd_same, np, nx⟩, h2.ext x⟩
  · cases e
    obtain ⟨kvs, h1, h2, h3⟩ := r
    cases h1
    exact ⟨p, kvs, rfl, ⟨upd_same, np, nx⟩, h2, h3.ext x⟩
  · cases e
    obtain ⟨kvs, h1, kt, h2, h3⟩ := r
    cases h1
    exact ⟨p, kvs, rfl, ⟨upd_same, np, nx⟩, kt.chg x.chg, h2, h3.ext x⟩
theorem Post.f {w : W} {st : Sto} {Q : VK} (q : Post B μ ex H w st Q) : PostF B μ ex H w st Q := fun μ1 H1 ho p o e x s r n => (q.ext x).new e s n r
theorem PostF.ext {μ' : List Addr} {H' : Hp} {w : W} {st : Sto} {Q : VK} (q : PostF B μ ex H w st Q) (e : Ext μ H μ' H') : PostF B μ' ex H' w st Q := fun μ1 H1 ho p o h x => q μ1 H1 ho p o h (e.trans x)
theorem PostF.lst {st : Sto} {ws : List W} {xs : List V} {Q : VK} (s : S B μ ex H st) (r : RA B μ ex H ws xs) (q : PostF B μ ex H (.lst ws) st Q) : ∀ p, H p = none → Q (.ref p) (upd H p (.lst xs)) := fun p n =>
  q _ _ _ _ _ rfl (Ext.refl _ _) s ⟨xs, rfl, r⟩ n
/-- a new tuple, a new list -/
theorem Post.tup {st : Sto} {ws : List W} {xs : List V} {Q : VK} (s : S B μ ex H st) (r : RA B μ ex H ws xs) (q : Post B μ ex H (.tup ws) st Q) : ∀ p, H p = none → Q (.ref p) (upd H p (.tup xs)) := fun p n => by
  obtain ⟨e, s', np, nx⟩ := s.new (o := .tup xs) n
  exact q _ _ _ e s' ⟨p, xs, rfl, .inl ⟨.inl upd_same, np, nx⟩, r.ext e⟩
theorem Post.lst {st : Sto} {ws : List W} {xs : List V} {Q : VK} (s : S B μ ex H st) (r : RA B μ ex H ws xs) (q : Post B μ ex H (.lst ws) st Q) : ∀ p, H p = none → Q (.ref p) (upd H p (.lst xs)) := fun p n => by
  obtain ⟨e, s', np, nx⟩ := s.new (o := .lst xs) n
  exact q _ _ _ e s' ⟨p, xs, rfl, ⟨upd_same, np, nx⟩, r.ext e⟩
end

theorem tWf_of {B : Bd} {f : Rho → Sto → Option (W × Sto)} {σ : L2.St} {H : Hp} {Q : VK} (h : tW B f σ H Q) : tWf B f σ H Q := by
  obtain ⟨ρ, st, μ, ex, w, st', er, s, e, q⟩ := h
  exact ⟨ρ, st, μ, ex, w, st', er, s, e, q.f⟩
section
variable {c : Cfg} {fa : Str → Option Addr} {X : Cx} {sc : Scope} {k : Nat}
theorem slot_ok {x : Str} : ∀ {N : List Str} {i : Nat}, slot x N = some i → N[i]? = some x
  | [], _, h => by cases h
  | y :: ys, i, h => by
    unfold slot at h
    by_cases e : y = x
    · rw [if_pos e] at h; cases h; simp [e]
    · rw [if_neg e] at h
      cases q : slot x ys with
      | none => rw [q] at h; cases h
      | some j => rw [q] at h; cases h; simpa using slot_ok q
theorem vis_ok (ok : Ok c fa X sc k) {x : Str} (h : visB sc x = true) : Vis X.env.scope x := by
  rw [ok.scE]
  unfold visB at h
  cases q : sc.names.lookup x with
  | none => rw [q] at h; cases h
  | some z =>
    rw [q] at h
    cases z with
    | «local» => exact .inl q
    | cell => exact .inr (.inl q)
    | free => exact .inr (.inr q)
    | globalExplicit => cases h
    | globalImplicit => cases h
theorem gl_ok (ok : Ok c fa X sc k) {x : Str} (h : glB sc x = true) : Gl X x := by
  show X.env.scope.names.lookup x = _
  rw [ok.scE]
  unfold glB at h
  cases q : sc.names.lookup x with
  | none => rw [q] at h; cases h
  | some z => rw [q] at h; cases z <;> first | rfl | cases h
theorem okName_ok {x : Str} (h : okName x = true) : (x == ("__debug__" : Str)) = false ∧ (x == ("__classdict__" : Str)) = false ∧ x ≠ ("__name__" : Str) := by
  unfold okName at h
  simp only [Bool.and_eq_true, Bool.not_eq_true'] at h
  exact ⟨h.1.1, h.1.2, by intro e; rw [e] at h; simp at h⟩

theorem ok_Name (ok : Ok c fa X sc k) (r : Rec) (x : Str) (pos : Pos) : PE X (.Name x pos) (tW (bd fa X) (evE c r sc (.Name x pos))) := by
  by_cases hn : okName x = true
  · obtain ⟨h1, h2, h3⟩ := okName_ok hn
    by_cases hv : visB sc x = true
    · cases hs : slot x c.N with
      | none =>
        refine pe_false fun σ H Q ⟨ρ, st, μ, ex, w, st', _, _, e, _⟩ => ?_
        simp [evE, nameW, hn, hv, hs] at e
      | some i =>
        refine pe_mono (pe_var (i := i) (by rw [ok.N]; exact slot_ok hs) (vis_ok ok hv) h1 h2) fun σ H Q ⟨ρ, st, μ, ex, w, st', er, s, e, q⟩ => ?_
        simp only [evE, nameW, hn, hv, hs, if_true, Option.bind_some, Option.map_eq_some_iff, Prod.mk.injEq] at e
        obtain ⟨w', e1, rfl, rfl⟩ := e
        cases e2 : ρ[i]? with
        | none => rw [e2] at e1; cases e1
        | some y =>
          rw [e2] at e1
          have e3 : y = some w' := e1
          subst e3
          obtain ⟨v, q1, q2⟩ := er.at_ i w' e2
          exact ⟨v, q1, q.now s q2⟩
    · by_cases hg : glB sc x = true
      · cases hc : c.g.cs.lookup x with
        | some w0 =>
          obtain ⟨u, v, m, rv, rr⟩ := ok.cs x w0 hc
          refine pe_mono (pe_glob (gl_ok ok hg) m rv h1) fun σ H Q ⟨ρ, st, μ, ex, w, st', er, s, e, q⟩ => ?_
          simp only [evE, nameW, hn, hv, hg, hc, if_true, Option.map_some, Option.some.injEq, Prod.mk.injEq, Bool.false_eq_true, if_false] at e
          obtain ⟨rfl, rfl⟩ := e
          exact q.now s (rr _ _ _)
        | none =>
          by_cases ht : x ∈ c.g.tys
          · obtain ⟨m, b⟩ := ok.tys x ht
            refine pe_mono (pe_bltn (v := .ty x.toString) (gl_ok ok hg) m b rfl h3 h1) fun σ H Q ⟨ρ, st, μ, ex, w, st', er, s, e, q⟩ => ?_
            simp only [evE, nameW, hn, hv, hg, hc, ht, if_true, Option.map_some, Option.some.injEq, Prod.mk.injEq, Bool.false_eq_true, if_false] at e
            obtain ⟨rfl, rfl⟩ := e
            exact q.now s rfl
          · cases hf : c.g.fns.lookup x with
            | none =>
              refine pe_false fun σ H Q ⟨ρ, st, μ, ex, w, st', _, _, e, _⟩ => ?_
              simp [evE, nameW, hn, hv, hg, hc, ht, hf] at e
            | some d =>
              obtain ⟨a, fd, e1, e2, _⟩ := ok.fns x d hf
              refine pe_mono (pe_glob (v := .ref a) (gl_ok ok hg) e2 rfl h1) fun σ H Q ⟨ρ, st, μ, ex, w, st', er, s, e, q⟩ => ?_
              simp only [evE, nameW, hn, hv, hg, hc, ht, hf, if_true, Option.map_some, Option.some.injEq, Prod.mk.injEq, Bool.false_eq_true, if_false, Option.isSome_some] at e
              obtain ⟨rfl, rfl⟩ := e
              exact q.now s ⟨a, rfl, e1⟩
      · refine pe_false fun σ H Q ⟨ρ, st, μ, ex, w, st', _, _, e, _⟩ => ?_
        simp [evE, nameW, hn, hv, hg] at e
  · refine pe_false fun σ H Q ⟨ρ, st, μ, ex, w, st', _, _, e, _⟩ => ?_
    simp [evE, nameW, hn] at e

theorem ok_Const (r : Rec) (x : Const) (j : Nat) (pos : Pos) : PE X (.Constant x j pos) (tW (bd fa X) (evE c r sc (.Constant x j pos))) := by
  cases x with
  | none => exact pe_mono pe_non fun σ H Q ⟨ρ, st, μ, ex, w, st', er, s, e, q⟩ => by cases e; exact q.now s rfl
  | bool b => exact pe_mono pe_bl fun σ H Q ⟨ρ, st, μ, ex, w, st', er, s, e, q⟩ => by cases e; exact q.now s rfl
  | int i => exact pe_mono pe_int fun σ H Q ⟨ρ, st, μ, ex, w, st', er, s, e, q⟩ => by cases e; exact q.now s rfl
  | str b => exact pe_mono pe_str fun σ H Q ⟨ρ, st, μ, ex, w, st', er, s, e, q⟩ => by cases e; exact q.now s rfl
  | float _ => exact pe_false fun σ H Q ⟨ρ, st, μ, ex, w, st', er, s, e, q⟩ => by cases e
  | complex _ _ => exact pe_false fun σ H Q ⟨ρ, st, μ, ex, w, st', er, s, e, q⟩ => by cases e
  | bytes _ => exact pe_false fun σ H Q ⟨ρ, st, μ, ex, w, st', er, s, e, q⟩ => by cases e
  | ellipsis => exact pe_false fun σ H Q ⟨ρ, st, μ, ex, w, st', er, s, e, q⟩ => by cases e
end
end MP
namespace MP
open PySem L2 PySem.Spec PyProof.Rows
/-! a tuple once, a tuple no times -/
theorem mul_one (l : Addr) (items : Array Value) (n : Nat) (dd : Option Addr) (sl : Array (Option Value)) (u : Tok) :
    Meets (Builtin.«tuple.__mul__» ⟨[.ref l, .int 1 u], []⟩) (fun _ R s => s.heap.get? l = some { cls := .type "tuple", dict := dd, data := .seq items n, slots := sl } ∧ R (.ok (.ret (.ref l))) s) :=
  .of_wp fun prog w A R s h => by
    obtain ⟨h0, g0, w0, k0, o0⟩ := s
    obtain ⟨at0, h⟩ := h
    have f1 := AutoSeq1.idx_int
    wp_walk using wpAny_loadPart' at0
    exact ⟨_, rfl, h⟩
theorem mul_none (l : Addr) (items : Array Value) (n : Nat) (dd : Option Addr) (sl : Array (Option Value)) (x : Int) (u : Tok) (c0 : (decide (x < -(2 ^ 63)) || decide (x ≥ 2 ^ 63)) = false) (c1 : (items.isEmpty || x == 1) = false) (c2 : (decide (x ≤ 0) || items.isEmpty) = true) :
    Meets (Builtin.«tuple.__mul__» ⟨[.ref l, .int x u], []⟩) (fun _ R s => s.heap.get? l = some { cls := .type "tuple", dict := dd, data := .seq items n, slots := sl } ∧
      R (.ok (.ret (Value.ref s.heap.objs.size))) { s with heap := s.heap.push { cls := Value.type "tuple", data := Data.seq #[] }, toks := s.toks }) :=
  .of_wp fun prog w A R s h => by
    obtain ⟨h0, g0, w0, k0, o0⟩ := s
    obtain ⟨at0, h⟩ := h
    have f1 := AutoSeq1.idx_int
    wp_walk using wpAny_loadPart' at0
    have n0 : ¬ (decide (x < -(2 ^ 63)) || decide (x ≥ 2 ^ 63)) = true := fun z => by rw [c0] at z; cases z
    have n1 : ¬ (items.isEmpty || x == 1) = true := fun z => by rw [c1] at z; cases z
    repeat (first
      | (refine wpAny_ite_false (decide_eq_false n0) ?_; wp_walk using wpAny_loadPart' at0)
      | (refine wpAny_ite_false (decide_eq_false n1) ?_; wp_walk using wpAny_loadPart' at0)
      | (refine wpAny_ite_true (decide_eq_true c2) ?_; wp_walk using wpAny_loadPart' at0))
    exact ⟨_, rfl, h⟩
section
variable {X : Cx}
def rRep1 (K : PySem.W.Frag) : R2 := fun x y H Q => ∃ l xs, x = .ref l ∧ y = .int 1 ∧ SqT K H l xs ∧ xs ≠ [] ∧ Q (.ref l) H
def rRep0 (K : PySem.W.Frag) : R2 := fun x y H Q => ∃ l m xs, x = .ref l ∧ y = .int m ∧ SqT K H l xs ∧ xs ≠ [] ∧ -(2 ^ 63) ≤ m ∧ m ≤ 0 ∧ ∀ p, H p = none → Q (.ref p) (upd H p (.tup []))
theorem op_rep1 : OpR X (binaryOp .Mult) (rRep1 X.K) := by
  rintro pins s σ H x y v u Q I rx ry ⟨l, xs, rfl, rfl, hT, hne, q⟩
  cases rx
  obtain ⟨tok, rfl⟩ := ry
  obtain ⟨its, rr, ⟨⟨c1, d1, e1, f1⟩, at1, hc, n, hd⟩, hs⟩ := I.tuple hT
  simp only at hc hd
  subst hc hd
  have m1 := int_rmul_tuple 1 tok l its.toArray n d1 f1
  have m2 := mul_one l its.toArray n d1 f1 tok
  have isT : s.TypeIs (.ref l) "tuple" := ⟨_, at1, rfl⟩
  refine wpAny_binaryOp_repeat_ref (U := "int") (T := "tuple") (by decide) isT (fun z => typeIs_int z 1 tok) noFill_tuple_mul
    F.fills_int_mul F.slot_int_rmul repeat_tuple F.slot_int_index.lookup ?_
  refine call_meets F.slot_int_rmul (typeIs_int s 1 tok) F.entry_int_rmul (F.args_int_rmul_2 _ _) m1 ⟨at1, rfl, isT, ?_⟩
  exact call_meets F.slot_tuple_mul isT F.entry_tuple_mul (F.args_tuple_mul_2 _ _) m2 ⟨at1, .ref l, H, I, rfl, q⟩
theorem op_rep0 : OpR X (binaryOp .Mult) (rRep0 X.K) := by
  rintro pins s σ H x y v u Q I rx ry ⟨l, m, xs, rfl, rfl, hT, hne, hm1, hm0, q⟩
  cases rx
  obtain ⟨tok, rfl⟩ := ry
  obtain ⟨its, rr, ⟨⟨c1, d1, e1, f1⟩, at1, hc, n, hd⟩, hs⟩ := I.tuple hT
  simp only at hc hd
  subst hc hd
  have noE : its.toArray.isEmpty = false := by
    cases its with
    | nil => cases rr; exact absurd rfl hne
    | cons a b => rfl
  have b0 : (decide (m < -(2 ^ 63)) || decide (m ≥ 2 ^ 63)) = false := Bool.or_eq_false_iff.mpr ⟨decide_eq_false (by omega), decide_eq_false (by omega)⟩
  have b1 : (its.toArray.isEmpty || m == 1) = false := Bool.or_eq_false_iff.mpr ⟨noE, beq_eq_false_iff_ne.mpr (by omega)⟩
  have b2 : (decide (m ≤ 0) || its.toArray.isEmpty) = true := by rw [decide_eq_true hm0]; rfl
  have m1 := int_rmul_tuple m tok l its.toArray n d1 f1
  have m2 := mul_none l its.toArray n d1 f1 m tok b0 b1 b2
  have isT : s.TypeIs (.ref l) "tuple" := ⟨_, at1, rfl⟩
  refine wpAny_binaryOp_repeat_ref (U := "int") (T := "tuple") (by decide) isT (fun z => typeIs_int z m tok) noFill_tuple_mul
    F.fills_int_mul F.slot_int_rmul repeat_tuple F.slot_int_index.lookup ?_
  refine call_meets F.slot_int_rmul (typeIs_int s m tok) F.entry_int_rmul (F.args_int_rmul_2 _ _) m1 ⟨at1, rfl, isT, ?_⟩
  refine call_meets F.slot_tuple_mul isT F.entry_tuple_mul (F.args_tuple_mul_2 _ _) m2 ⟨at1, ?_⟩
  have new : H s.heap.objs.size = none := I.hok.fresh (Nat.le_refl _)
  refine ⟨.ref s.heap.objs.size, _, I.laid (t' := s.toks) (o := .tup []) (fun b ob z => Heap.get?_push_of_some _ z) (Nat.le_refl _) ?_, rfl, q _ new⟩
  exact ⟨Nat.zero_le _, [], .nil, IsTup.new _ _⟩
end
end MP
namespace MP
open PySem L2 PySem.Spec PyProof.Rows

section
variable (B : Bd)
/-- two values in, one out; a truth out -/
def rV2 (f : W → W → Option W) : R2 := fun x y H Q => ∃ a b st μ ex w, R B μ ex H a x ∧ R B μ ex H b y ∧ S B μ ex H st ∧ f a b = some w ∧ Post B μ ex H w st Q
def rB2 (f : W → W → Option Bool) : R2 := fun x y H Q => ∃ a b st μ ex k, R B μ ex H a x ∧ R B μ ex H b y ∧ S B μ ex H st ∧ f a b = some k ∧ Q (.bl k) H
end
section
variable {K : PySem.W.Frag} {B : Bd} {fa : Str → Option Addr} {μ ex : List Addr} {H : Hp} {X : Cx}
theorem RA.nil_iff {ws : List W} {xs : List V} (r : RA B μ ex H ws xs) : ws = [] ↔ xs = [] := by
  cases ws with
  | nil => rw [show xs = [] from r]; simp
  | cons w ws => obtain ⟨x, ys, rfl, _⟩ := r; simp
theorem RA.rep {ws : List W} {xs : List V} (r : RA B μ ex H ws xs) : ∀ n : Nat, RA B μ ex H (List.replicate n ws).flatten (List.replicate n xs).flatten
  | 0 => rfl
  | n + 1 => by rw [List.replicate_succ, List.replicate_succ, List.flatten_cons, List.flatten_cons]; exact r.append (RA.rep r n)
theorem op_mulS : OpR X (binaryOp .Mult) (fun x y H Q => ∃ (a : Str) (k : Int), x = .str a ∧ y = .int k ∧ (1 ≤ k ∧ k ≤ 100 ∧ a.length ≤ 100) ∧ Q (.str (Txt.mul a k)) H) := by
  intro pins s σ H x y v u Q I rx ry ⟨a, k, ex, ey, h, q⟩
  subst ex ey
  obtain ⟨t, rfl⟩ := rx
  obtain ⟨t2, rfl⟩ := ry
  refine SB.mul ⟨?_, fun _ _ => ?_, fun _ _ => ?_⟩ fun t' k' => ⟨.str _, H, I.tok _, ⟨_, rfl⟩, q⟩
  · have h1 := h.1
    have h2 := h.2.1
    rw [Bool.or_eq_false_iff]
    exact ⟨decide_eq_false (by omega), decide_eq_false (by omega)⟩
  · have h1 := h.1
    have h2 := h.2.1
    have h3 := h.2.2
    have : (100 : Int) ≤ (2 ^ 63 - 1) / k := by
      refine (Int.le_ediv_iff_mul_le (by omega)).mpr ?_
      omega
    omega
  · have h1 := h.1
    have h2 := h.2.1
    have h3 := h.2.2
    have : a.length * k.toNat ≤ 100 * 100 := Nat.mul_le_mul h3 (by omega)
    refine decide_eq_false ?_
    rw [sizeLine_eq]
    omega
theorem op_binW (op : Operator) : OpR X (binaryOp op) (rV2 (bd fa X) (binW op)) := by
  intro pins s σ H x y v u Q I rx ry ⟨a, b, st, μ, ex, w, ra, rb, hs, e, q⟩
  unfold binW at e
  split at e
  · cases e; subst ra rb
    exact op_add pins s σ H _ _ v u Q I rx ry ⟨_, _, rfl, rfl, q.now hs rfl⟩
  · split at e
    · next h => cases e; subst ra rb; exact op_add_str pins s σ H _ _ v u Q I rx ry ⟨_, _, rfl, rfl, h, q.now hs rfl⟩
    · cases e
  · split at e
    · next h =>
      cases e
      obtain ⟨a1, xs, rfl, f1, r1⟩ := ra
      obtain ⟨a2, ys, rfl, f2, r2⟩ := rb
      refine op_catA pins s σ H _ _ v u Q I rx ry ⟨a1, a2, xs, ys, rfl, rfl, f1.sq, f2.sq, by rw [← r1.length, ← r2.length]; exact h, fun z => ?_, fun _ z => ?_, fun _ _ => ?_⟩
      · rw [r1.nil_iff.mpr z] at q
        exact q.now hs ⟨a2, ys, rfl, f2, r2⟩
      · rw [r2.nil_iff.mpr z, List.append_nil] at q
        exact q.now hs ⟨a1, xs, rfl, f1, r1⟩
      · exact Post.tup hs (r1.append r2) q
    · cases e
  · split at e
    · next h =>
      cases e
      obtain ⟨a1, xs, rfl, f1, r1⟩ := ra
      obtain ⟨a2, ys, rfl, f2, r2⟩ := rb
      exact op_cat pins s σ H _ _ v u Q I rx ry ⟨a1, a2, xs, ys, rfl, rfl, f1.1, f2.1, by rw [← r1.length, ← r2.length]; exact h, Post.lst hs (r1.append r2) q⟩
    · cases e
  · cases e; subst ra rb
    exact op_sub pins s σ H _ _ v u Q I rx ry ⟨_, _, rfl, rfl, q.now hs rfl⟩
  · split at e
    · next h => cases e; subst ra rb; exact op_mul pins s σ H _ _ v u Q I rx ry ⟨_, _, rfl, rfl, h, q.now hs rfl⟩
    · cases e
  · split at e
    · next h =>
      cases e; subst rb
      obtain ⟨a1, xs, rfl, f1, r1⟩ := ra
      exact op_rep pins s σ H _ _ v u Q I rx ry ⟨a1, _, xs, rfl, rfl, f1.1, h.1, h.2.1, by rw [← r1.length]; exact h.2.2, Post.lst hs (r1.rep _) q⟩
    · cases e
  · split at e
    · next h =>
      cases e; subst rb
      obtain ⟨a1, xs, rfl, f1, r1⟩ := ra
      have hl := r1.length
      have hne : xs ≠ [] := fun z => by
        have := h.2.2.2
        rw [r1.nil_iff.mpr z] at this
        cases this
      rename_i kk
      by_cases h1 : kk ≤ 0
      · refine op_rep0 pins s σ H _ _ v u Q I rx ry ⟨a1, _, xs, rfl, rfl, f1.sq, hne, h.1, h1, fun p n => ?_⟩
        have : kk.toNat = 0 := by omega
        rw [this] at q
        exact Post.tup hs (show RA _ _ _ _ [] [] from rfl) q p n
      · by_cases h2 : kk = 1
        · subst h2
          refine op_rep1 pins s σ H _ _ v u Q I rx ry ⟨a1, xs, rfl, rfl, f1.sq, hne, ?_⟩
          have one : ∀ l : List W, (List.replicate (1 : Int).toNat l).flatten = l := fun l => by simp
          rw [one] at q
          exact q.now hs ⟨a1, xs, rfl, f1, r1⟩
        · exact op_repT pins s σ H _ _ v u Q I rx ry ⟨a1, _, xs, rfl, rfl, f1.sq, hne, by omega, h.2.1, by rw [← hl]; exact h.2.2.1, Post.tup hs (r1.rep _) q⟩
    · cases e
  · split at e
    · next h =>
      cases e; subst ra rb
      exact op_mulS pins s σ H _ _ v u Q I rx ry ⟨_, _, rfl, rfl, h, q.now hs rfl⟩
    · cases e
  · split at e
    · next h => cases e; subst ra rb; exact op_fdivN pins s σ H _ _ v u Q I rx ry ⟨_, _, rfl, rfl, h, q.now hs rfl⟩
    · cases e
  · split at e
    · next h => cases e; subst ra rb; exact op_modN pins s σ H _ _ v u Q I rx ry ⟨_, _, rfl, rfl, h, q.now hs rfl⟩
    · cases e
  · split at e
    · next h => cases e; subst ra rb; exact op_pow pins s σ H _ _ v u Q I rx ry ⟨_, _, rfl, rfl, h, q.now hs rfl⟩
    · cases e
  · cases e

mutual
theorem toPy_ok : ∀ (w : W) (d : PyData) (v : V), toPy w = some d → R B μ ex H w v → Dp B.K H v d
  | .non, d, v, e, r => by cases e; subst r; exact .non
  | .bl b, d, v, e, r => by cases e; subst r; exact .bl b
  | .int i, d, v, e, r => by cases e; subst r; exact .int i
  | .str x, d, v, e, r => by cases e; subst r; exact .str x
  | .tup l, d, v, e, r => by
    unfold toPy at e
    obtain ⟨ds, e1, rfl⟩ := Option.map_eq_some_iff.mp e
    obtain ⟨a, xs, rfl, f, r1⟩ := r
    exact .tup f.sq (toPyA_ok l ds xs e1 r1)
  | .lst l, d, v, e, r => by
    unfold toPy at e
    obtain ⟨ds, e1, rfl⟩ := Option.map_eq_some_iff.mp e
    obtain ⟨a, xs, rfl, f, r1⟩ := r
    exact .lst f.sq (toPyA_ok l ds xs e1 r1)
  | .rl l, d, v, e, r => by
    unfold toPy at e
    obtain ⟨ds, e1, rfl⟩ := Option.map_eq_some_iff.mp e
    obtain ⟨a, xs, rfl, ⟨f, _⟩, r1⟩ := r
    exact .lst f.sq (toPyA_ok l ds xs e1 r1)
  | .dk _ _, _, _, e, _ => by cases e
  | .dt _ _, _, _, e, _ => by cases e
  | .obj _, _, _, e, _ => by cases e
  | .fn _, _, _, e, _ => by cases e
  | .ty _, _, _, e, _ => by cases e
  | .kd _ _, _, _, e, _ => by cases e
theorem toPyA_ok : ∀ (ws : List W) (ds : List PyData) (vs : List V), toPyA ws = some ds → RA B μ ex H ws vs → DpAll B.K H vs ds
  | [], ds, vs, e, r => by cases e; rw [show vs = [] from r]; exact .nil
  | w :: ws, ds, vs, e, r => by
    unfold toPyA at e
    obtain ⟨d, e1, e2⟩ := Option.bind_eq_some_iff.mp e
    obtain ⟨ds', e3, e4⟩ := Option.bind_eq_some_iff.mp e2
    cases e4
    obtain ⟨x, xs, rfl, r1, r2⟩ := r
    exact .cons (toPy_ok w d x e1 r1) (toPyA_ok ws ds' xs e3 r2)
end
theorem dV_str (a b : Str) : decide (V.str a = V.str b) = decide (a = b) := decide_eq_decide.mpr (by simp)
theorem dV_int (a b : Int) : decide (V.int a = V.int b) = decide (a = b) := decide_eq_decide.mpr (by simp)
theorem dV_bl (a b : Bool) : decide (V.bl a = V.bl b) = decide (a = b) := decide_eq_decide.mpr (by simp)
theorem eqW_op (hu : X.A.units + 64 < cLine) : OpR X (compareOp .Eq) (rB2 (bd fa X) eqW) := by
  intro pins s σ H x y v u Q I rx ry ⟨a, b, st, μ, ex, k, ra, rb, hs, e, q⟩
  unfold eqW at e
  split at e
  · cases e; subst ra rb
    exact op_eq pins s σ H _ _ v u Q I rx ry ⟨rfl, by rw [dV_str]; exact q⟩
  · cases e; subst ra rb
    exact op_eq pins s σ H _ _ v u Q I rx ry ⟨rfl, by rw [dV_int]; exact q⟩
  · cases e; subst ra rb
    exact op_eq pins s σ H _ _ v u Q I rx ry ⟨rfl, by rw [dV_bl]; exact q⟩
  · obtain ⟨d, e1, e2⟩ := Option.bind_eq_some_iff.mp e
    obtain ⟨d', e3, e4⟩ := Option.bind_eq_some_iff.mp e2
    split at e4
    · next h => cases e4; exact op_eqD hu pins s σ H _ _ v u Q I rx ry ⟨d, d', toPy_ok _ _ _ e1 ra, toPy_ok _ _ _ e3 rb, h.1, h.2, q⟩
    · cases e4
theorem neW_op (hu : X.A.units + 64 < cLine) : OpR X (compareOp .NotEq) (rB2 (bd fa X) fun a b => (eqW a b).map fun k => !k) := by
  intro pins s σ H x y v u Q I rx ry ⟨a, b, st, μ, ex, k, ra, rb, hs, e0, q⟩
  obtain ⟨k', e, rfl⟩ := Option.map_eq_some_iff.mp e0
  clear e0
  unfold eqW at e
  split at e
  · cases e; subst ra rb
    exact op_ne pins s σ H _ _ v u Q I rx ry ⟨rfl, by rw [dV_str]; exact q⟩
  · cases e; subst ra rb
    exact op_ne pins s σ H _ _ v u Q I rx ry ⟨rfl, by rw [dV_int]; exact q⟩
  · cases e; subst ra rb
    exact op_ne pins s σ H _ _ v u Q I rx ry ⟨rfl, by rw [dV_bl]; exact q⟩
  · obtain ⟨d, e1, e2⟩ := Option.bind_eq_some_iff.mp e
    obtain ⟨d', e3, e4⟩ := Option.bind_eq_some_iff.mp e2
    split at e4
    · next h => cases e4; exact op_neD hu pins s σ H _ _ v u Q I rx ry ⟨d, d', toPy_ok _ _ _ e1 ra, toPy_ok _ _ _ e3 rb, h.1, h.2, q⟩
    · cases e4
theorem flatW_ok {w : W} {v : V} (r : R B μ ex H w v) (f : flatW w = true) : flatV v = true := by
  cases w <;> first | (cases f; done) | (subst r; rfl)
theorem eqF_ok {a b : W} {x y : V} (ra : R B μ ex H a x) (rb : R B μ ex H b y) (fa' : flatW a = true) (fb : flatW b = true) : eqF a b = eqV x y := by
  cases a <;> first | (cases fa'; done) | skip
  all_goals (cases b <;> first | (cases fb; done) | (subst ra rb; rfl))
theorem inSeq_ok {a : W} {x : V} (ra : R B μ ex H a x) (fa' : flatW a = true) : ∀ {l : List W} {xs : List V}, RA B μ ex H l xs → l.all flatW = true → xs.all flatV = true ∧ (l.any fun y => eqF y a) = inV x xs
  | [], xs, r, _ => by rw [show xs = [] from r]; exact ⟨rfl, rfl⟩
  | w :: ws, _, ⟨y, ys, rfl, r1, r2⟩, f => by
    rw [List.all_cons, Bool.and_eq_true] at f
    obtain ⟨h1, h2⟩ := inSeq_ok ra fa' r2 f.2
    refine ⟨by rw [List.all_cons, h1, flatW_ok r1 f.1]; rfl, ?_⟩
    rw [List.any_cons, h2, eqF_ok r1 ra f.1 fa']
    rfl
theorem keyOf_ok {w : W} {v : V} {k : Key} (r : R B μ ex H w v) (e : keyOf w = some k) : v = kV k := by
  cases w <;> first | (cases e; done) | (cases e; subst r; rfl)
theorem keysOf_ok : ∀ {ws : List W} {vs : List V} {ks : List Key}, RA B μ ex H ws vs → keysOf ws = some ks → vs = ks.map kV
  | [], vs, ks, r, e => by cases e; exact r
  | w :: ws, _, ks, ⟨x, xs, rfl, r1, r2⟩, e => by
    unfold keysOf at e
    obtain ⟨k, e1, e2⟩ := Option.bind_eq_some_iff.mp e
    obtain ⟨ks', e3, e4⟩ := Option.bind_eq_some_iff.mp e2
    cases e4
    rw [keyOf_ok r1 e1, keysOf_ok r2 e3]
    rfl
theorem any_keys {κ : Type} [DecidableEq κ] (kvs : List (κ × V)) (k : κ) : ((kvs.map (·.1)).any fun j => decide (j = k)) = (valV kvs k).isSome := by
  rw [← valV_any, List.any_map]
  rfl
/-! written dicts -/
theorem DL.lit {P : Params} : ∀ {ks : List Str} {xs : List V} {es : List DictEntry}, DL P ks xs es → PySem.W.KeysLit P es
  | [], _, _, ⟨_, e⟩ => by rw [e]; exact True.intro
  | k :: ks, _, _, ⟨x, xr, e, er, _, e2, ⟨t, h1⟩, h2, _, h4⟩ => by rw [e2]; exact ⟨⟨k, t, h1, h2⟩, h4.lit⟩
theorem DL.noref {P : Params} : ∀ {ks : List Str} {xs : List V} {es : List DictEntry}, DL P ks xs es → es.any (·.refKey) = false
  | [], _, _, ⟨_, e⟩ => by rw [e]; rfl
  | k :: ks, _, _, ⟨x, xr, e, er, _, e2, ⟨t, h1⟩, h2, _, h4⟩ => by
    rw [e2, List.any_cons, h4.noref]
    unfold DictEntry.refKey
    rw [h1]
    rfl
theorem DL.find {P : Params} (z : Str) : ∀ {ks : List Str} {xs : List V} {es : List DictEntry}, DL P ks xs es →
    (∃ en y, es.find? (fun e => e.key.isStr z) = some en ∧ RelV y en.val ∧ (ks.any fun j => decide (j = z)) = true ∧ ∀ (ws : List W) (w : W), RA B μ ex H ws xs → getK ks ws z = some w → R B μ ex H w y) ∨
    (es.find? (fun e => e.key.isStr z) = none ∧ (ks.any fun j => decide (j = z)) = false)
  | [], _, _, ⟨_, e⟩ => .inr ⟨by rw [e]; rfl, rfl⟩
  | k :: ks, _, _, ⟨x, xr, e, er, e1, e2, ⟨t, h1⟩, h2, h3, h4⟩ => by
    have hk : e.key.isStr z = decide (k = z) := by
      rw [h1]
      show (k == z) = _
      rw [Bool.eq_iff_iff]
      simp
    subst e1 e2
    rw [List.find?_cons, List.any_cons, hk]
    by_cases hz : k = z
    · rw [decide_eq_true hz]
      refine .inl ⟨e, x, rfl, h3, rfl, fun ws w rw' g => ?_⟩
      cases ws with
      | nil => cases (show _ = [] from rw')
      | cons u us =>
        obtain ⟨y, ys, e3, r1, r2⟩ := rw'
        cases e3
        unfold getK at g
        rw [if_pos hz] at g
        cases g
        exact r1
    · rw [decide_eq_false hz]
      rcases h4.find z with ⟨en, y, f1, f2, f3, f4⟩ | ⟨f1, f2⟩
      · refine .inl ⟨en, y, f1, f2, f3, fun ws w rw' g => ?_⟩
        cases ws with
        | nil => cases (show _ = [] from rw')
        | cons u us =>
          obtain ⟨y', ys, e3, r1, r2⟩ := rw'
          cases e3
          unfold getK at g
          rw [if_neg hz] at g
          exact f4 us w r2 g
      · exact .inr ⟨f1, f2⟩
theorem WrD.at_ {P : Params} {a : Addr} {ks : List Str} {xs : List V} (h : WrD K P a ks xs) (z : Str) :
    ∃ es n, (K.lookup a = some ⟨.type "dict", none, .dict es n, #[]⟩ ∧ PySem.W.KeysLit P es.toList ∧ (a == sysModules) = false) ∧
      ((∃ u y, PySem.W.nsIn K a z = some (some u) ∧ RelV y u ∧ (ks.any fun j => decide (j = z)) = true ∧ ∀ (ws : List W) (w : W), RA B μ ex H ws xs → getK ks ws z = some w → R B μ ex H w y) ∨
        (PySem.W.nsIn K a z = some none ∧ (ks.any fun j => decide (j = z)) = false)) := by
  obtain ⟨es, n, h1, h2, h3, h4, h5⟩ := h
  refine ⟨es, n, ⟨h1, h2.lit, h4⟩, ?_⟩
  have e : PySem.W.nsIn K a z = (match es.toList.find? (fun e => e.key.isStr z) with
      | some e => some (some e.val)
      | none => if es.toList.any (·.refKey) then none else some none) := by
    unfold PySem.W.nsIn
    rw [h1]
    rfl
  rcases h2.find (B := B) (μ := μ) (ex := ex) (H := H) z with ⟨en, y, f1, f2, f3, f4⟩ | ⟨f1, f2⟩
  · exact .inl ⟨en.val, y, by rw [e, f1], f2, f3, f4⟩
  · exact .inr ⟨by rw [e, f1, h2.noref]; rfl, f2⟩
theorem op_inT (hu : X.A.units + 65 < cLine) : OpR X (compareOp .In) (fun x y H Q => ∃ d ds, Dp X.K H x d ∧ Dp X.K H y (.tuple ds) ∧ SeqAt.shaped d = true ∧ SeqAt.shaped (.list ds) = true ∧ Q (.bl (ds.any fun z => PyData.eqv z d)) H) := by
  intro pins s σ H x y v u Q I rx ry h
  obtain ⟨d, ds, hd, he, sd, se, q⟩ := h
  obtain ⟨as, r1⟩ := Dp.reads I d x v hd rx
  obtain ⟨bs, r2⟩ := Dp.reads I (.tuple ds) y u he ry
  exact SeqAt.in_tuple_reads r2 r1 (SeqAt.canLay_of_shaped se) (SeqAt.canLay_of_shaped sd) (room_in_shaped sd hu) ⟨.bl _, H, I, rfl, q⟩
theorem op_notInT (hu : X.A.units + 65 < cLine) : OpR X (compareOp .NotIn) (fun x y H Q => ∃ d ds, Dp X.K H x d ∧ Dp X.K H y (.tuple ds) ∧ SeqAt.shaped d = true ∧ SeqAt.shaped (.list ds) = true ∧ Q (.bl (!ds.any fun z => PyData.eqv z d)) H) := by
  intro pins s σ H x y v u Q I rx ry h
  obtain ⟨d, ds, hd, he, sd, se, q⟩ := h
  obtain ⟨as, r1⟩ := Dp.reads I d x v hd rx
  obtain ⟨bs, r2⟩ := Dp.reads I (.tuple ds) y u he ry
  exact SeqAt.notIn_tuple_reads r2 r1 (SeqAt.canLay_of_shaped se) (SeqAt.canLay_of_shaped sd) (room_in_shaped sd hu) ⟨.bl _, H, I, rfl, q⟩
theorem inDeep {a : W} {l : List W} {k : Bool} (e : ((toPy a).bind fun d => (toPyA l).bind fun ds => if SeqAt.shaped d = true ∧ SeqAt.shaped (.list ds) = true then some (ds.any fun z => PyData.eqv z d) else none) = some k) :
    ∃ d ds, toPy a = some d ∧ toPyA l = some ds ∧ SeqAt.shaped d = true ∧ SeqAt.shaped (.list ds) = true ∧ k = (ds.any fun z => PyData.eqv z d) := by
  obtain ⟨d, e1, e2⟩ := Option.bind_eq_some_iff.mp e
  obtain ⟨ds, e3, e4⟩ := Option.bind_eq_some_iff.mp e2
  split at e4
  · next h => cases e4; exact ⟨d, ds, e1, e3, h.1, h.2, rfl⟩
  · cases e4
theorem inW_op (hu : X.A.units + 65 < cLine) : OpR X (compareOp .In) (rB2 (bd fa X) inW) := by
  intro pins s σ H x y v u Q I rx ry ⟨a, b, st, μ, ex, k, ra, rb, hs, e, q⟩
  unfold inW at e
  split at e
  · unfold inSeq at e
    split at e
    · next h =>
      cases e
      obtain ⟨a1, xs, rfl, f1, r1⟩ := rb
      obtain ⟨h1, h2⟩ := inSeq_ok ra h.1 r1 h.2
      exact op_in_seq pins s σ H _ _ v u Q I rx ry ⟨a1, xs, rfl, .inr f1.sq, flatW_ok ra h.1, h1, by rw [if_neg (by decide), ← h2]; exact q⟩
    · obtain ⟨d, ds, e1, e2, e3, e4, rfl⟩ := inDeep e
      obtain ⟨a1, xs, rfl, f1, r1⟩ := rb
      exact op_inT hu pins s σ H _ _ v u Q I rx ry ⟨d, ds, toPy_ok _ _ _ e1 ra, .tup f1.sq (toPyA_ok _ _ _ e2 r1), e3, e4, q⟩
  · unfold inSeq at e
    split at e
    · next h =>
      cases e
      obtain ⟨a1, xs, rfl, f1, r1⟩ := rb
      obtain ⟨h1, h2⟩ := inSeq_ok ra h.1 r1 h.2
      exact op_in_seq pins s σ H _ _ v u Q I rx ry ⟨a1, xs, rfl, .inl f1.sq, flatW_ok ra h.1, h1, by rw [if_neg (by decide), ← h2]; exact q⟩
    · obtain ⟨d, ds, e1, e2, e3, e4, rfl⟩ := inDeep e
      obtain ⟨a1, xs, rfl, f1, r1⟩ := rb
      exact op_inD hu pins s σ H _ _ v u Q I rx ry ⟨d, ds, toPy_ok _ _ _ e1 ra, .lst f1.sq (toPyA_ok _ _ _ e2 r1), e3, e4, q⟩
  · unfold inSeq at e
    split at e
    · next h =>
      cases e
      obtain ⟨a1, xs, rfl, f1, r1⟩ := rb
      obtain ⟨h1, h2⟩ := inSeq_ok ra h.1 r1 h.2
      exact op_in_seq pins s σ H _ _ v u Q I rx ry ⟨a1, xs, rfl, .inl f1.1.sq, flatW_ok ra h.1, h1, by rw [if_neg (by decide), ← h2]; exact q⟩
    · obtain ⟨d, ds, e1, e2, e3, e4, rfl⟩ := inDeep e
      obtain ⟨a1, xs, rfl, f1, r1⟩ := rb
      exact op_inD hu pins s σ H _ _ v u Q I rx ry ⟨d, ds, toPy_ok _ _ _ e1 ra, .lst f1.1.sq (toPyA_ok _ _ _ e2 r1), e3, e4, q⟩
  · obtain ⟨k', e1, rfl⟩ := Option.map_eq_some_iff.mp e
    obtain ⟨a1, kvs, rfl, f1, rfl, r1⟩ := rb
    have ek := keyOf_ok ra e1
    subst ek
    cases ry
    rw [any_keys] at q
    exact d_in (by omega) I (DGet.k f1.1) rx fun s' I' => ⟨.bl _, H, I', rfl, q⟩
  · split at e
    · next z =>
      cases e
      obtain ⟨a1, xs, rfl, f1, r1⟩ := rb
      subst ra
      obtain ⟨es, n, ⟨h1, h2, h3⟩, ⟨u', y', g1, g2, g3, g4⟩ | ⟨g1, g3⟩⟩ := f1.at_ (B := bd fa X) (μ := μ) (ex := ex) (H := H) z
      · exact op_in_kd ⟨h1, h2, h3⟩ pins s σ H _ _ v u Q I rx ry ⟨z, _, rfl, rfl, g1, by rw [g3] at q; exact q⟩
      · exact op_in_kd ⟨h1, h2, h3⟩ pins s σ H _ _ v u Q I rx ry ⟨z, _, rfl, rfl, g1, by rw [g3] at q; exact q⟩
    · cases e
  · split at e
    · cases e; subst ra rb
      exact op_in_str pins s σ H _ _ v u Q I rx ry ⟨_, _, rfl, rfl, q⟩
    · cases e
  · cases e
theorem notInW_op (hu : X.A.units + 65 < cLine) : OpR X (compareOp .NotIn) (rB2 (bd fa X) fun a b => (inW a b).map fun k => !k) := by
  intro pins s σ H x y v u Q I rx ry ⟨a, b, st, μ, ex, k, ra, rb, hs, e0, q⟩
  obtain ⟨k', e, rfl⟩ := Option.map_eq_some_iff.mp e0
  clear e0
  unfold inW at e
  split at e
  · unfold inSeq at e
    split at e
    · next h =>
      cases e
      obtain ⟨a1, xs, rfl, f1, r1⟩ := rb
      obtain ⟨h1, h2⟩ := inSeq_ok ra h.1 r1 h.2
      exact op_notIn_seq pins s σ H _ _ v u Q I rx ry ⟨a1, xs, rfl, .inr f1.sq, flatW_ok ra h.1, h1, by rw [if_pos rfl, ← h2]; exact q⟩
    · obtain ⟨d, ds, e1, e2, e3, e4, rfl⟩ := inDeep e
      obtain ⟨a1, xs, rfl, f1, r1⟩ := rb
      exact op_notInT hu pins s σ H _ _ v u Q I rx ry ⟨d, ds, toPy_ok _ _ _ e1 ra, .tup f1.sq (toPyA_ok _ _ _ e2 r1), e3, e4, q⟩
  · unfold inSeq at e
    split at e
    · next h =>
      cases e
      obtain ⟨a1, xs, rfl, f1, r1⟩ := rb
      obtain ⟨h1, h2⟩ := inSeq_ok ra h.1 r1 h.2
      exact op_notIn_seq pins s σ H _ _ v u Q I rx ry ⟨a1, xs, rfl, .inl f1.sq, flatW_ok ra h.1, h1, by rw [if_pos rfl, ← h2]; exact q⟩
    · obtain ⟨d, ds, e1, e2, e3, e4, rfl⟩ := inDeep e
      obtain ⟨a1, xs, rfl, f1, r1⟩ := rb
      exact op_notInD hu pins s σ H _ _ v u Q I rx ry ⟨d, ds, toPy_ok _ _ _ e1 ra, .lst f1.sq (toPyA_ok _ _ _ e2 r1), e3, e4, q⟩
  · unfold inSeq at e
    split at e
    · next h =>
      cases e
      obtain ⟨a1, xs, rfl, f1, r1⟩ := rb
      obtain ⟨h1, h2⟩ := inSeq_ok ra h.1 r1 h.2
      exact op_notIn_seq pins s σ H _ _ v u Q I rx ry ⟨a1, xs, rfl, .inl f1.1.sq, flatW_ok ra h.1, h1, by rw [if_pos rfl, ← h2]; exact q⟩
    · obtain ⟨d, ds, e1, e2, e3, e4, rfl⟩ := inDeep e
      obtain ⟨a1, xs, rfl, f1, r1⟩ := rb
      exact op_notInD hu pins s σ H _ _ v u Q I rx ry ⟨d, ds, toPy_ok _ _ _ e1 ra, .lst f1.1.sq (toPyA_ok _ _ _ e2 r1), e3, e4, q⟩
  · obtain ⟨k2, e1, rfl⟩ := Option.map_eq_some_iff.mp e
    obtain ⟨a1, kvs, rfl, f1, rfl, r1⟩ := rb
    have ek := keyOf_ok ra e1
    subst ek
    cases ry
    rw [any_keys] at q
    exact d_notIn (by omega) I (DGet.k f1.1) rx fun s' I' => ⟨.bl _, H, I', rfl, q⟩
  · split at e
    · next z =>
      cases e
      obtain ⟨a1, xs, rfl, f1, r1⟩ := rb
      subst ra
      obtain ⟨es, n, ⟨h1, h2, h3⟩, ⟨u', y', g1, g2, g3, g4⟩ | ⟨g1, g3⟩⟩ := f1.at_ (B := bd fa X) (μ := μ) (ex := ex) (H := H) z
      · exact op_notIn_kd ⟨h1, h2, h3⟩ pins s σ H _ _ v u Q I rx ry ⟨z, _, rfl, rfl, g1, by rw [g3] at q; exact q⟩
      · exact op_notIn_kd ⟨h1, h2, h3⟩ pins s σ H _ _ v u Q I rx ry ⟨z, _, rfl, rfl, g1, by rw [g3] at q; exact q⟩
    · cases e
  · split at e
    · cases e; subst ra rb
      exact op_notIn_str pins s σ H _ _ v u Q I rx ry ⟨_, _, rfl, rfl, q⟩
    · cases e
  · cases e
theorem isNon_ok {w : W} {v : V} (r : R B μ ex H w v) : isNon w = decide (v = .non) := by
  cases w with
  | non => subst r; rfl
  | bl b => subst r; rfl
  | int i => subst r; rfl
  | str x => subst r; rfl
  | ty n => subst r; rfl
  | tup l => obtain ⟨a, xs, rfl, _⟩ := r; rfl
  | lst l => obtain ⟨a, xs, rfl, _⟩ := r; rfl
  | rl l => obtain ⟨a, xs, rfl, _⟩ := r; rfl
  | dk ks l => obtain ⟨a, xs, rfl, _⟩ := r; rfl
  | dt ks l => obtain ⟨a, xs, rfl, _⟩ := r; rfl
  | obj n => obtain ⟨a, rfl, _⟩ := r; rfl
  | fn f => obtain ⟨a, rfl, _⟩ := r; rfl
  | kd ks l => obtain ⟨a, xs, rfl, _⟩ := r; rfl
theorem isW_op {a b : W} {x y : V} {v u : Value} {k : Bool} {pins : List (Addr × Obj)} {s : Shared} {σ : L2.St} {Q : VK} (ra : R B μ ex H a x) (rb : R B μ ex H b y) (rx : RelV x v) (ry : RelV y u) (e : isW a b = some k) (I : Inv X pins σ H s) (q : Q (.bl k) H) :
    wpAny (model X.prog X.w) X.A (compareOp .Is v u) (EP X pins σ Q) X.xe s := by
  cases b <;> first | (cases e; done) | skip
  · cases e
    exact op_isN pins s σ H _ _ v u Q I rx ry ⟨rb, by rw [← isNon_ok ra]; exact q⟩
  · next c =>
    cases a <;> first | (cases e; done) | skip
    next d =>
    cases e
    subst ra rb
    cases rx
    cases ry
    exact wpAny_is_plain rfl ⟨.bl (d == c), H, I, by cases d <;> cases c <;> rfl, q⟩
theorem isNotW_op {a b : W} {x y : V} {v u : Value} {k : Bool} {pins : List (Addr × Obj)} {s : Shared} {σ : L2.St} {Q : VK} (ra : R B μ ex H a x) (rb : R B μ ex H b y) (rx : RelV x v) (ry : RelV y u) (e : isW a b = some k) (I : Inv X pins σ H s) (q : Q (.bl (!k)) H) :
    wpAny (model X.prog X.w) X.A (compareOp .IsNot v u) (EP X pins σ Q) X.xe s := by
  cases b <;> first | (cases e; done) | skip
  · cases e
    exact op_notN pins s σ H _ _ v u Q I rx ry ⟨rb, by rw [← isNon_ok ra]; exact q⟩
  · next c =>
    cases a <;> first | (cases e; done) | skip
    next d =>
    cases e
    subst ra rb
    cases rx
    cases ry
    refine (show wpAny _ _ (compareOp .IsNot (.bool d) (.bool c)) _ _ _ from ?_)
    unfold compareOp
    refine wpAny_bind (wpAny_of_eq (a := d == c) ?_ (wpAny_pure ⟨.bl (!(d == c)), H, I, rfl, q⟩))
    cases d <;> cases c <;> rfl
theorem cmp_ok (hu : X.A.units + 65 < cLine) (op : CmpOp) : OpR X (compareOp op) (rB2 (bd fa X) (cmpW op)) := by
  cases op with
  | Eq => exact eqW_op (by omega)
  | NotEq => exact neW_op (by omega)
  | In => exact inW_op hu
  | NotIn => exact notInW_op hu
  | Lt =>
    intro pins s σ H x y v u Q I rx ry ⟨a, b, st, μ, ex, k, ra, rb, hs, e, q⟩
    unfold cmpW at e; dsimp only at e; split at e
    · cases e; subst ra rb; exact op_lt pins s σ H _ _ v u Q I rx ry ⟨_, _, rfl, rfl, q⟩
    · cases e
  | LtE =>
    intro pins s σ H x y v u Q I rx ry ⟨a, b, st, μ, ex, k, ra, rb, hs, e, q⟩
    unfold cmpW at e; dsimp only at e; split at e
    · cases e; subst ra rb; exact op_le pins s σ H _ _ v u Q I rx ry ⟨_, _, rfl, rfl, q⟩
    · cases e
  | Gt =>
    intro pins s σ H x y v u Q I rx ry ⟨a, b, st, μ, ex, k, ra, rb, hs, e, q⟩
    unfold cmpW at e; dsimp only at e; split at e
    · cases e; subst ra rb; exact op_gt pins s σ H _ _ v u Q I rx ry ⟨_, _, rfl, rfl, q⟩
    · cases e
  | GtE =>
    intro pins s σ H x y v u Q I rx ry ⟨a, b, st, μ, ex, k, ra, rb, hs, e, q⟩
    unfold cmpW at e; dsimp only at e; split at e
    · cases e; subst ra rb; exact op_ge pins s σ H _ _ v u Q I rx ry ⟨_, _, rfl, rfl, q⟩
    · cases e
  | Is =>
    intro pins s σ H x y v u Q I rx ry ⟨a, b, st, μ, ex, k, ra, rb, hs, e, q⟩
    exact isW_op ra rb rx ry e I q
  | IsNot =>
    intro pins s σ H x y v u Q I rx ry ⟨a, b, st, μ, ex, k, ra, rb, hs, e, q⟩
    obtain ⟨k', e', rfl⟩ := Option.map_eq_some_iff.mp e
    exact isNotW_op ra rb rx ry e' I q
theorem truthW_ok {st : Sto} {w : W} {v : V} {k : Bool} (r : R B μ ex H w v) (e : truthW st w = some k) : TruV B.K v H k := by
  cases w with
  | non => cases e; subst r; rfl
  | bl b => cases e; subst r; rfl
  | int i => cases e; subst r; rfl
  | str x =>
    unfold truthW at e
    dsimp only at e
    split at e
    · next h => cases e; subst r; exact ⟨h, rfl⟩
    · cases e
  | tup l =>
    cases e
    obtain ⟨a, xs, rfl, f, r1⟩ := r
    exact .inr (.inl ⟨xs, f.sq, by cases l <;> first | (rw [show xs = [] from r1]; rfl) | (obtain ⟨_, _, rfl, _⟩ := r1; rfl)⟩)
  | lst l =>
    cases e
    obtain ⟨a, xs, rfl, f, r1⟩ := r
    exact .inl ⟨xs, f.sq, by cases l <;> first | (rw [show xs = [] from r1]; rfl) | (obtain ⟨_, _, rfl, _⟩ := r1; rfl)⟩
  | rl l =>
    cases e
    obtain ⟨a, xs, rfl, ⟨f, _⟩, r1⟩ := r
    exact .inl ⟨xs, f.sq, by cases l <;> first | (rw [show xs = [] from r1]; rfl) | (obtain ⟨_, _, rfl, _⟩ := r1; rfl)⟩
  | ty n => cases e
  | dk ks l => cases e
  | dt ks l => cases e
  | obj n => cases e
  | fn f => cases e
  | kd ks l => cases e
end
end MP
namespace MP
open PySem L2 PySem.Spec PyProof.Rows

/-! what stands still stands beside fewer things that may change -/
section
variable {B : Bd} {μ ex : List Addr} {H : Hp}
theorem not_take {a : Addr} {n : Nat} (h : a ∉ μ) : a ∉ μ.take n := fun z => h (List.mem_of_mem_take z)
theorem FrT.take {K : PySem.W.Frag} {a : Addr} {xs : List V} {n : Nat} (f : FrT K μ ex H a xs) : FrT K (μ.take n) ex H a xs := by
  rcases f with ⟨f, h, hx⟩ | f
  · exact .inl ⟨f, not_take h, hx⟩
  · exact .inr f
mutual
theorem R.take {n : Nat} : ∀ (w : W) (v : V), still w = true → R B μ ex H w v → R B (μ.take n) ex H w v
  | .non, _, _, h => h
  | .bl _, _, _, h => h
  | .int _, _, _, h => h
  | .str _, _, _, h => h
  | .tup l, _, hs, ⟨a, xs, e1, f, r⟩ => ⟨a, xs, e1, f.take, RA.takeM l xs hs r⟩
  | .lst l, _, hs, ⟨a, xs, e1, ⟨f, h, hx⟩, r⟩ => ⟨a, xs, e1, ⟨f, not_take h, hx⟩, RA.takeM l xs hs r⟩
  | .rl l, _, _, ⟨a, xs, e1, ⟨f, hs⟩, r⟩ => by
    refine ⟨a, xs, e1, ⟨?_, hs⟩, RA.takeM l xs hs r⟩
    rcases f with ⟨f, h, hx⟩ | f
    · exact .inl ⟨f, not_take h, hx⟩
    · exact .inr f
  | .dk ks vs, _, hs, ⟨a, kvs, e1, ⟨f, h, hx⟩, ek, r⟩ => ⟨a, kvs, e1, ⟨f, not_take h, hx⟩, ek, RA.takeM vs _ hs r⟩
  | .dt ks vs, _, hs, ⟨a, kvs, e1, ⟨f, h, hx⟩, kt, ek, r⟩ => ⟨a, kvs, e1, ⟨f, not_take h, hx⟩, fun x hx => (kt x hx).take, ek, RA.takeM vs _ hs r⟩
  | .obj n, _, hs, _ => by cases hs
  | .fn f, _, _, h => h
  | .ty _, _, _, h => h
  | .kd ks vs, _, hs, ⟨a, xs, e1, f, r⟩ => ⟨a, xs, e1, f, RA.takeM vs _ hs r⟩
theorem RA.takeM {n : Nat} : ∀ (ws : List W) (vs : List V), stillA ws = true → RA B μ ex H ws vs → RA B (μ.take n) ex H ws vs
  | [], _, _, h => h
  | w :: ws, _, hs, ⟨x, xs, e1, r, t⟩ => by
    simp only [stillA, Bool.and_eq_true] at hs
    exact ⟨x, xs, e1, R.take w x hs.1 r, RA.takeM ws xs hs.2 t⟩
end
theorem cmpB_ok {a b : Expr} {st : Sto} {op : CmpOp} {x y : W} {vx vy : V} {k : Bool} (rx : R B μ ex H x vx) (ry : R B μ ex H y vy) (s : S B μ ex H st) (e : cmpB a b st op x y = some k) :
    ∃ x' y' st' μ', R B μ' ex H x' vx ∧ R B μ' ex H y' vy ∧ S B μ' ex H st' ∧ cmpW op x' y' = some k := by
  unfold cmpB at e
  split at e
  · unfold cmpE at e
    split at e
    · next h => cases e; exact ⟨x, y, st, μ, rx, ry, s, h⟩
    · unfold objE at e
      split at e
      · next n =>
        split at e
        · next l hl =>
          split at e
          · next hs =>
            obtain ⟨a1, rfl, h1⟩ := rx
            obtain ⟨a2, h2, xs, h3, r1⟩ := s.obj _ _ hl
            rw [h1] at h2
            cases h2
            have nd := s.nd
            rw [List.nodup_append] at nd
            have hm : a1 ∈ μ := List.mem_of_getElem? h1
            have hx : a1 ∉ ex := fun z => nd.2.2 a1 hm a1 z rfl
            have r2 := RA.takeM (n := 0) l xs hs r1
            have r3 := R.take (n := 0) (.lst []) vy rfl ry
            rw [List.take_zero] at r2 r3
            refine ⟨.lst l, .lst [], [], [], ⟨a1, xs, rfl, ⟨h3, List.not_mem_nil, hx⟩, r2⟩, r3, ⟨by simpa using nd.2.1, rfl, fun i o h => by simp at h, s.exs, s.tab.step fun b u nb q => ⟨q, by simp, nb.2⟩⟩, e⟩
          · cases e
        · cases e
      · cases e
  · exact ⟨x, y, st, μ, rx, ry, s, e⟩
end
end MP
namespace MP
open PySem L2 PySem.Spec PyProof.Rows

section
variable {c : Cfg} {fa : Str → Option Addr} {X : Cx} {sc : Scope} {k : Nat}
theorem star_no {e : Expr} {es : List Expr} {env : PySem.Env} (h : isStar e = false) : starEach (e :: es) env = (false, eval e env) :: starEach es env := by
  cases e <;> first | rfl | cases h
/-- arguments, items -/
theorem ok_list {f : Expr → Rho → Sto → Option (W × Sto)} (h : ∀ e, PE X e (tW (bd fa X) (f e))) : ∀ es, PA X es (tAs (bd fa X) (evList f es))
  | [] => pa_mono pa_nil fun σ H Q ⟨ρ, st, μ, ex, ws, st', er, s, e, q⟩ => by
    cases e
    exact q _ _ _ (Ext.refl _ _) s rfl
  | e :: es => by
    by_cases hs : isStar e = true
    · exact ⟨fun pos pins s σ H Q I ⟨ρ, st, μ, ex, ws, st', er, s', e', q⟩ => by simp [evList, hs] at e'⟩
    · refine pa_mono (pa_cons (h e) (ok_list h es) (star_no (by simpa using hs))) fun σ H Q ⟨ρ, st, μ, ex, ws, st', er, s, e', q⟩ => ?_
      simp only [evList, hs, if_false, Bool.false_eq_true] at e'
      obtain ⟨⟨w, st1⟩, e1, e2⟩ := Option.bind_eq_some_iff.mp e'
      obtain ⟨⟨ws', st2⟩, e3, e4⟩ := Option.bind_eq_some_iff.mp e2
      cases e4
      refine ⟨ρ, st, μ, ex, w, st1, er, s, e1, fun μ1 H1 x x1 s1 r1 => ?_⟩
      refine ⟨ρ, st1, μ1, ex, ws', st2, er.ext x1, s1, e3, fun μ2 H2 xs x2 s2 r2 => ?_⟩
      exact q μ2 H2 (x :: xs) (x1.trans x2) s2 ⟨x, xs, rfl, r1.ext x2, r2⟩
theorem rowW_ok {μ ex : List Addr} {H : Hp} {w : W} {v : V} {l : List W} (r : R (bd fa X) μ ex H w v) (e : rowW w = some l) : ∃ a xs, v = .ref a ∧ (SqT X.K H a xs ∨ SqL X.K H a xs) ∧ RA (bd fa X) μ ex H l xs := by
  cases w <;> first | (cases e; done) | skip
  · cases e; obtain ⟨a, xs, h, f, t⟩ := r; exact ⟨a, xs, h, .inl f.sq, t⟩
  · cases e; obtain ⟨a, xs, h, f, t⟩ := r; exact ⟨a, xs, h, .inr f.sq, t⟩
  · cases e; obtain ⟨a, xs, h, ⟨f, _⟩, t⟩ := r; exact ⟨a, xs, h, .inr f.sq, t⟩
theorem evListS_no {f : Expr → Rho → Sto → Option (W × Sto)} {e : Expr} {es : List Expr} (h : isStar e = false) (ρ : Rho) (st : Sto) : evListS f (e :: es) ρ st = (f e ρ st).bind fun (w, st1) => (evListS f es ρ st1).bind fun (ws, st2) => some (w :: ws, st2) := by
  cases e <;> first | rfl | cases h
theorem ok_listS {f : Expr → Rho → Sto → Option (W × Sto)} (h : ∀ e, PE X e (tW (bd fa X) (f e))) : ∀ es, PA X es (tAs (bd fa X) (evListS f es))
  | [] => pa_mono pa_nil fun σ H Q ⟨ρ, st, μ, ex, ws, st', er, s, e, q⟩ => by cases e; exact q μ H [] (Ext.refl _ _) s rfl
  | e0 :: es => by
    by_cases hs : isStar e0 = true
    · cases e0 <;> first | (cases hs; done) | skip
      next e1 p1 =>
      refine pa_mono (StX.pa_star (h e1) (ok_listS h es)) fun σ H Q ⟨ρ, st, μ, ex, ws, st', er, s, e, q⟩ => ?_
      obtain ⟨⟨w, st1⟩, g1, g2⟩ := Option.bind_eq_some_iff.mp e
      obtain ⟨l, g3, g4⟩ := Option.bind_eq_some_iff.mp g2
      obtain ⟨⟨ws2, st2⟩, g5, g6⟩ := Option.bind_eq_some_iff.mp g4
      cases g6
      refine ⟨ρ, st, μ, ex, w, st1, er, s, g1, fun μ1 H1 x x1 s1 r1 => ?_⟩
      obtain ⟨a, xs, rfl, hq, r2⟩ := rowW_ok r1 g3
      exact ⟨a, xs, rfl, hq, ρ, st1, μ1, ex, ws2, _, er.ext x1, s1, g5, fun μ2 H2 ys x2 s2 r3 => q μ2 H2 (xs ++ ys) (x1.trans x2) s2 ((r2.ext x2).append r3)⟩
    · have hs' : isStar e0 = false := by simpa using hs
      refine pa_mono (pa_cons (h e0) (ok_listS h es) (star_no hs')) fun σ H Q ⟨ρ, st, μ, ex, ws, st', er, s, e, q⟩ => ?_
      rw [evListS_no hs'] at e
      obtain ⟨⟨w, st1⟩, g1, g2⟩ := Option.bind_eq_some_iff.mp e
      obtain ⟨⟨ws2, st2⟩, g5, g6⟩ := Option.bind_eq_some_iff.mp g2
      cases g6
      exact ⟨ρ, st, μ, ex, w, st1, er, s, g1, fun μ1 H1 x x1 s1 r1 => ⟨ρ, st1, μ1, ex, ws2, _, er.ext x1, s1, g5, fun μ2 H2 ys x2 s2 r3 => q μ2 H2 (x :: ys) (x1.trans x2) s2 ⟨x, ys, rfl, r1.ext x2, r3⟩⟩⟩
theorem plain_list {f : Expr → Rho → Sto → Option (W × Sto)} {ρ : Rho} {env : PySem.Env} : ∀ {es : List Expr} {st : Sto} {r : List W × Sto}, evList f es ρ st = some r → ∀ pos, (backTo pos (starEach es env)).any (·.1) = false
  | [], _, _, _, _ => rfl
  | e :: es, st, r, h, pos => by
    by_cases hs : isStar e = true
    · simp [evList, hs] at h
    · simp only [evList, hs, if_false, Bool.false_eq_true] at h
      obtain ⟨⟨w, st1⟩, e1, e2⟩ := Option.bind_eq_some_iff.mp h
      obtain ⟨⟨ws', st2⟩, e3, e4⟩ := Option.bind_eq_some_iff.mp e2
      rw [star_no (by simpa using hs)]
      show (false || (backTo pos (starEach es env)).any (·.1)) = false
      rw [plain_list e3 pos]
      rfl
/-- no star among them, by looking -/
def noStars : List Expr → Bool
  | [] => true
  | e :: es => !isStar e && noStars es
theorem stars_of {f : Expr → Rho → Sto → Option (W × Sto)} {ρ : Rho} : ∀ {es : List Expr} {st : Sto} {r : List W × Sto}, evList f es ρ st = some r → noStars es = true
  | [], _, _, _ => rfl
  | e :: es, st, r, h => by
    by_cases hs : isStar e = true
    · simp [evList, hs] at h
    · simp only [evList, hs, if_false, Bool.false_eq_true] at h
      obtain ⟨⟨w, st1⟩, e1, e2⟩ := Option.bind_eq_some_iff.mp h
      obtain ⟨⟨ws', st2⟩, e3, e4⟩ := Option.bind_eq_some_iff.mp e2
      simp [noStars, hs, stars_of e3]
theorem plain_of {env : PySem.Env} {pos : Pos} : ∀ {es : List Expr}, noStars es = true → (backTo pos (starEach es env)).any (·.1) = false
  | [], _ => rfl
  | e :: es, h => by
    simp only [noStars, Bool.and_eq_true, Bool.not_eq_true'] at h
    rw [star_no h.1]
    show (false || (backTo pos (starEach es env)).any (·.1)) = false
    rw [plain_of h.2]
    rfl

def RecOk (c : Cfg) (fa : Str → Option Addr) (k : Nat) (r : Rec) : Prop := ∀ X sc, Ok c fa X sc k → (∀ e, PE X e (tW (bd fa X) (r.ev sc e))) ∧ (∀ e, PT X e (tB (bd fa X) (r.ts sc e)))
theorem units_ok (ok : Ok c fa X sc k) : X.A.units + 65 < cLine := by have := ok.room.un; omega
theorem units1 (ok : Ok c fa X sc k) : X.A.units + 1 < cLine := by have := ok.room.units; omega

variable {r : Rec}
/-- two in a row -/
theorem two_ev {a b : Expr} {f : W → W → Sto → Option (W × Sto)} {σ : L2.St} {H : Hp} {Q : VK} {t : R2}
    (h : tW (bd fa X) (fun ρ st => (r.ev sc a ρ st).bind fun (x, st1) => (r.ev sc b ρ st1).bind fun (y, st2) => f x y st2) σ H Q)
    (m : ∀ x y st2 w st' μ ex H2 vx vy, R (bd fa X) μ ex H2 x vx → R (bd fa X) μ ex H2 y vy → S (bd fa X) μ ex H2 st2 → f x y st2 = some (w, st') → Post (bd fa X) μ ex H2 w st' Q → t vx vy H2 Q) :
    tOp t (tW (bd fa X) (r.ev sc a)) (tW (bd fa X) (r.ev sc b)) σ H Q := by
  obtain ⟨ρ, st, μ, ex, w, st', er, s, e, q⟩ := h
  obtain ⟨⟨x, st1⟩, e1, e2⟩ := Option.bind_eq_some_iff.mp e
  obtain ⟨⟨y, st2⟩, e3, e4⟩ := Option.bind_eq_some_iff.mp e2
  refine ⟨ρ, st, μ, ex, x, st1, er, s, e1, fun μ1 H1 vx x1 s1 r1 => ?_⟩
  refine ⟨ρ, st1, μ1, ex, y, st2, er.ext x1, s1, e3, fun μ2 H2 vy x2 s2 r2 => ?_⟩
  exact m x y st2 w st' μ2 ex H2 vx vy (r1.ext x2) r2 s2 e4 (q.ext (x1.trans x2))
def rV2S (B : Bd) (f : Sto → W → W → Option W) : R2 := fun x y H Q => ∃ a b st μ ex w, R B μ ex H a x ∧ R B μ ex H b y ∧ S B μ ex H st ∧ f st a b = some w ∧ Post B μ ex H w st Q
theorem bareL_add {a b : Expr} {op : Operator} (h : bareL a op b = true) : op = .Add := by
  cases op <;> first | rfl | (cases a <;> cases b <;> cases h)
theorem op_binB (a b : Expr) (op : Operator) : OpR X (binaryOp op) (rV2S (bd fa X) fun st => binB a b st op) := by
  intro pins s σ H x y v u Q I rx ry ⟨wa, wb, st, μ, ex, w, ra, rb, hs, e0, q⟩
  have e : binB a b st op wa wb = some w := e0
  clear e0
  unfold binB at e
  split at e
  · next hb =>
    cases bareL_add hb
    unfold binE at e
    split at e
    · next h => cases e; exact op_binW (fa := fa) .Add pins s σ H x y v u Q I rx ry ⟨wa, wb, st, μ, ex, _, ra, rb, hs, h, q⟩
    · unfold addO at e
      split at e
      · split at e
        · next l hl =>
          split at e
          · next h =>
            cases e
            obtain ⟨a1, rfl, h1⟩ := ra
            obtain ⟨a3, h2, xs, h3, r1⟩ := hs.obj _ _ hl
            rw [h1] at h2
            cases h2
            obtain ⟨a2, ys, rfl, f2, r2⟩ := rb
            exact op_cat pins s σ H _ _ v u Q I rx ry ⟨a1, a2, xs, ys, rfl, rfl, h3, f2.1, by rw [← r1.length, ← r2.length]; exact h, Post.lst hs (r1.append r2) q⟩
          · cases e
        · cases e
      · cases e
  · exact op_binW (fa := fa) op pins s σ H x y v u Q I rx ry ⟨wa, wb, st, μ, ex, w, ra, rb, hs, e, q⟩
theorem ok_BinOp (ro : RecOk c fa k r) (ok : Ok c fa X sc k) (a b : Expr) (op : Operator) (pos : Pos) : PE X (.BinOp a op b pos) (tW (bd fa X) (evE c r sc (.BinOp a op b pos))) := by
  refine pe_mono (pe_op (op_binB (fa := fa) a b op) ((ro X sc ok).1 a) ((ro X sc ok).1 b)) fun σ H Q h => two_ev (f := fun x y st2 => (binB a b st2 op x y).map fun w => (w, st2)) h ?_
  intro x y st2 w st' μ ex H2 vx vy rx ry s e q
  obtain ⟨w', e1, e2⟩ := Option.map_eq_some_iff.mp e
  cases e2
  exact ⟨x, y, _, μ, ex, _, rx, ry, s, e1, q⟩
theorem ok_Compare (ro : RecOk c fa k r) (ok : Ok c fa X sc k) (a b : Expr) (op : CmpOp) (pos : Pos) : PE X (.Compare a [op] [b] pos) (tW (bd fa X) (evE c r sc (.Compare a [op] [b] pos))) := by
  by_cases hm : behindInMarks op b = false
  · refine pe_mono (pe_cmpR (cmp_ok (fa := fa) (units_ok ok) op) ((ro X sc ok).1 a) ((ro X sc ok).1 b) hm) fun σ H Q h => two_ev (f := fun x y st2 => (cmpB a b st2 op x y).map fun k => (.bl k, st2)) (by obtain ⟨ρ, st, μ, ex, w, st', er, s, e, q⟩ := h; exact ⟨ρ, st, μ, ex, w, st', er, s, by simpa only [evE, hm, if_true] using e, q⟩) ?_
    intro x y st2 w st' μ ex H2 vx vy rx ry s e q
    obtain ⟨w', e1, e2⟩ := Option.map_eq_some_iff.mp e
    cases e2
    obtain ⟨x', y', st', μ', rx', ry', s', e1'⟩ := cmpB_ok rx ry s e1
    exact ⟨x', y', st', μ', ex, _, rx', ry', s', e1', q.now s rfl⟩
  · exact pe_false fun σ H Q ⟨ρ, st, μ, ex, w, st', er, s, e, q⟩ => by simp [evE, hm] at e
theorem ok_tCompare (ro : RecOk c fa k r) (ok : Ok c fa X sc k) (a b : Expr) (op : CmpOp) (pos : Pos) : PT X (.Compare a [op] [b] pos) (tB (bd fa X) (tsE c r sc (.Compare a [op] [b] pos))) := by
  by_cases hm : behindInMarks op b = false
  · refine pt_mono (pt_cmpR (cmp_ok (fa := fa) (units_ok ok) op) ((ro X sc ok).1 a) ((ro X sc ok).1 b) hm) fun σ H Q ⟨ρ, st, μ, ex, w, st', er, s, e, q⟩ => ?_
    simp only [tsE, hm, if_true] at e
    obtain ⟨⟨x, st1⟩, e1, e2⟩ := Option.bind_eq_some_iff.mp e
    obtain ⟨⟨y, st2⟩, e3, e4⟩ := Option.bind_eq_some_iff.mp e2
    obtain ⟨k', e5, e6⟩ := Option.map_eq_some_iff.mp e4
    cases e6
    refine ⟨ρ, st, μ, ex, x, st1, er, s, e1, fun μ1 H1 vx x1 s1 r1 => ?_⟩
    refine ⟨ρ, st1, μ1, ex, y, st2, er.ext x1, s1, e3, fun μ2 H2 vy x2 s2 r2 => ?_⟩
    obtain ⟨x', y', st', μ', rx', ry', s', e5'⟩ := cmpB_ok (r1.ext x2) r2 s2 e5
    exact ⟨x', y', st', μ', ex, _, rx', ry', s', e5', _, rfl, q μ2 H2 (x1.trans x2) s2⟩
  · exact pt_false fun σ H Q ⟨ρ, st, μ, ex, w, st', er, s, e, q⟩ => by simp [tsE, hm] at e
theorem ok_Not (ro : RecOk c fa k r) (ok : Ok c fa X sc k) (a : Expr) (pos : Pos) : PE X (.UnaryOp .Not a pos) (tW (bd fa X) (evE c r sc (.UnaryOp .Not a pos))) := by
  refine pe_mono (pe_not ((ro X sc ok).1 a)) fun σ H Q ⟨ρ, st, μ, ex, w, st', er, s, e, q⟩ => ?_
  simp only [evE] at e
  obtain ⟨⟨x, st1⟩, e1, e2⟩ := Option.bind_eq_some_iff.mp e
  refine ⟨ρ, st, μ, ex, x, st1, er, s, e1, fun μ1 H1 vx x1 s1 r1 => ?_⟩
  cases x <;> first | (cases e2; done) | skip
  cases e2
  exact ⟨_, r1, q μ1 H1 _ x1 s1 rfl⟩
theorem ok_Neg (ro : RecOk c fa k r) (ok : Ok c fa X sc k) (a : Expr) (pos : Pos) : PE X (.UnaryOp .USub a pos) (tW (bd fa X) (evE c r sc (.UnaryOp .USub a pos))) := by
  refine pe_mono (pe_un un_neg ((ro X sc ok).1 a)) fun σ H Q ⟨ρ, st, μ, ex, w, st', er, s, e, q⟩ => ?_
  simp only [evE] at e
  obtain ⟨⟨x, st1⟩, e1, e2⟩ := Option.bind_eq_some_iff.mp e
  refine ⟨ρ, st, μ, ex, x, st1, er, s, e1, fun μ1 H1 vx x1 s1 r1 => ?_⟩
  cases x <;> first | (cases e2; done) | skip
  cases e2
  exact ⟨_, r1, q μ1 H1 _ x1 s1 rfl⟩
theorem ok_And (ro : RecOk c fa k r) (ok : Ok c fa X sc k) (a b : Expr) (es : List Expr) (pos : Pos) : PE X (.BoolOp .And (a :: b :: es) pos) (tW (bd fa X) (evE c r sc (.BoolOp .And (a :: b :: es) pos))) := by
  refine pe_mono (pe_and ((ro X sc ok).1 a) ((ro X sc ok).1 _)) fun σ H Q ⟨ρ, st, μ, ex, w, st', er, s, e, q⟩ => ?_
  simp only [evE] at e
  obtain ⟨⟨x, st1⟩, e1, e2⟩ := Option.bind_eq_some_iff.mp e
  refine ⟨ρ, st, μ, ex, x, st1, er, s, e1, fun μ1 H1 vx x1 s1 r1 => ?_⟩
  cases x <;> first | (cases e2; done) | skip
  next b =>
  refine ⟨b, r1, ?_⟩
  cases b with
  | true =>
    rw [if_pos rfl]
    exact ⟨ρ, st1, μ1, ex, w, st', er.ext x1, s1, by simpa using e2, q.ext x1⟩
  | false =>
    rw [if_neg (by decide)]
    simp at e2
    obtain ⟨rfl, rfl⟩ := e2
    exact q μ1 H1 _ x1 s1 rfl
theorem ok_Or (ro : RecOk c fa k r) (ok : Ok c fa X sc k) (a b : Expr) (es : List Expr) (pos : Pos) : PE X (.BoolOp .Or (a :: b :: es) pos) (tW (bd fa X) (evE c r sc (.BoolOp .Or (a :: b :: es) pos))) := by
  refine pe_mono (pe_or ((ro X sc ok).1 a) ((ro X sc ok).1 _)) fun σ H Q ⟨ρ, st, μ, ex, w, st', er, s, e, q⟩ => ?_
  simp only [evE] at e
  obtain ⟨⟨x, st1⟩, e1, e2⟩ := Option.bind_eq_some_iff.mp e
  refine ⟨ρ, st, μ, ex, x, st1, er, s, e1, fun μ1 H1 vx x1 s1 r1 => ?_⟩
  cases x <;> first | (cases e2; done) | skip
  next b =>
  refine ⟨b, r1, ?_⟩
  cases b with
  | false =>
    rw [if_neg (by decide)]
    exact ⟨ρ, st1, μ1, ex, w, st', er.ext x1, s1, by simpa using e2, q.ext x1⟩
  | true =>
    rw [if_pos rfl]
    simp at e2
    obtain ⟨rfl, rfl⟩ := e2
    exact q μ1 H1 _ x1 s1 rfl
theorem ok_One (ro : RecOk c fa k r) (ok : Ok c fa X sc k) (op : BoolOp) (a : Expr) (pos : Pos) : PE X (.BoolOp op [a] pos) (tW (bd fa X) (evE c r sc (.BoolOp op [a] pos))) := by
  cases op <;> exact pe_one ((ro X sc ok).1 a)
theorem ok_IfExp (ro : RecOk c fa k r) (ok : Ok c fa X sc k) (t a b : Expr) (pos : Pos) : PE X (.IfExp t a b pos) (tW (bd fa X) (evE c r sc (.IfExp t a b pos))) := by
  refine pe_mono (pe_ifExp ((ro X sc ok).2 t) ((ro X sc ok).1 a) ((ro X sc ok).1 b)) fun σ H Q ⟨ρ, st, μ, ex, w, st', er, s, e, q⟩ => ?_
  simp only [evE] at e
  obtain ⟨⟨x, st1⟩, e1, e2⟩ := Option.bind_eq_some_iff.mp e
  refine ⟨ρ, st, μ, ex, x, st1, er, s, e1, fun μ1 H1 x1 s1 => ?_⟩
  cases x with
  | true => rw [if_pos rfl]; exact ⟨ρ, st1, μ1, ex, w, st', er.ext x1, s1, by simpa using e2, q.ext x1⟩
  | false => rw [if_neg (by decide)]; exact ⟨ρ, st1, μ1, ex, w, st', er.ext x1, s1, by simpa using e2, q.ext x1⟩
theorem ok_Tuple (ro : RecOk c fa k r) (ok : Ok c fa X sc k) (es : List Expr) (j : Nat) (pos : Pos) : PE X (.Tuple es j pos) (tW (bd fa X) (evE c r sc (.Tuple es j pos))) := by
  refine pe_mono (pe_tup (ok_listS (ro X sc ok).1 es)) fun σ H Q ⟨ρ, st, μ, ex, w, st', er, s, e, q⟩ => ?_
  simp only [evE] at e
  obtain ⟨⟨ws, st1⟩, e1, e2⟩ := Option.bind_eq_some_iff.mp e
  dsimp only at e2
  split at e2
  · next hl =>
    cases e2
    refine ⟨ρ, st, μ, ex, ws, _, er, s, e1, fun μ1 H1 xs x1 s1 r1 => ⟨by rw [← r1.length]; exact hl, Post.tup s1 r1 (q.ext x1)⟩⟩
  · cases e2
theorem ok_ListF (ro : RecOk c fa k r) (ok : Ok c fa X sc k) (es : List Expr) (pos : Pos) : PE X (.List es pos) (tWf (bd fa X) (evE c r sc (.List es pos))) := by
  refine pe_mono (pe_lst (ok_list (ro X sc ok).1 es)) fun σ H Q ⟨ρ, st, μ, ex, w, st', er, s, e, q⟩ => ?_
  simp only [evE] at e
  obtain ⟨⟨ws, st1⟩, e1, e2⟩ := Option.bind_eq_some_iff.mp e
  dsimp only at e2
  split at e2
  · next hl =>
    cases e2
    refine ⟨ρ, st, μ, ex, ws, _, er, s, e1, fun μ1 H1 xs x1 s1 r1 => ⟨by rw [← r1.length]; exact hl, PostF.lst s1 r1 (q.ext x1)⟩⟩
  · cases e2
theorem ok_List (ro : RecOk c fa k r) (ok : Ok c fa X sc k) (es : List Expr) (pos : Pos) : PE X (.List es pos) (tW (bd fa X) (evE c r sc (.List es pos))) :=
  pe_mono (ok_ListF ro ok es pos) fun _ _ _ h => tWf_of h

/-! subscripts -/
theorem RA.atI {μ ex : List Addr} {H : Hp} {B : Bd} {ws : List W} {xs : List V} {i : Int} {w : W} (h : RA B μ ex H ws xs) (e : L2.atI ws i = some w) : ∃ v, L2.atI xs i = some v ∧ R B μ ex H w v := by
  unfold L2.atI at e ⊢
  rw [← h.length]
  cases q : ixN ws.length i with
  | none => rw [q] at e; cases e
  | some j => rw [q] at e; exact h.get e
theorem getK_ok {κ : Type} [DecidableEq κ] {μ ex : List Addr} {H : Hp} {B : Bd} : ∀ {kvs : List (κ × V)} {vs : List W} {x : κ} {w : W}, RA B μ ex H vs (kvs.map (·.2)) → getK (kvs.map (·.1)) vs x = some w → ∃ v, valV kvs x = some v ∧ R B μ ex H w v
  | [], _, _, _, _, e => by simp [getK] at e
  | p :: r, [], _, _, _, e => by simp [getK] at e
  | p :: r, v :: vs, x, w, h, e => by
    obtain ⟨y, ys, e1, r1, r2⟩ := h
    rw [List.map_cons] at e1
    cases e1
    rw [List.map_cons] at e
    unfold getK at e
    by_cases hx : p.1 = x
    · rw [if_pos hx] at e
      cases e
      exact ⟨p.2, valV_pos hx, r1⟩
    · rw [if_neg hx] at e
      obtain ⟨v', q1, q2⟩ := getK_ok r2 e
      exact ⟨v', by rw [valV_neg hx]; exact q1, q2⟩
theorem key_sq {ks : List Key} {b : Addr} {pins : List (Addr × Obj)} {σ : L2.St} {H : Hp} {s : Shared} (I : Inv X pins σ H s) (h : SqT X.K H b (ks.map kV)) : (tupleKind (mixKind X.prog X.w)).is s.heap ks b := by
  obtain ⟨its, r1, ⟨o, h1, h2, n, h3⟩, _⟩ := I.tuple h
  exact ⟨o, its.toArray, n, h1, h2, h3, by simpa using items_are r1⟩
/-- the entries of a dict with tuple keys -/
abbrev EnT : List (List Key × Addr × V) → List (List Key × Addr × Value) → Prop := Paired fun p q => p.1 = q.1 ∧ p.2.1 = q.2.1 ∧ RelV p.2.2 q.2.2
theorem EnT.mem {xs : List (List Key × Addr × V)} {vs : List (List Key × Addr × Value)} (h : EnT xs vs) : ∀ q ∈ vs, ∃ p ∈ xs, p.1 = q.1 ∧ p.2.1 = q.2.1 := by
  induction h with
  | nil => intro q hq; simp at hq
  | @cons p q ps qs r t ih =>
    intro z hz
    rcases List.mem_cons.mp hz with rfl | hz
    · exact ⟨p, List.mem_cons_self, r.1, r.2.1⟩
    · obtain ⟨p', h1, h2⟩ := ih z hz
      exact ⟨p', List.mem_cons_of_mem _ h1, h2⟩
/-- what stands at a place told so -/
theorem dt_at {a : Addr} {xs : List (List Key × Addr × V)} {μ ex : List Addr} {pins : List (Addr × Obj)} {σ : L2.St} {H : Hp} {s : Shared} (I : Inv X pins σ H s) (e : H a = some (dtO X.prog X.w a xs)) (kt : KeysT X.K μ ex H xs) :
    xs.length ≤ sizeLine ∧ (a == sysModules) = false ∧ ∃ vs, EnT xs vs ∧ s.heap.DictOfH (tupleKind (mixKind X.prog X.w)) a vs := by
  obtain ⟨⟨h1, h2, vs, h3, o, es, ep, h4, h5, h6, h7, h8⟩, _, _⟩ := I.hok a _ e
  refine ⟨h1, h2, vs, h3, o, es, ep, h4, h5, h6, h7, fun q hq => ?_, h8⟩
  obtain ⟨p, hp, e1, e2⟩ := EnT.mem h3 q hq
  rw [← e1, ← e2]
  exact key_sq I (kt p hp).sq
theorem EnT.look {ks : List Key} : ∀ {xs : List (List Key × Addr × V)} {vs : List (List Key × Addr × Value)}, EnT xs vs → ∀ {ws : List W} {w : W} {B : Bd} {μ ex : List Addr} {H : Hp}, RA B μ ex H ws (xs.map (·.2.2)) → getK (xs.map (·.1)) ws ks = some w →
    ∃ z p, atKey vs ks = some p ∧ RelV z p.2 ∧ R B μ ex H w z
  | _, _, .nil, ws, w, B, μ, ex, H, r1, e => by simp [getK] at e
  | p :: ps, q :: qs, .cons h t, [], w, B, μ, ex, H, r1, e => by simp [getK] at e
  | p :: ps, q :: qs, .cons h t, u :: us, w, B, μ, ex, H, ⟨y, ys, e1, r1, r2⟩, e => by
    rw [List.map_cons] at e1
    cases e1
    rw [List.map_cons] at e
    unfold getK at e
    by_cases hx : p.1 = ks
    · rw [if_pos hx] at e
      cases e
      refine ⟨p.2.2, q.2, ?_, h.2.2, r1⟩
      show ((q :: qs).find? fun x => decide (x.1 = ks)).map (·.2) = _
      rw [List.find?_cons, decide_eq_true (h.1 ▸ hx)]
      rfl
    · rw [if_neg hx] at e
      obtain ⟨z, p', h1, h2, h3⟩ := EnT.look t r2 e
      refine ⟨z, p', ?_, h2, h3⟩
      show ((q :: qs).find? fun x => decide (x.1 = ks)).map (·.2) = _
      rw [List.find?_cons, decide_eq_false (fun z => hx (h.1.trans z))]
      exact h1
theorem getK_none {κ : Type} [DecidableEq κ] {z : κ} : ∀ {ks : List κ} {ws : List W}, (ks.any fun j => decide (j = z)) = false → getK ks ws z = none
  | [], ws, _ => by cases ws <;> rfl
  | k :: ks, [], _ => rfl
  | k :: ks, w :: ws, h => by
    rw [List.any_cons, Bool.or_eq_false_iff] at h
    unfold getK
    rw [if_neg (of_decide_eq_false h.1)]
    exact getK_none h.2
/-- a subscript of a dict, by values -/
theorem ix_dict {a : Addr} {r : R2} (hT : ∀ (pins : List (Addr × Obj)) (s : Shared) (σ : L2.St) (H : Hp) (x y : V) (v u : Value) (Q : VK), Inv X pins σ H s → RelV x v → RelV y u → r x y H Q →
    s.TypeIs v "dict" ∧ wpAny (model X.prog X.w) X.A (getItem v u) (EP X pins σ Q) X.xe s) : IxR X r := by
  intro value slice pins s σ H x y v u Q I rx ry h hs
  obtain ⟨t, g⟩ := hT pins s σ H x y v u Q I rx ry h
  unfold subscriptTail
  apply wpAny_bind; rw [getitemInPython_of_ne t.not_modules]
  apply wpAny_bind; apply wpAny_specialOf t PySem.F.slot_dict_getitem.lookup
  have last : wpAny (model X.prog X.w) X.A (subscripted slice false v u) (fun r s₃ => wpAny (model X.prog X.w) X.A (letTemporaryGo value v r >>= fun _ => pure r) (EP X pins σ Q) X.xe s₃) X.xe s := by
    rw [hs]; exact wpAny_operating (wpAny_mono g (fun _ _ z => wpAny_bind (wpAny_letTemporaryGo (wpAny_pure z))) fun _ _ z => z)
  first | exact wpAny_pure (wpAny_bind last) | exact wpAny_bind (wpAny_pure (wpAny_bind last)) | exact wpAny_bind last
def rIxW (B : Bd) : R2 := fun x y H Q => ∃ a b st μ ex w, R B μ ex H a x ∧ R B μ ex H b y ∧ S B μ ex H st ∧ ixW st a b = some w ∧ Post B μ ex H w st Q
theorem ixW_ok (hu : X.A.units + 1 < cLine) : IxR X (rIxW (bd fa X)) := by
  intro value slice pins s σ H x y v u Q I rx ry ⟨a, b, st, μ, ex, w, ra, rb, hs, e, q⟩ hp
  unfold ixW at e
  split at e
  · subst rb
    obtain ⟨a1, xs, rfl, f1, r1⟩ := ra
    obtain ⟨z, e1, r2⟩ := r1.atI e
    exact ix_tup value slice pins s σ H _ _ v u Q I rx ry ⟨a1, xs, _, z, rfl, rfl, f1.sq, e1, q.now hs r2⟩ hp
  · subst rb
    obtain ⟨a1, xs, rfl, f1, r1⟩ := ra
    obtain ⟨z, e1, r2⟩ := r1.atI e
    exact ix_list value slice pins s σ H _ _ v u Q I rx ry ⟨a1, xs, _, z, rfl, rfl, f1.sq, e1, q.now hs r2⟩ hp
  · subst rb
    obtain ⟨a1, xs, rfl, f1, r1⟩ := ra
    obtain ⟨z, e1, r2⟩ := r1.atI e
    exact ix_list value slice pins s σ H _ _ v u Q I rx ry ⟨a1, xs, _, z, rfl, rfl, f1.1.sq, e1, q.now hs r2⟩ hp
  · split at e
    · next hl =>
      subst ra rb
      obtain ⟨ch, e1, rfl⟩ := Option.map_eq_some_iff.mp e
      exact ix_str value slice pins s σ H _ _ v u Q I rx ry ⟨_, _, ch, rfl, rfl, hl, e1, q.now hs rfl⟩ hp
    · cases e
  · obtain ⟨k', e1, e2⟩ := Option.bind_eq_some_iff.mp e
    obtain ⟨a1, kvs, rfl, f1, rfl, r1⟩ := ra
    obtain ⟨z, e3, r2⟩ := getK_ok r1 e2
    have ek := keyOf_ok rb e1
    subst ek
    refine ix_dict (a := a1) (r := fun x y H' Q' => x = .ref a1 ∧ y = kV k' ∧ H' = H ∧ Q' = Q) ?_ value slice pins s σ H _ _ v u Q I rx ry ⟨rfl, rfl, rfl, rfl⟩ hp
    rintro pins2 s2 σ2 H2 x2 y2 v2 u2 Q2 I2 rx2 ry2 ⟨e4, e5, e6, e7⟩
    subst e4 e5 e6 e7
    cases rx2
    have g : DGet H2 a1 (kV k') (some z) := by rw [← e3]; exact DGet.k f1.1
    exact ⟨dict_typeIs I2 g, d_getItem hu I2 g ry2 fun w' s3 I3 rw' => ⟨z, H2, I3, rw', q.now hs r2⟩⟩
  · obtain ⟨k', e1, e2⟩ := Option.bind_eq_some_iff.mp e
    obtain ⟨a1, kvs, rfl, f1, kt, rfl, r1⟩ := ra
    obtain ⟨b1, ys, rfl, f2, r3⟩ := rb
    have ek := keysOf_ok r3 e1
    subst ek
    refine ix_dict (a := a1) (r := fun x y H' Q' => x = .ref a1 ∧ y = .ref b1 ∧ H' = H ∧ Q' = Q) ?_ value slice pins s σ H _ _ v u Q I rx ry ⟨rfl, rfl, rfl, rfl⟩ hp
    rintro pins2 s2 σ2 H2 x2 y2 v2 u2 Q2 I2 rx2 ry2 ⟨e4, e5, e6, e7⟩
    subst e4 e5 e6 e7
    cases rx2
    cases ry2
    obtain ⟨_, _, vs, en, dd⟩ := dt_at I2 f1.1 kt
    obtain ⟨z, p, h1, h2, h3⟩ := en.look r1 e2
    exact ⟨dd.typeIs, wpAny_getItem_heap (tupleKind_room_in1 hu) (key_sq I2 f2.sq) dd h1 ⟨z, H2, I2.tok _, h2, q.now hs h3⟩⟩
  · next z =>
    obtain ⟨a1, xs, rfl, f1, r1⟩ := ra
    subst rb
    obtain ⟨es, n, ⟨h1, h2, h3⟩, ⟨u', y', g1, g2, g3, g4⟩ | ⟨g1, g3⟩⟩ := f1.at_ (B := bd fa X) (μ := μ) (ex := ex) (H := H) z
    · exact ix_kdict value slice pins s σ H _ _ v u Q I rx ry ⟨a1, z, y', rfl, rfl, ⟨es, n, u', h1, h2, g1, g2⟩, q.now hs (g4 _ _ r1 e)⟩ hp
    · rw [getK_none g3] at e
      cases e
  · split at e
    · next l hst =>
      subst rb
      obtain ⟨a1, rfl, h1⟩ := ra
      obtain ⟨a2, h2, xs, h3, r1⟩ := hs.obj _ _ hst
      rw [h1] at h2
      cases h2
      obtain ⟨z, e1, r2⟩ := r1.atI e
      exact ix_list value slice pins s σ H _ _ v u Q I rx ry ⟨a1, xs, _, z, rfl, rfl, SqL.of h3, e1, q.now hs r2⟩ hp
    · cases e
  · cases e
theorem plainIx {b : Expr} (h : isSlice b = false) : PlainIx b := fun o i => by cases b <;> first | rfl | cases h
theorem ok_Index (ro : RecOk c fa k r) (ok : Ok c fa X sc k) (a b : Expr) (pos : Pos) (hb : isSlice b = false) : PE X (.Subscript a b pos) (tW (bd fa X) (evE c r sc (.Subscript a b pos))) := by
  refine pe_mono (pe_ix (ixW_ok (fa := fa) (units1 ok)) ((ro X sc ok).1 a) ((ro X sc ok).1 b) (plainIx hb)) fun σ H Q h => two_ev (f := fun x y st2 => (ixW st2 x y).map fun w => (w, st2)) ?_ ?_
  · obtain ⟨ρ, st, μ, ex, w, st', er, s, e, q⟩ := h
    refine ⟨ρ, st, μ, ex, w, st', er, s, ?_, q⟩
    cases b <;> first | (simpa [evE, hb] using e) | cases hb
  · intro x y st2 w st' μ ex H2 vx vy rx ry s e q
    obtain ⟨w', e1, e2⟩ := Option.map_eq_some_iff.mp e
    cases e2
    exact ⟨x, y, _, μ, ex, _, rx, ry, s, e1, q⟩
end
end MP
namespace MP
open PySem L2 PySem.Spec PyProof.Rows

section
variable {c : Cfg} {fa : Str → Option Addr} {X : Cx} {sc : Scope} {k : Nat} {r : Rec}
/-! slices -/
def tPt (B : Bd) (f : Rho → Sto → Option (Option Int × Sto)) : TO := fun σ H Q => ∃ ρ st μ ex o st',
  EnvR B μ ex H ρ σ ∧ S B μ ex H st ∧ f ρ st = some (o, st') ∧ ∀ μ' H', Ext μ H μ' H' → S B μ' ex H' st' → Q o H'
theorem po_mono {e : Option Expr} {t t' : TO} (h : PO X e t) (m : ∀ σ H Q, t' σ H Q → t σ H Q) : PO X e t' := ⟨fun pins s σ H Q I q => h.run pins s σ H Q I (m σ H Q q)⟩
theorem ok_part (ro : RecOk c fa k r) (ok : Ok c fa X sc k) : ∀ e : Option Expr, PO X e (tPt (bd fa X) (partW (r.ev sc) e))
  | none => po_mono po_none fun σ H Q ⟨ρ, st, μ, ex, o, st', er, s, e, q⟩ => by cases e; exact q μ H (Ext.refl _ _) s
  | some e => po_mono (po_some ((ro X sc ok).1 e)) fun σ H Q ⟨ρ, st, μ, ex, o, st', er, s, e', q⟩ => by
    simp only [partW] at e'
    obtain ⟨⟨w, st1⟩, e1, e2⟩ := Option.bind_eq_some_iff.mp e'
    refine ⟨ρ, st, μ, ex, w, st1, er, s, e1, fun μ1 H1 x x1 s1 r1 => ?_⟩
    cases w <;> first | (cases e2; done) | skip
    cases e2
    exact ⟨_, r1, q μ1 H1 x1 s1⟩
def rSlW (B : Bd) : V → Option Int → Option Int → Hp → VK → Prop := fun x lo hi H Q => ∃ a st μ ex w, R B μ ex H a x ∧ S B μ ex H st ∧ slW a lo hi = some w ∧ Post B μ ex H w st Q
theorem RA.cut {μ ex : List Addr} {H : Hp} {B : Bd} {ws : List W} {xs : List V} (h : RA B μ ex H ws xs) (lo hi : Option Int) : RA B μ ex H (cutW ws lo hi) (cutV xs lo hi) := by
  unfold cutW cutV
  rw [h.length]
  exact (h.drop _).take _
theorem slW_ok : SlR X (rSlW (bd fa X)) := by
  intro pins s σ H x v vl vu lo hi sl Q I rx hs pl pu ⟨a, st, μ, ex, w, ra, hst, e, q⟩
  unfold slW at e
  split at e
  · cases e
    obtain ⟨a1, xs, rfl, f1, r1⟩ := ra
    refine sl_tupA pins s σ H _ v vl vu lo hi sl Q I rx hs pl pu ⟨a1, xs, rfl, f1.sq, fun hw => ?_, fun _ => Post.tup hst (r1.cut lo hi) q⟩
    refine q.now hst ⟨a1, xs, rfl, f1, ?_⟩
    have e1 : cutV xs lo hi = xs := by
      unfold cutV
      rw [hw.1, hw.2]
      simp
    have := r1.cut lo hi
    rwa [e1] at this
  · cases e
    obtain ⟨a1, xs, rfl, f1, r1⟩ := ra
    exact sl_list pins s σ H _ v vl vu lo hi sl Q I rx hs pl pu ⟨a1, xs, rfl, f1.sq, Post.lst hst (r1.cut lo hi) q⟩
  · split at e
    · next hl =>
      cases e
      subst ra
      exact L2.sl_str pins s σ H _ v vl vu lo hi sl Q I rx hs pl pu ⟨_, rfl, hl, q.now hst rfl⟩
    · cases e
  · cases e
theorem ok_Slice (ro : RecOk c fa k r) (ok : Ok c fa X sc k) (a : Expr) (lo hi : Option Expr) (p2 pos : Pos) : PE X (.Subscript a (.Slice lo hi none p2) pos) (tW (bd fa X) (evE c r sc (.Subscript a (.Slice lo hi none p2) pos))) := by
  refine pe_mono (pe_slice (slW_ok (fa := fa)) ((ro X sc ok).1 a) (ok_part ro ok lo) (ok_part ro ok hi)) fun σ H Q ⟨ρ, st, μ, ex, w, st', er, s, e, q⟩ => ?_
  simp only [evE] at e
  obtain ⟨⟨x, st1⟩, e1, e2⟩ := Option.bind_eq_some_iff.mp e
  obtain ⟨⟨l, st2⟩, e3, e4⟩ := Option.bind_eq_some_iff.mp e2
  obtain ⟨⟨h, st3⟩, e5, e6⟩ := Option.bind_eq_some_iff.mp e4
  obtain ⟨w', e7, e8⟩ := Option.map_eq_some_iff.mp e6
  cases e8
  refine ⟨ρ, st, μ, ex, x, st1, er, s, e1, fun μ1 H1 vx x1 s1 r1 => ?_⟩
  refine ⟨ρ, st1, μ1, ex, l, st2, er.ext x1, s1, e3, fun μ2 H2 x2 s2 => ?_⟩
  refine ⟨ρ, st2, μ2, ex, h, _, er.ext (x1.trans x2), s2, e5, fun μ3 H3 x3 s3 => ?_⟩
  exact ⟨x, _, μ3, ex, _, r1.ext (x2.trans x3), s3, e7, q.ext ((x1.trans x2).trans x3)⟩

/-! calls -/
theorem glob_call {f : Str} {d : Fn} (ro : RecOk c fa k r) (ok : Ok c fa X sc k) (hf : c.g.fns.lookup f = some d) (p : Pos) (es : List Expr) (pos : Pos) (hz : specOf f es = none) (hg : glB sc f = true) (hn : okName f = true) :
    PE X (.Call (.Name f p) es [] pos) (tW (bd fa X) (evE c r sc (.Call (.Name f p) es [] pos))) := by
  obtain ⟨h1, h2, h3⟩ := okName_ok hn
  obtain ⟨a, fd, e1, e2, kp, b, F, _⟩ := ok.fns f d hf
  by_cases hs : noStars es = true
  · cases es with
    | nil =>
      refine pe_mono (pe_call0 F ok.room (gl_ok ok hg) e2 kp b .nil pass0 h1) fun σ H Q ⟨ρ, st, μ, ex, w, st', er, s, e, q⟩ => ?_
      simp only [evE, hz, hg, hn, hf, evList, Option.bind_some, and_self, if_true] at e
      split at e
      · next hl =>
        show spOf (bd fa X) c.call f d.ps.length ([] ++ []) H Q E0
        exact ⟨[], st, μ, ex, w, st', hl, rfl, s, e, q⟩
      · cases e
    | cons e0 es =>
      have hs' := hs
      simp only [noStars, Bool.and_eq_true, Bool.not_eq_true'] at hs'
      refine pe_mono (pe_call F ok.room (gl_ok ok hg) e2 kp b .nil pass0 (ok_list (ro X sc ok).1 (e0 :: es)) h1 (star_no hs'.1) (plain_of hs'.2)) fun σ H Q ⟨ρ, st, μ, ex, w, st', er, s, e, q⟩ => ?_
      simp only [evE, hz, hg, hn, hf, and_self, if_true] at e
      obtain ⟨⟨ws, st1⟩, e3, e4⟩ := Option.bind_eq_some_iff.mp e
      refine ⟨ρ, st, μ, ex, ws, st1, er, s, e3, fun μ1 H1 xs x1 s1 r1 => ?_⟩
      dsimp only at e4
      split at e4
      · next hl =>
        show spOf (bd fa X) c.call f d.ps.length (xs ++ []) H1 Q E0
        rw [List.append_nil]
        exact ⟨ws, st1, μ1, ex, w, st', hl, r1, s1, e4, q.ext x1⟩
      · cases e4
  · refine pe_false fun σ H Q ⟨ρ, st, μ, ex, w, st', er, s, e, q⟩ => ?_
    simp only [evE, hz, hg, hn, hf, and_self, if_true] at e
    obtain ⟨⟨ws, st1⟩, e3, e4⟩ := Option.bind_eq_some_iff.mp e
    exact hs (stars_of e3)
def rCW (B : Bd) (f : Str) : List V → Hp → VK → Prop := fun xs H Q => ∃ ws st μ ex w, RA B μ ex H ws xs ∧ S B μ ex H st ∧ callB st f ws = some w ∧ Post B μ ex H w st Q
def rCWf (B : Bd) (f : Str) : List V → Hp → VK → Prop := fun xs H Q => ∃ ws st μ ex w, RA B μ ex H ws xs ∧ S B μ ex H st ∧ callB st f ws = some w ∧ PostF B μ ex H w st Q
/-- a built-in's call -/
theorem bltn_call {f : Str} (ro : RecOk c fa k r) (ok : Ok c fa X sc k) (hf : c.g.fns.lookup f = none) (hb : f ∈ c.g.bs) (p : Pos) (es : List Expr) (pos : Pos) (hz : specOf f es = none) (hg : glB sc f = true) (hn : okName f = true)
    (hc : (∃ id, bootBuiltins f = some (.builtin id) ∧ CallR X (.builtin id) (rCW (bd fa X) f)) ∨ ∃ T, bootBuiltins f = some (.type T) ∧ CallR X (.type T) (rCW (bd fa X) f)) :
    PE X (.Call (.Name f p) es [] pos) (tW (bd fa X) (evE c r sc (.Call (.Name f p) es [] pos))) := by
  obtain ⟨h1, h2, h3⟩ := okName_ok hn
  by_cases hs : noStars es = true
  · cases es with
    | nil =>
      refine pe_false fun σ H Q ⟨ρ, st, μ, ex, w, st', er, s, e, q⟩ => ?_
      simp [evE, hz, hg, hn, hf, hb] at e
    | cons e0 es =>
      have hs' := hs
      simp only [noStars, Bool.and_eq_true, Bool.not_eq_true'] at hs'
      have fin : ∀ σ H Q, tW (bd fa X) (evE c r sc (.Call (.Name f p) (e0 :: es) [] pos)) σ H Q → tCB (rCW (bd fa X) f) (tAs (bd fa X) (evList (r.ev sc) (e0 :: es))) σ H Q := by
        rintro σ H Q ⟨ρ, st, μ, ex, w, st', er, s, e, q⟩
        simp only [evE, hz, hg, hn, hf, hb, and_self, if_true] at e
        obtain ⟨⟨ws, st1⟩, e3, e4⟩ := Option.bind_eq_some_iff.mp e
        obtain ⟨w', e5, e6⟩ := Option.map_eq_some_iff.mp e4
        cases e6
        refine ⟨ρ, st, μ, ex, ws, _, er, s, e3, fun μ1 H1 xs x1 s1 r1 => ?_⟩
        exact ⟨ws, _, μ1, ex, _, r1, s1, e5, q.ext x1⟩
      rcases hc with ⟨id, hv, hc⟩ | ⟨T, hv, hc⟩
      · exact pe_mono (pe_callB hc (gl_ok ok hg) (ok.bs f hb) hv (ok_list (ro X sc ok).1 (e0 :: es)) h3 h1 (star_no hs'.1) (plain_of hs'.2)) fin
      · exact pe_mono (pe_callTy hc (gl_ok ok hg) (ok.bs f hb) hv (ok_list (ro X sc ok).1 (e0 :: es)) h3 h1 (star_no hs'.1) (plain_of hs'.2)) fin
  · refine pe_false fun σ H Q ⟨ρ, st, μ, ex, w, st', er, s, e, q⟩ => ?_
    cases es with
    | nil => exact hs rfl
    | cons e0 es =>
      simp only [evE, hz, hg, hn, hf, hb, and_self, if_true] at e
      obtain ⟨⟨ws, st1⟩, e3, e4⟩ := Option.bind_eq_some_iff.mp e
      exact hs (stars_of e3)

theorem bltn_callF {f : Str} (ro : RecOk c fa k r) (ok : Ok c fa X sc k) (hf : c.g.fns.lookup f = none) (hb : f ∈ c.g.bs) (p : Pos) (es : List Expr) (pos : Pos) (hz : specOf f es = none) (hg : glB sc f = true) (hn : okName f = true)
    (hc : (∃ id, bootBuiltins f = some (.builtin id) ∧ CallR X (.builtin id) (rCWf (bd fa X) f)) ∨ ∃ T, bootBuiltins f = some (.type T) ∧ CallR X (.type T) (rCWf (bd fa X) f)) :
    PE X (.Call (.Name f p) es [] pos) (tWf (bd fa X) (evE c r sc (.Call (.Name f p) es [] pos))) := by
  obtain ⟨h1, h2, h3⟩ := okName_ok hn
  by_cases hs : noStars es = true
  · cases es with
    | nil =>
      refine pe_false fun σ H Q ⟨ρ, st, μ, ex, w, st', er, s, e, q⟩ => ?_
      simp [evE, hz, hg, hn, hf, hb] at e
    | cons e0 es =>
      have hs' := hs
      simp only [noStars, Bool.and_eq_true, Bool.not_eq_true'] at hs'
      have fin : ∀ σ H Q, tWf (bd fa X) (evE c r sc (.Call (.Name f p) (e0 :: es) [] pos)) σ H Q → tCB (rCWf (bd fa X) f) (tAs (bd fa X) (evList (r.ev sc) (e0 :: es))) σ H Q := by
        rintro σ H Q ⟨ρ, st, μ, ex, w, st', er, s, e, q⟩
        simp only [evE, hz, hg, hn, hf, hb, and_self, if_true] at e
        obtain ⟨⟨ws, st1⟩, e3, e4⟩ := Option.bind_eq_some_iff.mp e
        obtain ⟨w', e5, e6⟩ := Option.map_eq_some_iff.mp e4
        cases e6
        refine ⟨ρ, st, μ, ex, ws, _, er, s, e3, fun μ1 H1 xs x1 s1 r1 => ?_⟩
        exact ⟨ws, _, μ1, ex, _, r1, s1, e5, q.ext x1⟩
      rcases hc with ⟨id, hv, hc⟩ | ⟨T, hv, hc⟩
      · exact pe_mono (pe_callB hc (gl_ok ok hg) (ok.bs f hb) hv (ok_list (ro X sc ok).1 (e0 :: es)) h3 h1 (star_no hs'.1) (plain_of hs'.2)) fin
      · exact pe_mono (pe_callTy hc (gl_ok ok hg) (ok.bs f hb) hv (ok_list (ro X sc ok).1 (e0 :: es)) h3 h1 (star_no hs'.1) (plain_of hs'.2)) fin
  · refine pe_false fun σ H Q ⟨ρ, st, μ, ex, w, st', er, s, e, q⟩ => ?_
    cases es with
    | nil => exact hs rfl
    | cons e0 es =>
      simp only [evE, hz, hg, hn, hf, hb, and_self, if_true] at e
      obtain ⟨⟨ws, st1⟩, e3, e4⟩ := Option.bind_eq_some_iff.mp e
      exact hs (stars_of e3)

/-! the built-ins -/
theorem RA.one_inv {μ ex : List Addr} {H : Hp} {B : Bd} {w : W} {xs : List V} (h : RA B μ ex H [w] xs) : ∃ v, xs = [v] ∧ R B μ ex H w v := by
  obtain ⟨v, ys, rfl, r1, r2⟩ := h
  rw [show ys = [] from r2]
  exact ⟨v, rfl, r1⟩
theorem RA.two_inv {μ ex : List Addr} {H : Hp} {B : Bd} {w u : W} {xs : List V} (h : RA B μ ex H [w, u] xs) : ∃ v z, xs = [v, z] ∧ R B μ ex H w v ∧ R B μ ex H u z := by
  obtain ⟨v, ys, rfl, r1, r2⟩ := h
  obtain ⟨z, rfl, r3⟩ := RA.one_inv r2
  exact ⟨v, z, rfl, r1, r3⟩
theorem cb_len : CallR X (.builtin "len") (rCW (bd fa X) "len") := by
  intro pins s σ H xs us Q I rx ⟨ws, st, μ, ex, w, ra, hs, e, q⟩
  unfold callB at e
  rw [if_pos rfl] at e
  split at e
  · next w0 =>
    obtain ⟨n, e1, rfl⟩ := Option.map_eq_some_iff.mp e
    obtain ⟨v, rfl, r1⟩ := RA.one_inv ra
    refine call_len pins s σ H _ us Q I rx ⟨v, n, rfl, ?_, q.now hs rfl⟩
    unfold lenW at e1
    split at e1
    · split at e1
      · next hl => cases e1; subst r1; exact ⟨hl, rfl⟩
      · cases e1
    · cases e1; obtain ⟨a, ys, rfl, f, r2⟩ := r1; exact .inr ⟨ys, f.sq, r2.length⟩
    · cases e1; obtain ⟨a, ys, rfl, f, r2⟩ := r1; exact .inl ⟨ys, f.sq, r2.length⟩
    · cases e1; obtain ⟨a, ys, rfl, f, r2⟩ := r1; exact .inl ⟨ys, f.1.sq, r2.length⟩
    · split at e1
      · next l hst =>
        cases e1
        obtain ⟨a1, rfl, h1⟩ := r1
        obtain ⟨a2, h2, ys, h3, r2⟩ := hs.obj _ _ hst
        rw [h1] at h2
        cases h2
        exact .inl ⟨ys, SqL.of h3, r2.length⟩
      · cases e1
    · cases e1
  · cases e
theorem tyW_ok {μ ex : List Addr} {H : Hp} {w : W} {v : V} {T : String} (r1 : R (bd fa X) μ ex H w v) (e : tyW w = some T) : TyX X.K H v (.type T) := by
  cases w with
  | non => cases e; subst r1; exact .base .non
  | bl b => cases e; subst r1; exact .base (.bl b)
  | int i => cases e; subst r1; exact .base (.int i)
  | str x => cases e; subst r1; exact .base (.str x)
  | tup l =>
    cases e
    obtain ⟨a, xs, rfl, f, _⟩ := r1
    rcases f with ⟨f | ⟨o, f⟩, _, _⟩ | ⟨o, its, n, f, h, _⟩
    · exact .base (.tup f)
    · exact .fTuple f
    · exact .kTuple f h
  | lst l => cases e; obtain ⟨a, xs, rfl, f, _⟩ := r1; exact .base (.lst f.1)
  | rl l =>
    cases e
    obtain ⟨a, xs, rfl, f, _⟩ := r1
    rcases f with ⟨f | ⟨o, f⟩, _, _⟩ | ⟨o, its, n, f, h, _⟩
    · exact .base (.lst f)
    · exact .base (.frz f)
    · exact .kList f h
  | dk ks l => cases e; obtain ⟨a, xs, rfl, f, _⟩ := r1; exact .base (.dK f.1)
  | dt ks l => cases e
  | obj n => cases e
  | fn f => cases e
  | ty n => cases e
  | kd ks l => cases e
theorem tys_ok {μ ex : List Addr} {H : Hp} : ∀ {ws : List W} {xs : List V}, RA (bd fa X) μ ex H ws xs → ws.all isTyW = true → ∃ us, Paired ClsV xs us
  | [], xs, r1, _ => by rw [show xs = [] from r1]; exact ⟨[], .nil⟩
  | w :: ws, _, ⟨x, ys, rfl, r1, r2⟩, e => by
    rw [List.all_cons, Bool.and_eq_true] at e
    cases w <;> first | (cases e.1; done) | skip
    subst r1
    obtain ⟨us, h⟩ := tys_ok r2 e.2
    exact ⟨_ :: us, .cons (.ty _) h⟩
theorem isiAny_ok {μ ex : List Addr} {H : Hp} {t : String} {b : Bool} : ∀ {ws : List W} {xs : List V}, RA (bd fa X) μ ex H ws xs → isiAny t ws = some b → ∃ us, Paired ClsV xs us ∧ PySem.W.kitAny X.K (.type t) us = some b
  | [], xs, r1, e => by
    cases e
    rw [show xs = [] from r1]
    exact ⟨[], .nil, kitAny_nil⟩
  | w :: ws, _, ⟨x, ys, rfl, r1, r2⟩, e => by
    unfold isiAny at e
    obtain ⟨b1, e1, e2⟩ := Option.bind_eq_some_iff.mp e
    cases w <;> first | (cases e1; done) | skip
    next n =>
    subst r1
    cases b1 with
    | true =>
      rw [if_pos rfl] at e2
      split at e2
      case isFalse => cases e2
      next hall =>
      cases e2
      obtain ⟨us, h⟩ := tys_ok r2 hall
      exact ⟨_ :: us, .cons (.ty n) h, kitAny_cons (kit_ty e1) (fun z => by cases z) (fun _ => rfl)⟩
    | false =>
      rw [if_neg (by decide)] at e2
      obtain ⟨us, h1, h2⟩ := isiAny_ok r2 e2
      exact ⟨_ :: us, .cons (.ty n) h1, kitAny_cons (kit_ty e1) (fun _ => h2) (fun z => by cases z)⟩
end
end MP
namespace MZ
open PySem
open PySem.Sem (wp)
section
variable {P : Program} {W : World} {A : Around} {E : Value → Shared → Prop} {s : Shared} {z C D T p q a b : Addr} {f : Bool} {oT : Obj} {m n : Nat} {us vs : Array Value}
/-- the next pair while the last one is still in use, two tuples walked -/
theorem pair_next {x y : Value} {R : Value → Shared → Prop} (ap : ZipApart z C D p q a b) (hz : IsZipHeld s.heap z C D T f) (hT : s.heap.get? T = some oT) (hC : IsPair s.heap C (.ref p) (.ref q))
    (hp : s.heap.IsTupleIter p a m) (hq : s.heap.IsTupleIter q b n) (ha : s.heap.IsTuple a us) (hb : s.heap.IsTuple b vs) (hx : us[m]? = some x) (hy : vs[n]? = some y)
    (k : ∀ g, IsZipHeld g z C D T true → g.IsTupleIter p a (m + 1) → g.IsTupleIter q b (n + 1) → IsPair g s.heap.objs.size x y → g.objs.size = s.heap.objs.size + 1 →
      (∀ c o, c ≠ z → c ≠ p → c ≠ q → s.heap.get? c = some o → g.get? c = some o) → R (.ref s.heap.objs.size) { s with heap := g }) :
    wpAny (model P W) A (Builtin.«zip.__next__» ⟨[.ref z], []⟩) (fun fin s' => ∃ v, fin = .done (.ret v) ∧ R v s') E s := by
  show wpAny _ _ (field _ 2 >>= _) _ _ _
  apply wpAny_bind
  apply wpAny_field hz rfl (x := Value.bool false) rfl
  show wpAny _ _ (field _ 3 >>= _) _ _ _
  apply wpAny_bind
  apply wpAny_field hz rfl (x := Value.ref C) rfl
  apply wpAny_bind
  apply wpAny_seqItems hC rfl
  show wpAny _ _ (Builtin.SmallTypes.ownedTupleIsFree _ >>= _) _ _ _
  refine wpAny_bind (wpAny_tupleHeld_zip hz hT fun g1 z1 k1 => ?_)
  rw [if_neg (by decide)]
  apply wpAny_bind
  rw [← Array.forIn_toList]
  simp only [List.forIn_cons, List.forIn_nil]
  apply wpAny_bind
  refine wpAny_bind (wpAny_holding ?_)
  show wpAny _ _ (Builtin.SmallTypes.nextOf (Value.ref p) >>= _) _ _ _
  refine wpAny_bind (wpAny_nextOf_tuple_item (s := { s with heap := g1 }) (hp.extBut k1.extBut ap.i1z) (ha.extBut k1.extBut ap.l1z) hx fun g2 p2 k2 => wpAny_pure (wpAny_pure ?_))
  apply wpAny_bind
  refine wpAny_bind (wpAny_holding ?_)
  show wpAny _ _ (Builtin.SmallTypes.nextOf (Value.ref q) >>= _) _ _ _
  refine wpAny_bind (wpAny_nextOf_tuple_item (s := { s with heap := g2 }) ((hq.extBut k1.extBut ap.i2z).extBut k2.extBut ap.i12.symm) ((hb.extBut k1.extBut ap.l2z).extBut k2.extBut ap.l2i1) hy fun g3 q3 k3 => wpAny_pure (wpAny_pure ?_))
  apply wpAny_pure
  show wpAny _ _ (newTuple [x, y] >>= _) _ _ _
  apply wpAny_bind
  refine wpAny_newTuple ?_
  have e3 : g3.objs.size = s.heap.objs.size := k3.1.trans (k2.1.trans k1.1)
  have z3 := k3.extBut _ _ ap.i2z.symm (k2.extBut _ _ ap.i1z.symm z1)
  have p3 := p2.extBut k3.extBut ap.i12
  apply wpAny_pure
  refine ⟨_, rfl, ?_⟩
  show R (.ref g3.objs.size) _
  have new : IsPair (g3.push { cls := .type "tuple", data := .seq #[x, y] }) g3.objs.size x y := Heap.get?_push_size _ rfl
  have sz : (g3.push { cls := .type "tuple", data := .seq #[x, y] }).objs.size = g3.objs.size + 1 := Heap.size_push ..
  rw [e3] at new sz ⊢
  refine k _ (Heap.get?_push_of_some _ z3) (p3.at fun o e => Heap.get?_push_of_some _ e) (q3.at fun o e => Heap.get?_push_of_some _ e) new sz fun c o n1 n2 n3 e => ?_
  exact Heap.get?_push_of_some _ (k3.extBut _ _ n3 (k2.extBut _ _ n2 (k1.extBut _ _ n1 e)))
theorem pair_stop {Q : Fin → Shared → Prop} (hh : A.handled = none) (ap : ZipApart z C D p q a b) (hz : IsZipHeld s.heap z C D T f) (hT : s.heap.get? T = some oT) (hC : IsPair s.heap C (.ref p) (.ref q))
    (hp : s.heap.IsTupleIter p a m) (hq : s.heap.IsTupleIter q b n) (ha : s.heap.IsTuple a us) (hb : s.heap.IsTuple b vs) (hend : us[m]? = none ∨ vs[n]? = none)
    (k : ∀ g e, (∀ c o, c ≠ z → c ≠ p → c ≠ q → s.heap.get? c = some o → g.get? c = some o) → (∃ o, g.get? e = some o ∧ o.cls = .type "StopIteration") → E (.ref e) { s with heap := g }) :
    wpAny (model P W) A (Builtin.«zip.__next__» ⟨[.ref z], []⟩) Q E s := by
  show wpAny _ _ (field _ 2 >>= _) _ _ _
  apply wpAny_bind
  apply wpAny_field hz rfl (x := Value.bool false) rfl
  show wpAny _ _ (field _ 3 >>= _) _ _ _
  apply wpAny_bind
  apply wpAny_field hz rfl (x := Value.ref C) rfl
  apply wpAny_bind
  apply wpAny_seqItems hC rfl
  show wpAny _ _ (Builtin.SmallTypes.ownedTupleIsFree _ >>= _) _ _ _
  refine wpAny_bind (wpAny_tupleHeld_zip hz hT fun g1 z1 k1 => ?_)
  rw [if_neg (by decide)]
  apply wpAny_bind
  rw [← Array.forIn_toList]
  simp only [List.forIn_cons, List.forIn_nil]
  apply wpAny_bind
  refine wpAny_bind (wpAny_holding ?_)
  show wpAny _ _ (Builtin.SmallTypes.nextOf (Value.ref p) >>= _) _ _ _
  cases hx : us[m]? with
  | none =>
    refine wpAny_bind (wpAny_nextOf_tuple_end (s := { s with heap := g1 }) hh (hp.extBut k1.extBut ap.i1z) (ha.extBut k1.extBut ap.l1z) hx fun g2 e k2 he => ?_)
    exact k g2 e (fun c o n1 n2 _ x => k2 _ _ n2 (k1.extBut _ _ n1 x)) he
  | some x =>
    have hy : vs[n]? = none := hend.elim (fun h => by rw [hx] at h; cases h) id
    refine wpAny_bind (wpAny_nextOf_tuple_item (s := { s with heap := g1 }) (hp.extBut k1.extBut ap.i1z) (ha.extBut k1.extBut ap.l1z) hx fun g2 p2 k2 => wpAny_pure (wpAny_pure ?_))
    apply wpAny_bind
    refine wpAny_bind (wpAny_holding ?_)
    show wpAny _ _ (Builtin.SmallTypes.nextOf (Value.ref q) >>= _) _ _ _
    refine wpAny_bind (wpAny_nextOf_tuple_end (s := { s with heap := g2 }) hh ((hq.extBut k1.extBut ap.i2z).extBut k2.extBut ap.i12.symm) ((hb.extBut k1.extBut ap.l2z).extBut k2.extBut ap.l2i1) hy fun g3 e k3 he => ?_)
    exact k g3 e (fun c o n1 n2 n3 x => k3 _ _ n3 (k2.extBut _ _ n2 (k1.extBut _ _ n1 x))) he
theorem nx_pair {x y : Value} {R : Option Value → Shared → Prop} (ap : ZipApart z C D p q a b) (hz : IsZipHeld s.heap z C D T f) (hT : s.heap.get? T = some oT) (hC : IsPair s.heap C (.ref p) (.ref q))
    (hp : s.heap.IsTupleIter p a m) (hq : s.heap.IsTupleIter q b n) (ha : s.heap.IsTuple a us) (hb : s.heap.IsTuple b vs) (hx : us[m]? = some x) (hy : vs[n]? = some y)
    (k : ∀ g, IsZipHeld g z C D T true → g.IsTupleIter p a (m + 1) → g.IsTupleIter q b (n + 1) → IsPair g s.heap.objs.size x y → g.objs.size = s.heap.objs.size + 1 →
      (∀ c o, c ≠ z → c ≠ p → c ≠ q → s.heap.get? c = some o → g.get? c = some o) → R (some (.ref s.heap.objs.size)) { s with heap := g }) :
    wpAny (model P W) A (pyNext (.ref z)) R E s := by
  have ty : s.TypeIs (.ref z) "zip" := ⟨_, hz, rfl⟩
  unfold pyNext
  refine wpAny_bind (wpAny_attempt (wpAny_callSpecial?_slot (name := Str.ofString "__next__") ty F.slot_zip_next (wpAny_call_entry F.slot_zip_next ty F.entry_zip_next ?_ (F.args_zip_next_1 _))))
  exact pair_next ap hz hT hC hp hq ha hb hx hy fun g a1 a2 a3 a4 a5 a6 => wpAny_pure (k g a1 a2 a3 a4 a5 a6)
theorem nx_stop {R : Option Value → Shared → Prop} (hh : A.handled = none) (ap : ZipApart z C D p q a b) (hz : IsZipHeld s.heap z C D T f) (hT : s.heap.get? T = some oT) (hC : IsPair s.heap C (.ref p) (.ref q))
    (hp : s.heap.IsTupleIter p a m) (hq : s.heap.IsTupleIter q b n) (ha : s.heap.IsTuple a us) (hb : s.heap.IsTuple b vs) (hend : us[m]? = none ∨ vs[n]? = none)
    (k : ∀ g, (∀ c o, c ≠ z → c ≠ p → c ≠ q → s.heap.get? c = some o → g.get? c = some o) → R none { s with heap := g }) : wpAny (model P W) A (pyNext (.ref z)) R E s := by
  have ty : s.TypeIs (.ref z) "zip" := ⟨_, hz, rfl⟩
  unfold pyNext
  refine wpAny_bind (wpAny_attempt (wpAny_callSpecial?_slot (name := Str.ofString "__next__") ty F.slot_zip_next (wpAny_call_entry F.slot_zip_next ty F.entry_zip_next ?_ (F.args_zip_next_1 _))))
  refine pair_stop hh ap hz hT hC hp hq ha hb hend fun g e k1 he => ?_
  obtain ⟨o, ho, hc⟩ := he
  exact wpAny_bind (wpAny_isInstance (T := "StopIteration") (b := true) ⟨o, ho, hc⟩ isSubtype_stop (wpAny_pure (k _ k1)))
end
/-- what zip of two tuples is to dict() -/
def ZOk (z C D p q a b : Addr) (us vs : Array Value) (h : Heap) : Prop :=
  IsZip h z C D .none ∧ IsPair h C (.ref p) (.ref q) ∧ (∃ x y, IsPair h D x y) ∧ h.IsTupleIter p a 0 ∧ h.IsTupleIter q b 0 ∧ h.IsTuple a us ∧ h.IsTuple b vs
def ZSt (d z C D p q a b : Addr) (us vs : Array Value) (i : Nat) (h : Heap) : Prop :=
  IsPair h C (.ref p) (.ref q) ∧ h.IsTupleIter p a i ∧ h.IsTupleIter q b i ∧ h.IsTuple a us ∧ h.IsTuple b vs ∧
    ((IsZip h z C D .none ∧ ∃ x y, IsPair h D x y) ∨ ∃ T f o, IsZipHeld h z C D T f ∧ h.get? T = some o ∧ T ≠ z ∧ T ≠ p ∧ T ≠ q ∧ T ≠ d)
section
variable {P : Program} {W : World} {A : Around} {d z C D p q a b : Addr} {us vs : Array Value}
theorem zsrc (ap : ZipApart z C D p q a b) (hA : A.handled = none) (hd : d ∉ [z, C, D, p, q, a, b]) :
    PairSrc P W A z d [z, D, p, q] (min us.size vs.size) (fun i k v => us[i]? = some k ∧ vs[i]? = some v) (ZSt d z C D p q a b us vs) := by
  simp only [List.mem_cons, List.not_mem_nil, or_false, not_or] at hd
  obtain ⟨dz, dC, dD, dp, dq, da, db⟩ := hd
  refine ⟨?_, ?_, ?_, ?_⟩
  · simp only [List.mem_cons, List.not_mem_nil, or_false, not_or]
    exact ⟨dz, dD, dp, dq⟩
  · rintro i h g ⟨hC, hp, hq, ha, hb, hz⟩ k
    refine ⟨k _ _ (Ne.symm dC) hC, hp.at fun o e => k _ o (Ne.symm dp) e, hq.at fun o e => k _ o (Ne.symm dq) e, ha.at fun o e => k _ o (Ne.symm da) e, hb.at fun o e => k _ o (Ne.symm db) e, ?_⟩
    rcases hz with ⟨hz, x, y, hD⟩ | ⟨T, f, o, hz, hT, t1, t2, t3, t4⟩
    · exact .inl ⟨k _ _ (Ne.symm dz) hz, x, y, k _ _ (Ne.symm dD) hD⟩
    · exact .inr ⟨T, f, o, k _ _ (Ne.symm dz) hz, k _ _ t4 hT, t1, t2, t3, t4⟩
  · rintro i s Q E hi ⟨hC, hp, hq, ha, hb, hz⟩ hds hQ
    have i1 : i < us.size := by omega
    have i2 : i < vs.size := by omega
    have e1 := Array.getElem?_eq_getElem i1
    have e2 := Array.getElem?_eq_getElem i2
    have lt : ∀ {c o}, s.heap.get? c = some o → s.heap.objs.size ≠ c := fun e => Nat.ne_of_gt (Heap.lt_size e)
    have np : s.heap.objs.size ≠ p := let ⟨_, e, _⟩ := hp; lt e
    have nq : s.heap.objs.size ≠ q := let ⟨_, e, _⟩ := hq; lt e
    rcases hz with ⟨hz, x, y, hD⟩ | ⟨T, f, o, hz, hT, t1, t2, t3, t4⟩
    · refine RZ.pyNext_zipT_item ap hz hC hD hp hq ha hb e1 e2 fun g a1 a2 a3 a4 a5 a6 k => ?_
      refine hQ s.heap.objs.size _ _ g s.toks ⟨e1, e2⟩ (.inl ⟨_, a5, rfl, _, rfl⟩) ⟨k _ _ ap.TIz ap.TITO ap.TIi1 ap.TIi2 hC, a3, a4, ha.at fun o e => k _ o ap.l1z ap.l1TO ap.l1i1 ap.l1i2 e, hb.at fun o e => k _ o ap.l2z ap.l2TO ap.l2i1 ap.l2i2 e, .inr ⟨s.heap.objs.size, false, _, a1, a5, lt hz, np, nq, Nat.ne_of_gt hds⟩⟩ fun c o hc e => ?_
      simp only [List.mem_cons, List.not_mem_nil, or_false, not_or] at hc
      exact k c o hc.1 hc.2.1 hc.2.2.1 hc.2.2.2 e
    · refine nx_pair ap hz hT hC hp hq ha hb e1 e2 fun g a1 a3 a4 a5 a6 k => ?_
      refine hQ s.heap.objs.size _ _ g s.toks ⟨e1, e2⟩ (.inl ⟨_, a5, rfl, _, rfl⟩) ⟨k _ _ ap.TIz ap.TIi1 ap.TIi2 hC, a3, a4, ha.at fun o e => k _ o ap.l1z ap.l1i1 ap.l1i2 e, hb.at fun o e => k _ o ap.l2z ap.l2i1 ap.l2i2 e, .inr ⟨T, true, o, a1, k _ _ t1 t2 t3 hT, t1, t2, t3, t4⟩⟩ fun c o hc e => ?_
      simp only [List.mem_cons, List.not_mem_nil, or_false, not_or] at hc
      exact k c o hc.1 hc.2.2.1 hc.2.2.2 e
  · rintro s Q E ⟨hC, hp, hq, ha, hb, hz⟩ hQ
    have he : us[min us.size vs.size]? = none ∨ vs[min us.size vs.size]? = none := by
      by_cases h : us.size ≤ vs.size
      · exact .inl (Array.getElem?_eq_none (by omega))
      · exact .inr (Array.getElem?_eq_none (by omega))
    rcases hz with ⟨hz, x, y, hD⟩ | ⟨T, f, o, hz, hT, t1, t2, t3, t4⟩
    · refine RZ.pyNext_zipT_end hA ap hz hC hD hp hq ha hb he fun g k => hQ g s.toks fun c o hc e => ?_
      simp only [List.mem_cons, List.not_mem_nil, or_false, not_or] at hc
      exact k c o hc.1 hc.2.1 hc.2.2.1 hc.2.2.2 e
    · refine nx_stop hA ap hz hT hC hp hq ha hb he fun g k => hQ g s.toks fun c o hc e => ?_
      simp only [List.mem_cons, List.not_mem_nil, or_false, not_or] at hc
      exact k c o hc.1 hc.2.2.1 hc.2.2.2 e
theorem zarg (ap : ZipApart z C D p q a b) : PairArg P W "zip" z [z, C, D, p, q, a, b] [z, D, p, q] (min us.size vs.size) (fun i k v => us[i]? = some k ∧ vs[i]? = some v) (ZOk z C D p q a b us vs) where
  type := fun s ok => ⟨_, ok.1, rfl⟩
  notDict := by decide
  keep := fun h g ok k => by
    obtain ⟨hz, hC, ⟨x, y, hD⟩, hp, hq, ha, hb⟩ := ok
    exact ⟨k _ _ hz, k _ _ hC, ⟨x, y, k _ _ hD⟩, hp.at fun o e => k _ o e, hq.at fun o e => k _ o e, ha.at fun o e => k _ o e, hb.at fun o e => k _ o e⟩
  there := fun h ok c hc => by
    obtain ⟨hz, hC, ⟨x, y, hD⟩, ⟨o1, h1, _⟩, ⟨o2, h2, _⟩, ⟨o3, h3, _⟩, ⟨o4, h4, _⟩⟩ := ok
    simp only [List.mem_cons, List.not_mem_nil, or_false] at hc
    rcases hc with rfl | rfl | rfl | rfl | rfl | rfl | rfl
    · exact ⟨_, hz⟩
    · exact ⟨_, hC⟩
    · exact ⟨_, hD⟩
    · exact ⟨_, h1⟩
    · exact ⟨_, h2⟩
    · exact ⟨_, h3⟩
    · exact ⟨_, h4⟩
  sub := fun c hc => by
    simp only [List.mem_cons, List.not_mem_nil, or_false] at hc ⊢
    rcases hc with rfl | rfl | rfl | rfl <;> simp
  noKeys := fun A s Q E hA ok h => getAttrOr_miss_zip ok.1 rfl rfl rfl zip_no_keys (by decide +kernel) hA h
  iter := fun A s d Q E hA ok hd hdf h => by
    have src := zsrc (P := P) (W := W) (us := us) (vs := vs) ap hA hdf
    obtain ⟨hz, hC, ⟨x, y, hD⟩, hp, hq, ha, hb⟩ := ok
    exact wpAny_pyIter_zip hz (h z _ _ s.heap s.toks src ⟨hC, hp, hq, ha, hb, .inl ⟨hz, x, y, hD⟩⟩ (fun _ _ e => e) fun c hc => .inl hc)
end
end MZ
namespace MZ
open PySem
open PySem.Sem (wp)
set_option maxHeartbeats 1000000 in
theorem new_enum {v : Value} {o : Obj} {G : Heap → Prop} (B : Begins v o G) :
    Meets (Builtin.«enumerate.__new__» ⟨[.type "enumerate", v], []⟩) (fun _ R s => G s.heap ∧
      R (.ok (.ret (.ref (s.heap.push o).objs.size))) { s with heap := (s.heap.push o).push { cls := .type "enumerate", data := .fields #[.none, .bool false, .ref s.heap.objs.size, rawInt 0, .none, .none] } }) :=
  .of_wp fun P W A R s ⟨h1, h2⟩ => by
    obtain ⟨hp, g, d, tk, os⟩ := s
    have hs := sub_enumerate
    have go : ∀ {A' : Around} {E : Value → Shared → Prop} {Q : Value → Shared → Prop}, Q (.ref hp.objs.size) ⟨hp.push o, g, d, tk, os⟩ → wpAny (model P W) A' (pyIter v) Q E ⟨hp, g, d, tk, os⟩ :=
      fun q => B.iter P W _ _ ⟨hp, g, d, tk, os⟩ _ h1 q
    wp_walk using go
    refine wpAny_stack_any fun st => wpAny_pure ?_
    split
    · rename_i c _ _ _ _ _
      cases (c == Value.type "enumerate")
      · wp_walk using go
        exact ⟨_, rfl, h2⟩
      · wp_walk using go
        exact ⟨_, rfl, h2⟩
    · wp_walk using go
      exact ⟨_, rfl, h2⟩
section
variable {P : Program} {W : World} {A : Around} {E : Value → Shared → Prop} {s : Shared}
/-- enumerate(x) -/
theorem enum_one {v : Value} {o : Obj} {G : Heap → Prop} {Q : Value → Shared → Prop} (B : Begins v o G) (h1 : G s.heap)
    (k : ∀ g, IsEnum g (s.heap.objs.size + 1) s.heap.objs.size 0 .none → g.get? s.heap.objs.size = some o → (∀ b u, s.heap.get? b = some u → g.get? b = some u) → Q (.ref (s.heap.objs.size + 1)) { s with heap := g }) :
    wpAny (model P W) A (call (.type "enumerate") [v]) Q E s := by
  refine callType_new F.called_enumerate (by decide) (F.typeCall_enumerate_1 _) (F.newCall_enumerate_1 _) (fun obj => F.args_object_init_2 obj _) F.entry_enumerate_new (new_enum B) ⟨h1, ?_⟩
  have sz : (s.heap.push o).objs.size = s.heap.objs.size + 1 := by rw [Heap.size_push]
  have h2 := Heap.get?_push_size (s.heap.push o) (o := { cls := .type "enumerate", data := .fields #[.none, .bool false, .ref s.heap.objs.size, rawInt 0, .none, .none] }) rfl
  rw [sz] at h2
  show _ ∧ _
  rw [sz]
  exact ⟨⟨_, h2, rfl⟩, k _ h2 (Heap.get?_push_of_some _ (Heap.get?_push_size _ B.free)) fun b u e => Heap.get?_push_of_some _ (Heap.get?_push_of_some _ e)⟩
/-- the first best of two -/
theorem pick_two {op : CmpOp} {bt : Nat → Nat → Bool} {a b : Value} {Q : Value → Shared → Prop} (hh : A.handled = none) (cm : CmpOf P W A.in1 op (fun i v => #[a, b][i]? = some v) bt)
    (k : ∀ g tk, (∀ c o, s.heap.get? c = some o → g.get? c = some o) → Q (if bt 1 0 = true then b else a) { s with heap := g, toks := tk }) :
    wpAny (model P W) A.in1 (pyIter (.ref s.heap.objs.size)) (fun it s₂ => ∃ I fp wr n R St bt, it = .ref I ∧ Walks P W A.in1 I fp wr n R St ∧ St 0 s₂.heap ∧ (∀ b ∈ fp, b < s₂.heap.objs.size) ∧ 0 < n ∧ CmpOf P W A.in1 op R bt ∧
      ∀ v h' tk, R (argBest bt (n - 1)) v → (∀ b o, b ∉ wr → s₂.heap.get? b = some o → h'.get? b = some o) → Q v { s₂ with heap := h', toks := tk }) E
      { s with heap := s.heap.push { cls := .type "tuple", data := .seq #[a, b] } } := by
  have tp : (s.heap.push { cls := .type "tuple", data := .seq #[a, b] }).IsTuple s.heap.objs.size #[a, b] := ⟨_, Heap.get?_push_size _ rfl, rfl, 0, rfl⟩
  have sz : (s.heap.push { cls := .type "tuple", data := .seq #[a, b] }).objs.size = s.heap.objs.size + 1 := Heap.size_push ..
  refine wpAny_pyIter_tuple tp ⟨_, [_, s.heap.objs.size], [_], _, _, _, _, rfl, Walks.tuple (A := A.in1) hh _ s.heap.objs.size (by rw [sz]; exact Nat.ne_of_lt (Nat.lt_succ_self _)) #[a, b], ⟨⟨_, Heap.get?_push_size _ rfl, rfl, rfl⟩, tp.push _⟩, fun c hc => ?_, by simp, cm, fun v g tk hv kp => ?_⟩
  · show c < ((s.heap.push _).push _).objs.size
    rw [Heap.size_push, sz]
    simp only [List.mem_cons, List.not_mem_nil, or_false] at hc
    rcases hc with rfl | rfl
    · rw [sz]; exact Nat.lt_succ_self _
    · exact Nat.lt_succ_of_lt (Nat.lt_succ_self _)
  · have e1 : v = if bt 1 0 = true then b else a := by
      cases e2 : bt 1 0 <;> simp [argBest, e2] at hv <;> simp [hv]
    rw [e1]
    refine k g tk fun c o e => kp c o (fun hm => ?_) (Heap.get?_push_of_some _ (Heap.get?_push_of_some _ e))
    simp only [List.mem_cons, List.not_mem_nil, or_false] at hm
    have := Heap.lt_size e
    rw [hm, sz] at this
    exact Nat.lt_irrefl _ (Nat.lt_of_succ_lt this)
theorem two_at {x y : Str} {t u : Tok} {i : Nat} {v : Value} (h : #[Value.str x t, Value.str y u][i]? = some v) : v = .str (#[x, y].getD i ⟨#[]⟩) (#[t, u].getD i t) := by
  match i, h with
  | 0, h => cases h; rfl
  | 1, h => cases h; rfl
  | n + 2, h => simp at h
theorem min_txt {x y : Str} {t u : Tok} {Q : Value → Shared → Prop} (hh : A.handled = none)
    (k : ∀ g tk, (∀ c o, s.heap.get? c = some o → g.get? c = some o) → Q (if decide (y.cps.toList < x.cps.toList) = true then .str y u else .str x t) { s with heap := g, toks := tk }) :
    wpAny (model P W) A (call (.builtin "min") [.str x t, .str y u]) Q E s := by
  refine call_min_two (pick_two (op := .Lt) (bt := fun i j => decide ((#[x, y].getD i ⟨#[]⟩).cps.toList < (#[x, y].getD j ⟨#[]⟩).cps.toList)) hh (fun i j vi vj s Q E hi hj h => ?_) k)
  rw [two_at hi, two_at hj]
  exact PyProof.Rows.lt_str h
theorem max_txt {x y : Str} {t u : Tok} {Q : Value → Shared → Prop} (hh : A.handled = none)
    (k : ∀ g tk, (∀ c o, s.heap.get? c = some o → g.get? c = some o) → Q (if decide (x.cps.toList < y.cps.toList) = true then .str y u else .str x t) { s with heap := g, toks := tk }) :
    wpAny (model P W) A (call (.builtin "max") [.str x t, .str y u]) Q E s := by
  refine call_max_two (pick_two (op := .Gt) (bt := fun i j => decide ((#[x, y].getD j ⟨#[]⟩).cps.toList < (#[x, y].getD i ⟨#[]⟩).cps.toList)) hh (fun i j vi vj s Q E hi hj h => ?_) k)
  rw [two_at hi, two_at hj]
  exact PySem.P.gt_str h
end
end MZ
namespace MP
open PySem L2 PySem.Spec PyProof.Rows
/-- enumerate over the tuple at a -/
def ItE (K : PySem.W.Frag) (a : Addr) : It where
  go := fun i H => ∃ (xs : List V) (x : V), SqT K H a xs ∧ xs[i]? = some x
  yld := fun i H v H' => ∃ T x, v = .ref T ∧ H T = none ∧ H' = upd H T (.tup [.int (i : Nat), x]) ∧ ∀ xs, SqT K H a xs → xs[i]? = some x
  stop := fun i H => ∃ xs : List V, SqT K H a xs ∧ xs.length = i
theorem turnE {P : Program} {w : World} {K : PySem.W.Frag} {elts : List Expr} {kk : Nat} {tpos : Pos} (a e it : Addr) (hai : a ≠ it) :
    Turn P w K (.Tuple elts kk tpos) (ItE K a) [e, it] e (fun i h => (∃ old, IsEnum h e it ((i : Nat) : Int) old) ∧ h.IsTupleIter it a i ∧ e ≠ it ∧ e ≠ a) where
  mem := by simp
  obj := fun i h ⟨⟨old, he⟩, ⟨o, ho, hc, hd⟩, _⟩ b hb => by
    rcases (show b = e ∨ b = it by simpa using hb) with rfl | rfl
    · exact ⟨_, he, fun v q => nomatch q⟩
    · exact ⟨o, ho, fun v q => by rw [hd] at q; cases q⟩
  keep := fun i h h' ⟨⟨old, he⟩, hi, hne⟩ k => ⟨⟨old, k e (by simp) _ he⟩, hi.at fun o q => k it (by simp) o q, hne⟩
  item := by
    intro X hP hw hK hc i pins s σ H E I hf ⟨⟨old, he⟩, hit, hne, hea⟩ ⟨xs, x, hq, hx⟩
    subst hP hw hK
    obtain ⟨its, rv, p, hz⟩ := I.tuple hq
    obtain ⟨u, hu, ru⟩ := rv.get hx
    have l1 : e < s.heap.objs.size := Heap.lt_size he
    have l2 : it < s.heap.objs.size := by obtain ⟨_, q, _⟩ := hit; exact Heap.lt_size q
    have hi : i < its.toArray.size := by
      have := (List.getElem?_eq_some_iff.mp hu).1
      simpa using this
    have dr := Draws.tuple (prog := X.prog) (w := X.w) (A := X.A.in1) (I.ok.hd hc) it a hai its.toArray
    refine wpAny_pyNext_enum_itemD dr he (show _ ∧ _ from ⟨hit, p⟩) hi hne (by simp [hne, hea]) fun y g tk hy ho ⟨hit', _⟩ hT hsz k => ?_
    have : y = u := by
      have h1 : its.toArray[i]? = some u := by simpa using hu
      rw [h1] at hy
      exact (Option.some.inj hy).symm
    subst this
    refine ⟨_, rfl, wpAny_letOwnedTupleGo_enum (s := { s with heap := g, toks := tk + 1 }) ho fun g2 he' sb => ?_⟩
    have hT2 := (sb.2 _ (Nat.ne_of_gt l1)).trans hT
    have new : ObjOk X.prog X.w (upd H s.heap.objs.size (.tup [.int (i : Nat), x])) g2 s.heap.objs.size (.tup [.int (i : Nat), x]) :=
      ⟨by show 2 ≤ sizeLine; decide, [.int i tk, y], .cons ⟨_, rfl⟩ (.cons ru .nil), ⟨_, hT2, rfl, _, rfl⟩⟩
    have I1 : Inv X pins σ (upd H s.heap.objs.size (.tup [.int (i : Nat), x])) { s with heap := g2, toks := tk + 1 } := by
      refine I.turnedNew (ch := [e, it]) (fun b ob hb q => ?_) hf (Nat.le_refl _) new
      have n1 : b ≠ e := fun z => hb (by simp [z])
      have n2 : b ≠ it := fun z => hb (by simp [z])
      exact (sb.2 b n1).trans (k b ob n1 n2 q)
    refine ⟨.ref s.heap.objs.size, _, I1, rfl, ⟨_, x, rfl, I.hok.fresh (Nat.le_refl _), rfl, fun ys hy => by rw [I.tuple_inj hy hq]; exact hx⟩, ⟨⟨y, ?_⟩, hit'.at fun o q => (sb.2 it (Ne.symm hne)).trans q, hne, hea⟩, fun b hb => ?_⟩
    · rw [show ((i + 1 : Nat) : Int) = (i : Int) + 1 by omega]
      exact he'
    · rw [upd_ne (Nat.ne_of_lt (show b < s.heap.objs.size from ?_))]
      · exact (hf b hb).1
      · rcases (show b = e ∨ b = it by simpa using hb) with rfl | rfl
        · exact l1
        · exact l2
  done := by
    intro X hP hw hK hc i pins s σ H E I hf ⟨⟨old, he⟩, hit, hne, hea⟩ ⟨xs, hq, hx⟩
    subst hP hw hK
    obtain ⟨its, rv, p, hz⟩ := I.tuple hq
    obtain ⟨f0, f1, f2, f3, f4, f5⟩ := hf it (by simp)
    have hl := rv.length
    have dr := Draws.tuple (prog := X.prog) (w := X.w) (A := X.A.in1) (I.ok.hd hc) it a hai its.toArray
    have hi : i = its.toArray.size := by rw [← hx, hl]; simp
    refine wpAny_pyNext_enum_endD dr he (show _ ∧ _ from ⟨hi ▸ hit, p⟩) fun g eb => ⟨rfl, I.turned (t' := s.toks) (fun b o hb q => eb b o hb q) f0 f1 f3 f4 f5⟩
  self := fun A i s Q E ⟨⟨_, he⟩, _⟩ h => wpAny_pyIter_enum he h
theorem walkE {K : PySem.W.Frag} {a : Addr} {xs : List V} : L2.Walk (ItE K a) xs.length (fun H => SqT K H a xs) (YPair (fun i => some (.int (i : Nat))) (fun i => xs[i]?)) := by
  refine ⟨fun i _ hi q => ⟨xs, xs[i], q, by simp [hi]⟩, fun _ q => ⟨xs, q, rfl⟩, fun i H v H' _ q ⟨T, x, h1, h2, h3, h4⟩ => ?_⟩
  exact ⟨T, .int (i : Nat), x, h1, h2, h3, rfl, h4 xs q⟩
/-- for .. in enumerate(x), x a tuple or a list -/
def iEnumA (K : PySem.W.Frag) (ta : TA) : TI := fun σ H R => ta σ H fun vs H1 => ∃ a xs, vs = [.ref a] ∧ ((SqL K H1 a xs ∧ R (Ite K a) H1) ∨ (SqT K H1 a xs ∧ R (ItE K a) H1))
theorem pi_enumA {X : Cx} {e : Expr} {ta : TA} {p pos tpos : Pos} {elts : List Expr} {kk : Nat} (hg : Gl X "enumerate") (hm : X.mg "enumerate" = none) (ha : PA X [e] ta) (hs : starEach [e] X.env = [(false, eval e X.env)]) :
    PI X (.Tuple elts kk tpos) (.Call (.Name "enumerate" p) [e] [] pos) (iEnumA X.K ta) := by
  refine ⟨fun pins s σ H R I h => Call_ (ld_blt I hg hm boot_enumerate (PyProof.Rows.callWith_type1 (thn (ha.run pos pins s σ H _ I h) ?_) hs rfl))⟩
  rintro us s1 ⟨vs, H1, I1, r1, a, xs, rfl, q⟩
  obtain ⟨u, rfl, ru⟩ := vals1 r1
  cases ru
  have fp : ∀ b ∈ [s1.heap.objs.size + 1, s1.heap.objs.size], FpOk X pins H1 b := fun b hb => by
    have hle : s1.heap.objs.size ≤ b := by
      rcases (show b = s1.heap.objs.size + 1 ∨ b = s1.heap.objs.size by simpa using hb) with z | z <;> omega
    exact I1.fpOk hle (I1.hok.fresh hle)
  rcases q with ⟨hq, q⟩ | ⟨hq, q⟩
  · obtain ⟨its, rv, p', hz⟩ := I1.list hq
    refine call_enumerate_list p'.isList fun g he hit _ hk => wpAny_pyIter_enum he ?_
    exact ⟨_, [s1.heap.objs.size + 1, s1.heap.objs.size], _, _, H1, rfl, I1.kept (t' := s1.toks) hk, turn_enum a (s1.heap.objs.size + 1) s1.heap.objs.size, ⟨⟨.none, he⟩, hit, Nat.succ_ne_self _⟩, fp, q⟩
  · obtain ⟨its, rv, p', hz⟩ := I1.tuple hq
    obtain ⟨o, ho, _⟩ := id p'
    have la : a < s1.heap.objs.size := Heap.lt_size ho
    refine MZ.enum_one (begins_tuple a its.toArray) p' fun g he hit hk => wpAny_pyIter_enum he ?_
    refine ⟨_, [s1.heap.objs.size + 1, s1.heap.objs.size], _, _, H1, rfl, I1.kept (t' := s1.toks) hk, turnE a (s1.heap.objs.size + 1) s1.heap.objs.size (Nat.ne_of_lt la), ⟨⟨.none, he⟩, ⟨_, hit, rfl, rfl⟩, Nat.succ_ne_self _, ?_⟩, fp, q⟩
    exact fun z => by rw [← z] at la; exact Nat.not_lt.mpr (Nat.le_succ _) la
end MP
namespace MP
open PySem L2 PySem.Spec PyProof.Rows

/-! texts in their order -/
def LeS (a b : Str) : Prop := ¬ b.cps.toList < a.cps.toList
theorem LeS.trans {a b c : Str} (h : LeS a b) (h' : LeS b c) : LeS a c := List.le_trans (show a.cps.toList ≤ b.cps.toList from h) (show b.cps.toList ≤ c.cps.toList from h')
theorem LeS.antisymm {a b : Str} (h : LeS a b) (h' : LeS b a) : a = b := by
  have : a.cps.toList = b.cps.toList := List.le_antisymm (show a.cps.toList ≤ b.cps.toList from h) (show b.cps.toList ≤ a.cps.toList from h')
  cases a; cases b
  exact congrArg Str.mk (Array.toList_inj.mp this)
theorem rising_pw : ∀ (l : List Str) (p : Str), risingS p l = true → (p :: l).Pairwise LeS
  | [], p, _ => List.pairwise_singleton _ _
  | x :: l, p, h => by
    unfold risingS at h
    rw [Bool.and_eq_true, ltCps_eq] at h
    have h1 : LeS p x := by
      have := h.1
      simpa [LeS] using this
    have h2 := rising_pw l x h.2
    refine List.pairwise_cons.mpr ⟨fun z hz => ?_, h2⟩
    rcases List.mem_cons.mp hz with rfl | hz
    · exact h1
    · exact h1.trans ((List.pairwise_cons.mp h2).1 z hz)
theorem sorted_pw {l : List Str} (h : sortedS l = true) : l.Pairwise LeS := by
  cases l with
  | nil => exact .nil
  | cons x l => exact rising_pw l x h
theorem ins_perm (x : Str) : ∀ l : List Str, (insS x l).Perm (x :: l)
  | [] => .refl _
  | y :: ys => by
    unfold insS
    split
    · exact ((ins_perm x ys).cons y).trans (.swap x y ys)
    · exact .refl _
theorem sort_perm : ∀ l : List Str, (sortS l).Perm l
  | [] => .refl _
  | x :: xs => (ins_perm x _).trans ((sort_perm xs).cons x)
theorem ins_pw (x : Str) : ∀ l : List Str, l.Pairwise LeS → (insS x l).Pairwise LeS
  | [], _ => List.pairwise_singleton _ _
  | y :: ys, h => by
    unfold insS
    have hc := List.pairwise_cons.mp h
    split
    · next hl =>
      refine List.pairwise_cons.mpr ⟨fun z hz => ?_, ins_pw x ys hc.2⟩
      rcases List.mem_cons.mp ((ins_perm x ys).mem_iff.mp hz) with rfl | hz
      · exact fun g => List.lt_irrefl _ (List.lt_trans hl g)
      · exact hc.1 z hz
    · next hl =>
      refine List.pairwise_cons.mpr ⟨fun z hz => ?_, h⟩
      rcases List.mem_cons.mp hz with rfl | hz
      · exact hl
      · exact LeS.trans hl (hc.1 z hz)
theorem sort_pw : ∀ l : List Str, (sortS l).Pairwise LeS
  | [] => .nil
  | x :: xs => ins_pw x _ (sort_pw xs)
theorem pw_uniq : ∀ {l m : List Str}, l.Perm m → l.Pairwise LeS → m.Pairwise LeS → l = m
  | [], m, p, _, _ => p.nil_eq
  | x :: l, [], p, _, _ => by simpa using p.length_eq
  | x :: l, y :: m, p, h, h' => by
    have c := List.pairwise_cons.mp h
    have c' := List.pairwise_cons.mp h'
    have e : x = y := by
      rcases List.mem_cons.mp (p.mem_iff.mp List.mem_cons_self) with e | hx
      · exact e
      · rcases List.mem_cons.mp (p.mem_iff.mpr List.mem_cons_self) with e | hy
        · exact e.symm
        · exact (c.1 y hy).antisymm (c'.1 x hx)
    subst e
    rw [pw_uniq (p.cons_inv) c.2 c'.2]
theorem sort_uniq {l ks : List Str} (p : l.Perm ks) (h : sortedS l = true) : l = sortS ks := pw_uniq (p.trans (sort_perm ks).symm) (sorted_pw h) (sort_pw ks)
/-! sorted(d), d written -/
theorem DL.pairs {P : Program} {w : World} : ∀ {ks : List Str} {xs : List V} {es : List DictEntry}, DL w.params ks xs es → ∃ vs : List (Key × Value), vs.map (·.1) = ks.map Sum.inr ∧ Pairs (mixKind P w) es vs ∧ ∀ e ∈ es, ∃ k, (mixKind P w).is k e.key = true ∧ e.hash = (mixKind P w).hash k
  | [], _, _, ⟨_, e⟩ => ⟨[], rfl, by rw [e]; exact .nil, by rw [e]; exact fun _ h => by simp at h⟩
  | k :: ks, _, _, ⟨x, xr, e, er, _, e2, ⟨t, h1⟩, h2, h3, h4⟩ => by
    obtain ⟨vs, g1, g2, g3⟩ := h4.pairs (P := P)
    subst e2
    have is : (mixKind P w).is (.inr k) e.key = true := by rw [h1]; exact mixKind_str P w k t
    refine ⟨(.inr k, e.val) :: vs, by rw [List.map_cons, g1]; rfl, .cons is rfl g2, fun e' he => ?_⟩
    rcases List.mem_cons.mp he with rfl | he
    · exact ⟨.inr k, is, h2⟩
    · exact g3 e' he
theorem inr_nodup : ∀ {ks : List Str}, ks.Nodup → (ks.map (Sum.inr : Str → Key)).Nodup
  | [], _ => .nil
  | k :: ks, h => by
    have c := List.nodup_cons.mp h
    refine List.nodup_cons.mpr ⟨fun z => ?_, inr_nodup c.2⟩
    obtain ⟨k', h1, h2⟩ := List.mem_map.mp z
    cases h2
    exact c.1 h1
theorem WrD.dict {X : Cx} {pins : List (Addr × Obj)} {σ : L2.St} {H : Hp} {s : Shared} (I : Inv X pins σ H s) {a : Addr} {ks : List Str} {xs : List V} (f : WrD X.K X.w.params a ks xs) :
    (a == sysModules) = false ∧ ∃ vs : List (Key × Value), vs.map (·.1) = ks.map Sum.inr ∧ s.heap.DictOf (mixKind X.prog X.w) a vs := by
  obtain ⟨es, n, h1, h2, h3, h4, h5⟩ := f
  obtain ⟨vs, g1, g2, g3⟩ := h2.pairs (P := X.prog)
  exact ⟨h4, vs, g1, _, es, n, I.kIn _ _ h1, ⟨rfl, rfl, rfl⟩, rfl, fun e he => g3 e (Array.mem_toList_iff.mpr he), g2, by rw [g1]; exact inr_nodup h3⟩
theorem call_sortedKd {X : Cx} (hcalm : X.calm = true) : CallR X (.builtin "sorted") (fun xs H Q => ∃ (a : Addr) (ks : List Str) (zs : List V), xs = [.ref a] ∧ WrD X.K X.w.params a ks zs ∧ ks.length < 64 ∧
    ∀ p, H p = none → Q (.ref p) (upd H p (.lst ((sortS ks).map V.str)))) := by
  rintro pins s σ H xs us Q I r ⟨a, ks, zs, rfl, f, h64, q⟩
  obtain ⟨u, rfl, rx⟩ := vals1 r
  cases rx
  obtain ⟨lo, vs, hkeys, dd⟩ := f.dict I
  obtain ⟨ep, hat⟩ := dd.dictAt
  have hl : vs.length = ks.length := by simpa using congrArg List.length hkeys
  have h16 : vs.length ≤ sizeLine := by rw [hl, sizeLine_eq]; omega
  refine Calls.call_function_entry PyProof.Rows.kind_sorted PyProof.Rows.plain_sorted PyProof.Rows.entry_sorted (PyProof.Rows.args_sorted1 _) ?_
  unfold Builtin.«sorted»
  apply wpAny_bind (m := checkCount "sorted" 1 1 _)
  apply wpAny_pure
  refine wpAny_bind (PySem.W.kdu_collect (A := X.A.in1) (PySem.W.kdl_dict (knd := mixKind X.prog X.w) (kvs := vs) (ep := ep) lo) (I.ok.hd hcalm) hat h16 fun g tk acc hk ha => ?_)
  have len : acc.toList.length = ks.length := by rw [Array.length_toList, ha.1, hl]
  have hS : StrsAre acc.toList ks := strs_at len fun j v e => by
    obtain ⟨k, x, e1, e2⟩ := ha.2 j v (by rw [← Array.getElem?_toList]; exact e)
    have e3 : (ks.map (Sum.inr : Str → Key))[j]? = some k := by rw [← hkeys, List.getElem?_map, e1]; rfl
    rw [List.getElem?_map] at e3
    obtain ⟨y, e4, e5⟩ := Option.map_eq_some_iff.mp e3
    subst e5
    obtain ⟨t, ev⟩ := Value.isStrOf_shape (x := y) (v := v) e2
    exact ⟨y, t, e4, ev⟩
  have I1 : Inv X pins σ H { s with heap := g, toks := tk } := I.kept hk
  refine wpAny_bind (wpAny_newList ?_ (by rw [len, sizeLine_eq]; omega))
  have new : (g.push (seqObj "list" acc.toList.toArray 0)).get? g.objs.size = some (seqObj "list" acc.toList.toArray 0) := Heap.get?_push_size _ rfl
  show wpAny _ _ _ _ _ { s with heap := g.push (seqObj "list" acc.toList.toArray 0), toks := tk }
  apply wpAny_bind
  apply wpAny_holding
  refine wpAny_call_entry PyProof.Rows.slot_list_sort ⟨_, new, rfl⟩ PyProof.Rows.entry_list_sort ?_ (PyProof.Rows.args_list_sort _)
  refine list_sort_treeK strKind_oneLt (s := { s with heap := g.push (seqObj "list" acc.toList.toArray 0), toks := tk }) new hS.keysOf (fun v₁ v₂ rest e => keyKind_strs (by rw [← e]; exact hS)) (by rw [len]; exact h64) fun st' hp hs => ⟨_, rfl, ?_⟩
  obtain ⟨ys, g1, g2, g3⟩ := sorted_out_str hS hp hs
  obtain ⟨e', he'⟩ := PyProof.Rows.sortedHeap_at (vs := acc.toList) (out := (arrOf st').map (·.2)) new
  have eq := sort_uniq g2 g3
  subst eq
  have hlen : ((sortS ks).map V.str).length ≤ sizeLine := by
    rw [List.length_map, (sort_perm ks).length_eq, sizeLine_eq]
    omega
  apply wpAny_pure
  refine ⟨_, rfl, .ref g.objs.size, upd H g.objs.size (.lst ((sortS ks).map V.str)), I1.laid (t' := tk) (fun b u e => ?_) (Nat.le_refl _)
    (show ObjOk X.prog X.w _ _ _ (.lst ((sortS ks).map V.str)) from ⟨hlen, ((arrOf st').map (·.2)).toList, e', vals_of_strs g1, by rw [Array.toArray_toList]; exact he'⟩), rfl, q _ (I1.hok.fresh (Nat.le_refl _))⟩
  have hb : b < g.objs.size := Heap.lt_size e
  rw [PyProof.Rows.sortedHeap_old (Nat.ne_of_lt hb) (by rw [size_push']; exact Nat.lt_succ_of_lt hb)]
  exact Heap.get?_push_of_some _ e
end MP
namespace MP
open PySem L2 PySem.Spec PyProof.Rows PySem.W 

/-! sorted(t), t a tuple of data that ascends already -/
theorem ascD_pw : ∀ {ds : List PyData}, ascD ds = true → ds.Pairwise fun d e => PySem.W.dataLt e d = false
  | [], _ => .nil
  | d :: ds, h => by
    unfold ascD at h
    rw [Bool.and_eq_true] at h
    refine .cons (fun e he => ?_) (ascD_pw h.2)
    have := List.all_eq_true.mp h.1 e he
    simpa using this
theorem depth_le {d : PyData} : ∀ {ds : List PyData}, d ∈ ds → d.depth ≤ PyData.depthAll ds
  | [], h => by simp at h
  | e :: ds, h => by
    simp only [PyData.depthAll]
    rcases List.mem_cons.mp h with rfl | h
    · omega
    · have := depth_le h
      omega
section
variable {P : Program} {W0 : World} {A : Around} {E : Value → Shared → Prop} {s : Shared}
theorem collect_tuple {l : Addr} {vs : List Value} {Q : List Value → Shared → Prop} (hl : s.heap.IsTuple l vs.toArray)
    (h : Q vs { s with heap := (s.heap.push (seqObj "list" #[] 0)).update s.heap.objs.size (Obj.mapSeq (· ++ vs.toArray)) }) (hz : vs.length ≤ sizeLine) :
    wpAny (model P W0) A (collect (.ref l)) Q E s := by
  obtain ⟨o, ho, hc, n, hd⟩ := id hl
  unfold collect
  apply wpAny_bind
  apply wpAny_runValue
  apply codeAny_builtin entry_proto_collect'
  show wpAny _ _ (do again (.builtin "list.__iadd__" ⟨[← newList [], .ref l], []⟩)) _ _ s
  apply wpAny_bind
  refine wpAny_newList (wpAny_pure ⟨Code.quiet_builtin _ (by decide +kernel), ?_⟩)
  apply codeAny_builtin entry_list_iadd'
  show wpAny _ _ (Builtin.List.listExtendWith (.ref s.heap.objs.size) (.ref l) (.ref s.heap.objs.size)) _ _ { s with heap := s.heap.push (seqObj "list" #[] 0) }
  unfold Builtin.List.listExtendWith
  have h1 : (s.heap.push (seqObj "list" #[] 0)).get? l = some o := Heap.get?_push_of_some _ ho
  have h2 : (s.heap.push (seqObj "list" #[] 0)).get? s.heap.objs.size = some (seqObj "list" #[] 0) := Heap.get?_push_size _ rfl
  refine wpAny_bind (wpAny_typeOf (T := "tuple") ⟨o, h1, hc⟩ ?_)
  have ht : (Value.type "tuple" == Value.type "tuple") = true := rfl
  rw [if_pos (by rw [ht]; simp)]
  refine wpAny_bind (listItems_at h1 hd ?_)
  refine wpAny_bind (listItems_at h2 rfl ?_)
  rw [if_neg (by simp)]
  refine wpAny_bind (listUpdate_at h2 rfl ?_ (Nat.zero_le _) (by show (#[] ++ vs.toArray).size ≤ sizeLine + 1; simp only [Array.size_append, List.size_toArray, List.length_nil]; omega))
  apply wpAny_pure
  show wpAny (model P W0) A (do
      let o ← load s.heap.objs.size
      match o.data with
      | .seq xs _ => pure xs.toList
      | _ => unsupported "internal:collect") Q E { s with heap := (s.heap.push (seqObj "list" #[] 0)).update s.heap.objs.size (Obj.mapSeq (· ++ vs.toArray)) }
  refine wpAny_bind (wpAny_load (get?_update_seq h2 _) ?_)
  show wpAny _ _ (pure ((#[] : Array Value) ++ vs.toArray).toList) Q E _
  rw [show ((#[] : Array Value) ++ vs.toArray).toList = vs by simp]
  exact wpAny_pure h
theorem sorted_tup {l : Addr} {vs : List Value} {κ : PyProof.Rows.KeyKind} {Q : Value → Shared → Prop} (hl : s.heap.IsTuple l vs.toArray) (S : PySem.W.SortsAt P W0 A.in1.in1 { s with heap := PySem.W.sortingHeap (PySem.W.copyHeap s.heap vs) (s.heap.objs.size + 1) vs } κ vs) (hL : vs.length ≤ sizeLine)
    (h : Q (.ref (s.heap.objs.size + 1)) { s with heap := sortedAll s.heap vs (sortVals κ false vs vs).toArray }) : wpAny (model P W0) A (call (.builtin "sorted") [.ref l]) Q E s := by
  apply Calls.call_function_entry PyProof.Rows.kind_sorted PyProof.Rows.plain_sorted PyProof.Rows.entry_sorted (PyProof.Rows.args_sorted1 _)
  unfold Builtin.«sorted»
  apply wpAny_bind (m := checkCount "sorted" 1 1 _)
  apply wpAny_pure
  refine wpAny_bind (collect_tuple hl ?_ hL)
  refine wpAny_bind (wpAny_newList ?_ hL)
  have z : ((s.heap.push (seqObj "list" #[] 0)).update s.heap.objs.size (Obj.mapSeq (· ++ vs.toArray))).objs.size = s.heap.objs.size + 1 := by
    rw [Heap.size_update, size_push']
  show wpAny _ _ _ _ _ { s with heap := PySem.W.copyHeap s.heap vs }
  rw [z]
  apply wpAny_bind
  apply wpAny_holding
  refine wpAny_call_entry PyProof.Rows.slot_list_sort ⟨_, PySem.W.copyHeap_at s.heap vs, rfl⟩ PyProof.Rows.entry_list_sort ?_ (PyProof.Rows.args_list_sort _)
  refine PySem.W.list_sort_vals (s := { s with heap := PySem.W.copyHeap s.heap vs }) (PySem.W.copyHeap_at s.heap vs) S hL ⟨_, rfl, ?_⟩
  exact wpAny_pure ⟨_, rfl, h⟩
end
section
variable {X : Cx}
theorem each_reads {pins : List (Addr × Obj)} {σ : L2.St} {H : Hp} {s : Shared} (I : Inv X pins σ H s) {h : Heap} (k : ∀ b o, s.heap.get? b = some o → h.get? b = some o) : ∀ (ds : List PyData) (vs : List V) (us : List Value), DpAll X.K H vs ds → Vals vs us → EachIs (fun v d => ∃ as, Reads h v d as) us ds
  | [], _, _, a, r => by cases a; cases r; exact .nil
  | d :: ds, _, _, a, r => by
    cases a with
    | cons a1 a2 =>
      cases r with
      | cons r1 r2 =>
        obtain ⟨as, e⟩ := Dp.reads I _ _ _ a1 r1
        exact .cons ⟨as, Reads.keeps k e⟩ (each_reads I k ds _ _ a2 r2)
theorem each_pair {α β : Type} {R : α → β → Prop} : ∀ {as : List α} {bs : List β}, EachIs R as bs → EachIs (fun a (p : α × β) => a = p.1) as (as.zip bs) ∧ EachIs (fun a (p : α × β) => R a p.2 ∧ p.2 ∈ bs) as (as.zip bs)
  | _, _, .nil => ⟨.nil, .nil⟩
  | a :: as, b :: bs, .cons h t => by
    obtain ⟨h1, h2⟩ := each_pair t
    exact ⟨.cons rfl h1, .cons ⟨h, List.mem_cons_self⟩ (h2.mono fun _ _ q => ⟨q.1, List.mem_cons_of_mem _ q.2⟩)⟩
theorem each_fst {α β : Type} : ∀ {as : List α} {ps : List (α × β)}, EachIs (fun a p => a = p.1) as ps → as = ps.map (·.1)
  | _, _, .nil => rfl
  | _, _, .cons h t => by rw [List.map_cons, ← each_fst t, h]
theorem zip_pw {α β : Type} {R : β → β → Prop} : ∀ {as : List α} {bs : List β}, bs.Pairwise R → (as.zip bs).Pairwise fun p q => R p.2 q.2
  | [], _, _ => by rw [List.zip_nil_left]; exact .nil
  | _ :: _, [], _ => by rw [List.zip_nil_right]; exact .nil
  | a :: as, b :: bs, .cons h t => by
    rw [List.zip_cons_cons]
    exact .cons (fun q hq => h _ (List.of_mem_zip hq).2) (zip_pw t)
theorem sort_same {h : Heap} {ds : List PyData} {us : List Value} (e : EachIs (fun v d => ∃ as, Reads h v d as) us ds) (al : PySem.W.AllAlike ds) (pw : ds.Pairwise fun d e => PySem.W.dataLt e d = false) : sortVals (PySem.W.dataKind h ds) false us us = us := by
  obtain ⟨e1, e2⟩ := each_pair e
  have e3 := sortVals_each (κ := PySem.W.dataKind h ds) (rev := false) (ks := us) (fun p : Value × PyData => PySem.W.keyToks p.2) e1 (e2.mono fun v p q => by
    obtain ⟨⟨as, r⟩, m⟩ := q
    exact PySem.W.dataKind_some al m r)
  have e4 : (us.zip ds).mergeSort (sortLe (PySem.W.dataKind h ds).toKeyOrd false fun p : Value × PyData => PySem.W.keyToks p.2) = us.zip ds := by
    apply List.mergeSort_of_pairwise
    refine (zip_pw (R := fun d e => PySem.W.dataLt e d = false) pw).imp fun {p q} hpq => ?_
    show (!(PySem.W.dataKind h ds).toKeyOrd.blt (PySem.W.keyToks q.2) (PySem.W.keyToks p.2)) = true
    have : (PySem.W.dataKind h ds).toKeyOrd.blt (PySem.W.keyToks q.2) (PySem.W.keyToks p.2) = PySem.W.dataLt q.2 p.2 := rfl
    rw [this, hpq]
    rfl
  rw [e4] at e3
  rw [each_fst e3, ← each_fst e1]
theorem call_sortedT (hcalm : X.calm = true) (hu : X.A.units + 100 < cLine) : CallR X (.builtin "sorted") (fun xs H Q => ∃ (a : Addr) (ys : List V) (ds : List PyData), xs = [.ref a] ∧ SqT X.K H a ys ∧ DpAll X.K H ys ds ∧ goodD ds = true ∧
    ∀ p, H p = none → Q (.ref p) (upd H p (.lst ys))) := by
  rintro pins s σ H xs us Q I r ⟨a, ys, ds, rfl, hs, hd, hg, q⟩
  obtain ⟨u, rfl, rx⟩ := vals1 r
  cases rx
  obtain ⟨its, rv, pt, hl⟩ := I.tuple hs
  unfold goodD at hg
  simp only [Bool.and_eq_true] at hg
  obtain ⟨⟨⟨g1, g2⟩, g3⟩, g4⟩ := hg
  have hlen : its.length ≤ sizeLine := by rw [← rv.length]; exact hl
  have al : PySem.W.AllAlike ds := fun d hd' e he => List.all_eq_true.mp (List.all_eq_true.mp g2 d hd') e he
  have so : PySem.W.Sortable ds := .inl fun d hd' => by
    have := List.all_eq_true.mp g1 d hd'
    cases d <;> first | (cases this; done) | skip
    next l =>
    cases l with
    | nil => cases this
    | cons x l => exact ⟨x, l, rfl⟩
  have dl : ∀ d, d ∈ ds → d.depth ≤ 64 := fun d hd' => by
    have h1 := SeqAt.depth_of_shaped g4
    have h2 := depth_le hd'
    simp only [PyData.depth] at h1
    omega
  have ke : ∀ b o, s.heap.get? b = some o → (PySem.W.sortingHeap (PySem.W.copyHeap s.heap its) (s.heap.objs.size + 1) its).get? b = some o := fun b o e => PySem.W.sorting_copy_old e
  have ea := each_reads I ke ds ys its hd rv
  refine sorted_tup (κ := PySem.W.dataKind (PySem.W.sortingHeap (PySem.W.copyHeap s.heap its) (s.heap.objs.size + 1) its) ds) (show s.heap.IsTuple a its.toArray from pt) (PySem.W.SortsAt.data ea al so fun d hd' => ?_) hlen ?_
  · have := dl d hd'
    show X.A.units + 1 + 1 + d.depth < cLine
    omega
  · rw [sort_same ea al (ascD_pw g3)]
    obtain ⟨e', he'⟩ := sortedAll_at s.heap its its.toArray
    have le : s.heap.objs.size ≤ s.heap.objs.size + 1 := Nat.le_succ _
    exact ⟨.ref (s.heap.objs.size + 1), upd H (s.heap.objs.size + 1) (.lst ys), I.laid (t' := s.toks) (fun b o e => sortedAll_old e) le (show ObjOk X.prog X.w _ _ _ (.lst ys) from ⟨hl, its, e', rv, he'⟩), rfl, q _ (I.hok.fresh le)⟩
end
end MP
namespace MP
open PySem L2 PySem.Spec PyProof.Rows

section
variable {c : Cfg} {fa : Str → Option Addr} {X : Cx} {sc : Scope} {k : Nat} {r : Rec}
/-- isinstance(x, t), t any tuple of classes -/
theorem isi_tup {x : V} {tp : Addr} {cs : List V} {t : Value} {ws : List Value} {b : Bool} {pins : List (Addr × Obj)} {s : Shared} {σ : L2.St} {H : Hp} {us : List Value} {Q : VK} (I : Inv X pins σ H s) (rA : Vals [x, .ref tp] us)
    (hT : SqT X.K H tp cs) (kk : Paired ClsV cs ws) (ty : TyX X.K H x t) (e : PySem.W.kitAny X.K t ws = some b) (q : Q (.bl b) H) : wpAny (model X.prog X.w) X.A (call (.builtin "isinstance") us) (EP X pins σ Q) X.xe s := by
  obtain ⟨u1, u2, rfl, r1, r2⟩ := vals2 rA
  cases (show u2 = Value.ref tp from r2)
  obtain ⟨P, Z, p, hx⟩ := kit_of I r1 ty
  obtain ⟨its, rv, ⟨o, h1, h2, n, h3⟩, _⟩ := I.tuple hT
  have e3 := ClsV.all kk rv
  subst e3
  cases o with
  | mk oc od dt sl =>
    simp only at h2 h3
    subst h2 h3
    exact PySem.W.kia_tup Z I.kIn p h1 e hx (fun tk => ⟨.bl b, H, (I.tok tk), rfl, q⟩)
theorem cb_isi : CallR X (.builtin "isinstance") (rCW (bd fa X) "isinstance") := by
  intro pins s σ H xs us Q I rx ⟨ws, st, μ, ex, w, ra, hs, e, q⟩
  unfold callB at e
  rw [if_neg (by decide +kernel), if_pos rfl] at e
  split at e
  · next x0 c0 =>
    obtain ⟨b, e1, rfl⟩ := Option.map_eq_some_iff.mp e
    obtain ⟨v, z, rfl, r1, r2⟩ := RA.two_inv ra
    unfold isiW at e1
    obtain ⟨T, e2, e3⟩ := Option.bind_eq_some_iff.mp e1
    have ty := tyW_ok r1 e2
    cases c0 <;> first | (cases e3; done) | skip
    · next l =>
      obtain ⟨a, ys, rfl, f, r3⟩ := r2
      obtain ⟨us', h1, h2⟩ := isiAny_ok r3 e3
      exact isi_tup I rx f.sq h1 ty h2 (q.now hs rfl)
    · next n =>
      subst r2
      exact call_isi pins s σ H _ us Q I rx ⟨v, .ty n, _, _, b, rfl, .ty n, ty, kit_ty e3, q.now hs rfl⟩
  · cases e
theorem cb_int : CallR X (.type "int") (rCW (bd fa X) "int") := by
  intro pins s σ H xs us Q I rx ⟨ws, st, μ, ex, w, ra, hs, e, q⟩
  unfold callB at e
  rw [if_neg (by decide +kernel), if_neg (by decide +kernel), if_pos rfl] at e
  split at e
  · cases e
    obtain ⟨v, rfl, r1⟩ := RA.one_inv ra
    subst r1
    exact call_int1 pins s σ H _ us Q I rx (.inl ⟨_, rfl, q.now hs rfl⟩)
  · cases e
    obtain ⟨v, rfl, r1⟩ := RA.one_inv ra
    subst r1
    exact call_int1 pins s σ H _ us Q I rx (.inr ⟨_, rfl, q.now hs rfl⟩)
  · cases e
/-- the signs of a text -/
theorem signs_vals {x : Str} {acc : Array Value} (h : ItemsOf (SignAt x) acc x.cps.size) : Vals (x.cps.toList.map fun ch => V.str ⟨#[ch]⟩) acc.toList := by
  refine vals_of_at (by simp [h.1]) fun j v u e1 e2 => ?_
  rw [List.getElem?_map] at e1
  obtain ⟨ch, e3, rfl⟩ := Option.map_eq_some_iff.mp e1
  obtain ⟨c', t, e4, rfl⟩ := h.2 j u (by simpa using e2)
  have e5 : ch = c' := by
    have : x.cps[j]? = some ch := by simpa using e3
    rw [e4] at this
    exact (Option.some.inj this).symm
  subst e5
  exact ⟨t, rfl⟩
theorem signs_RA {B : Bd} {μ ex : List Addr} {H : Hp} (x : Str) : RA B μ ex H (signs x) (x.cps.toList.map fun ch => V.str ⟨#[ch]⟩) := by
  unfold signs
  induction x.cps.toList with
  | nil => rfl
  | cons a l ih => exact ⟨_, _, rfl, rfl, ih⟩
theorem items_RA {μ ex : List Addr} {H : Hp} {st : Sto} {w : W} {v : V} {l : List W} (hs : S (bd fa X) μ ex H st) (r1 : R (bd fa X) μ ex H w v) (e : itemsW st w = some l) :
    ∃ a ys, v = .ref a ∧ RA (bd fa X) μ ex H l ys ∧ (SqL X.K H a ys ∨ (SqT X.K H a ys ∧ w = .tup l)) := by
  unfold itemsW at e
  split at e
  · cases e; obtain ⟨a, ys, rfl, f, r2⟩ := r1; exact ⟨a, ys, rfl, r2, .inr ⟨f.sq, rfl⟩⟩
  · cases e; obtain ⟨a, ys, rfl, f, r2⟩ := r1; exact ⟨a, ys, rfl, r2, .inl f.sq⟩
  · cases e; obtain ⟨a, ys, rfl, f, r2⟩ := r1; exact ⟨a, ys, rfl, r2, .inl f.1.sq⟩
  · split at e
    · next l' hst =>
      cases e
      obtain ⟨a1, rfl, h1⟩ := r1
      obtain ⟨a2, h2, ys, h3, r2⟩ := hs.obj _ _ hst
      rw [h1] at h2
      cases h2
      exact ⟨_, ys, rfl, r2, .inl (SqL.of h3)⟩
    · cases e
  · cases e
theorem cb_tuple (hcalm : X.calm = true) : CallR X (.type "tuple") (rCW (bd fa X) "tuple") := by
  intro pins s σ H xs us Q I rx ⟨ws, st, μ, ex, w, ra, hs, e, q⟩
  unfold callB at e
  rw [if_neg (by decide +kernel), if_neg (by decide +kernel), if_neg (by decide +kernel), if_pos rfl] at e
  split at e
  · next x =>
    split at e
    · next hl =>
      cases e
      obtain ⟨v, rfl, r1⟩ := RA.one_inv ra
      subst r1
      obtain ⟨u, rfl, t, rfl⟩ := vals1 rx
      refine call_tuple_str (I.ok.hd hcalm) x t (fun h' tk acc kp hacc => ?_) hl
      have I1 : Inv X pins σ H { s with heap := h', toks := tk } := I.kept kp
      have hz : (x.cps.toList.map fun ch => V.str ⟨#[ch]⟩).length ≤ sizeLine := by rw [List.length_map, Array.length_toList]; exact hl
      have I2 : Inv X pins σ (upd H h'.objs.size (.tup (x.cps.toList.map fun ch => V.str ⟨#[ch]⟩))) { s with heap := h'.push { cls := .type "tuple", data := .seq acc }, toks := tk } :=
        I1.laid (t' := tk) (fun b o e => Heap.get?_push_of_some _ e) (Nat.le_refl _) (show ObjOk X.prog X.w _ _ _ (.tup _) from ⟨hz, acc.toList, signs_vals hacc, IsTup.new _ _⟩)
      exact ⟨.ref h'.objs.size, _, I2, rfl, Post.tup hs (signs_RA x) q _ (I1.hok.fresh (Nat.le_refl _))⟩
    · cases e
  · obtain ⟨l, e1, rfl⟩ := Option.map_eq_some_iff.mp e
    obtain ⟨v, rfl, r1⟩ := RA.one_inv ra
    obtain ⟨a, ys, rfl, r2, h | ⟨h, hw⟩⟩ := items_RA hs r1 e1
    · exact call_tuple_of pins s σ H _ us Q I rx ⟨a, ys, rfl, .inl ⟨h, Post.tup hs r2 q⟩⟩
    · subst hw
      exact call_tuple_of pins s σ H _ us Q I rx ⟨a, ys, rfl, .inr ⟨h, q.now hs r1⟩⟩
  · cases e
theorem cb_listF (hcalm : X.calm = true) : CallR X (.type "list") (rCWf (bd fa X) "list") := by
  intro pins s σ H xs us Q I rx ⟨ws, st, μ, ex, w, ra, hs, e, q⟩
  unfold callB at e
  rw [if_neg (by decide +kernel), if_neg (by decide +kernel), if_neg (by decide +kernel), if_neg (by decide +kernel), if_pos rfl] at e
  split at e
  · next x =>
    split at e
    · next hl =>
      cases e
      obtain ⟨v, rfl, r1⟩ := RA.one_inv ra
      subst r1
      obtain ⟨u, rfl, t, rfl⟩ := vals1 rx
      refine call_list_str (I.ok.hd hcalm) x t (fun h' tk acc n kp hL hacc => ?_) hl
      have hz : (x.cps.toList.map fun ch => V.str ⟨#[ch]⟩).length ≤ sizeLine := by rw [List.length_map, Array.length_toList]; exact hl
      have I2 : Inv X pins σ (upd H s.heap.objs.size (.lst (x.cps.toList.map fun ch => V.str ⟨#[ch]⟩))) { s with heap := h', toks := tk } :=
        I.laid (t' := tk) kp (Nat.le_refl _) (show ObjOk X.prog X.w _ _ _ (.lst _) from ⟨hz, acc.toList, n, signs_vals hacc, by simpa using hL⟩)
      exact ⟨.ref s.heap.objs.size, _, I2, rfl, PostF.lst hs (signs_RA x) q _ (I.hok.fresh (Nat.le_refl _))⟩
    · cases e
  · obtain ⟨l, e1, rfl⟩ := Option.map_eq_some_iff.mp e
    obtain ⟨v, rfl, r1⟩ := RA.one_inv ra
    obtain ⟨a, ys, rfl, r2, h⟩ := items_RA hs r1 e1
    exact call_list_of pins s σ H _ us Q I rx ⟨a, ys, rfl, h.elim .inl fun h => .inr h.1, PostF.lst hs r2 q⟩
  · cases e
theorem cb_list (hcalm : X.calm = true) : CallR X (.type "list") (rCW (bd fa X) "list") := fun pins s σ H xs us Q I rx ⟨ws, st, μ, ex, w, ra, hs, e, q⟩ =>
  cb_listF hcalm pins s σ H xs us Q I rx ⟨ws, st, μ, ex, w, ra, hs, e, q.f⟩
theorem cb_min (hcalm : X.calm = true) : CallR X (.builtin "min") (rCW (bd fa X) "min") := by
  intro pins s σ H xs us Q I rx ⟨ws, st, μ, ex, w, ra, hs, e, q⟩
  unfold callB at e
  rw [if_neg (by decide +kernel), if_neg (by decide +kernel), if_neg (by decide +kernel), if_neg (by decide +kernel), if_neg (by decide +kernel), if_pos rfl] at e
  split at e
  · cases e
    obtain ⟨v, z, rfl, r1, r2⟩ := RA.two_inv ra
    subst r1 r2
    exact call_min2 hcalm pins s σ H _ us Q I rx ⟨_, _, rfl, q.now hs rfl⟩
  · cases e
    obtain ⟨v, z, rfl, r1, r2⟩ := RA.two_inv ra
    subst r1 r2
    obtain ⟨u1, u2, rfl, ⟨t1, rfl⟩, ⟨t2, rfl⟩⟩ := vals2 rx
    refine MZ.min_txt (I.ok.hd hcalm) fun g tk k => ⟨.str (minS _ _), H, I.kept (t' := tk) k, ?_, q.now hs rfl⟩
    unfold minS
    simp only [decide_eq_true_eq]
    split <;> exact ⟨_, rfl⟩
  · cases e
theorem cb_max (hcalm : X.calm = true) : CallR X (.builtin "max") (rCW (bd fa X) "max") := by
  intro pins s σ H xs us Q I rx ⟨ws, st, μ, ex, w, ra, hs, e, q⟩
  unfold callB at e
  rw [if_neg (by decide +kernel), if_neg (by decide +kernel), if_neg (by decide +kernel), if_neg (by decide +kernel), if_neg (by decide +kernel), if_neg (by decide +kernel), if_pos rfl] at e
  split at e
  · cases e
    obtain ⟨v, z, rfl, r1, r2⟩ := RA.two_inv ra
    subst r1 r2
    exact call_max2 hcalm pins s σ H _ us Q I rx ⟨_, _, rfl, q.now hs rfl⟩
  · cases e
    obtain ⟨v, z, rfl, r1, r2⟩ := RA.two_inv ra
    subst r1 r2
    obtain ⟨u1, u2, rfl, ⟨t1, rfl⟩, ⟨t2, rfl⟩⟩ := vals2 rx
    refine MZ.max_txt (I.ok.hd hcalm) fun g tk k => ⟨.str (maxS _ _), H, I.kept (t' := tk) k, ?_, q.now hs rfl⟩
    unfold maxS
    simp only [decide_eq_true_eq]
    split <;> exact ⟨_, rfl⟩
  · cases e
theorem strsW_ok {B : Bd} {μ ex : List Addr} {H : Hp} : ∀ {l : List W} {ks : List Str} {xs : List V}, strsW l = some ks → RA B μ ex H l xs → xs = ks.map V.str
  | [], ks, xs, e, r => by cases e; exact r
  | w :: ws, ks, _, e, ⟨x, xs, rfl, r1, r2⟩ => by
    cases w <;> first | (cases e; done) | skip
    obtain ⟨l', e1, rfl⟩ := Option.map_eq_some_iff.mp e
    subst r1
    rw [strsW_ok e1 r2]
    rfl
theorem strs_RA {B : Bd} {μ ex : List Addr} {H : Hp} : ∀ (ks : List Str), RA B μ ex H (ks.map W.str) (ks.map V.str)
  | [] => rfl
  | _ :: ks => ⟨_, _, rfl, rfl, strs_RA ks⟩
theorem cb_sorted (hcalm : X.calm = true) (hu : X.A.units + 100 < cLine) : CallR X (.builtin "sorted") (rCW (bd fa X) "sorted") := by
  intro pins s σ H xs us Q I rx ⟨ws, st, μ, ex, w, ra, hs, e, q⟩
  unfold callB at e
  rw [if_neg (by decide +kernel), if_neg (by decide +kernel), if_neg (by decide +kernel), if_neg (by decide +kernel), if_neg (by decide +kernel), if_neg (by decide +kernel), if_neg (by decide +kernel), if_pos rfl] at e
  split at e
  · next ks vs =>
    split at e
    · next h64 =>
      cases e
      obtain ⟨v, rfl, r1⟩ := RA.one_inv ra
      obtain ⟨a, ys, rfl, f, _⟩ := r1
      exact call_sortedKd hcalm pins s σ H _ us Q I rx ⟨a, ks, ys, rfl, f, h64, Post.lst hs (strs_RA _) q⟩
    · cases e
  · next l =>
    obtain ⟨ks, e1, e2⟩ := Option.bind_eq_some_iff.mp e
    split at e2
    · next h64 =>
      cases e2
      obtain ⟨v, rfl, r1⟩ := RA.one_inv ra
      obtain ⟨a, ys, rfl, f, r2⟩ := r1
      have := strsW_ok e1 r2
      subst this
      exact cr_sortedS pins s σ H _ us Q I rx ⟨a, ks, rfl, f.sq, h64, fun zs p hp hsr n => by rw [sort_uniq hp hsr]; exact Post.lst hs (strs_RA _) q p n⟩
    · cases e2
  · next l =>
    obtain ⟨ds, e1, e2⟩ := Option.bind_eq_some_iff.mp e
    split at e2
    · next hg =>
      cases e2
      obtain ⟨v, rfl, r1⟩ := RA.one_inv ra
      obtain ⟨a, ys, rfl, f, r2⟩ := r1
      exact call_sortedT hcalm hu pins s σ H _ us Q I rx ⟨a, ys, ds, rfl, f.sq, toPyA_ok _ _ _ e1 r2, hg, Post.lst hs r2 q⟩
    · cases e2
  · cases e
theorem blsW_ok {B : Bd} {μ ex : List Addr} {H : Hp} : ∀ {l : List W} {bs : List Bool} {xs : List V}, blsW l = some bs → RA B μ ex H l xs → xs = bs.map V.bl
  | [], _, _, e, r => by cases e; exact r
  | .bl b :: ws, _, _, e, ⟨x, xs, h, r1, r2⟩ => by
    obtain ⟨l, e1, rfl⟩ := Option.map_eq_some_iff.mp e
    rw [h, show x = V.bl b from r1, blsW_ok e1 r2]
    rfl
theorem intsW_ok {B : Bd} {μ ex : List Addr} {H : Hp} : ∀ {l : List W} {ns : List Int} {xs : List V}, intsW l = some ns → RA B μ ex H l xs → xs = ns.map V.int
  | [], _, _, e, r => by cases e; exact r
  | .int b :: ws, _, _, e, ⟨x, xs, h, r1, r2⟩ => by
    obtain ⟨l, e1, rfl⟩ := Option.map_eq_some_iff.mp e
    rw [h, show x = V.int b from r1, intsW_ok e1 r2]
    rfl
theorem cb_all (hcalm : X.calm = true) : CallR X (.builtin "all") (rCW (bd fa X) "all") := by
  intro pins s σ H xs us Q I rx ⟨ws, st, μ, ex, w, ra, hs, e, q⟩
  unfold callB at e
  rw [if_neg (by decide +kernel), if_neg (by decide +kernel), if_neg (by decide +kernel), if_neg (by decide +kernel), if_neg (by decide +kernel), if_neg (by decide +kernel), if_neg (by decide +kernel), if_neg (by decide +kernel), if_pos rfl] at e
  split at e
  case h_2 => cases e
  obtain ⟨bs, e1, rfl⟩ := Option.map_eq_some_iff.mp e
  obtain ⟨v, rfl, a, ys, rfl, f, r2⟩ := RA.one_inv ra
  have := blsW_ok e1 r2
  subst this
  exact cr_all hcalm pins s σ H _ us Q I rx ⟨a, bs, rfl, f.sq, q.now hs rfl⟩
theorem cb_any (hcalm : X.calm = true) : CallR X (.builtin "any") (rCW (bd fa X) "any") := by
  intro pins s σ H xs us Q I rx ⟨ws, st, μ, ex, w, ra, hs, e, q⟩
  unfold callB at e
  rw [if_neg (by decide +kernel), if_neg (by decide +kernel), if_neg (by decide +kernel), if_neg (by decide +kernel), if_neg (by decide +kernel), if_neg (by decide +kernel), if_neg (by decide +kernel), if_neg (by decide +kernel), if_neg (by decide +kernel), if_pos rfl] at e
  split at e
  case h_2 => cases e
  obtain ⟨bs, e1, rfl⟩ := Option.map_eq_some_iff.mp e
  obtain ⟨v, rfl, a, ys, rfl, f, r2⟩ := RA.one_inv ra
  have := blsW_ok e1 r2
  subst this
  exact cr_any hcalm pins s σ H _ us Q I rx ⟨a, bs, rfl, f.sq, q.now hs rfl⟩
theorem cb_sum (hcalm : X.calm = true) : CallR X (.builtin "sum") (rCW (bd fa X) "sum") := by
  intro pins s σ H xs us Q I rx ⟨ws, st, μ, ex, w, ra, hs, e, q⟩
  unfold callB at e
  rw [if_neg (by decide +kernel), if_neg (by decide +kernel), if_neg (by decide +kernel), if_neg (by decide +kernel), if_neg (by decide +kernel), if_neg (by decide +kernel), if_neg (by decide +kernel), if_neg (by decide +kernel), if_neg (by decide +kernel), if_neg (by decide +kernel), if_pos rfl] at e
  split at e
  case h_2 => cases e
  obtain ⟨bs, e1, rfl⟩ := Option.map_eq_some_iff.mp e
  obtain ⟨v, rfl, a, ys, rfl, f, r2⟩ := RA.one_inv ra
  have := intsW_ok e1 r2
  subst this
  exact cr_sum hcalm pins s σ H _ us Q I rx ⟨a, bs, rfl, f.sq, q.now hs rfl⟩
/-- a call of a name that holds a def -/
theorem loc_call {f : Str} (ro : RecOk c fa k r) (ok : Ok c fa X sc k) (p : Pos) (es : List Expr) (pos : Pos) (hz : specOf f es = none) (hg : glB sc f = false) :
    PE X (.Call (.Name f p) es [] pos) (tW (bd fa X) (evE c r sc (.Call (.Name f p) es [] pos))) := by
  refine ⟨fun pins s σ H Q I ⟨ρ, st, μ, ex, w, st', er, hs, e, q⟩ => ?_⟩
  simp only [evE, hz, hg, Bool.false_eq_true, false_and, if_false] at e
  split at e
  case isFalse => cases e
  next hc =>
  obtain ⟨hv, hn, he, _⟩ := hc
  obtain ⟨h1, h2, h3⟩ := okName_ok hn
  obtain ⟨w0, e1, e2⟩ := Option.bind_eq_some_iff.mp e
  cases w0 <;> first | (cases e2; done) | skip
  next h =>
  dsimp only at e2
  obtain ⟨d, e3, e4⟩ := Option.bind_eq_some_iff.mp e2
  obtain ⟨⟨ws, st1⟩, e5, e6⟩ := Option.bind_eq_some_iff.mp e4
  dsimp only at e6
  split at e6
  case isFalse => cases e6
  next hl =>
  unfold nameW at e1
  rw [if_pos hn, if_pos hv] at e1
  obtain ⟨i, e7, e8⟩ := Option.bind_eq_some_iff.mp e1
  obtain ⟨y, e9, rfl⟩ := Option.bind_eq_some_iff.mp e8
  obtain ⟨v, q1, a, rfl, q2⟩ := er.at_ i _ e9
  obtain ⟨a', fd, g1, g2, kp, b, F, _⟩ := ok.fns h d e3
  have : a = a' := Option.some.inj (q2.symm.trans g1)
  subst this
  cases es with
  | nil => cases he
  | cons e0 es =>
    have hst := stars_of e5
    simp only [noStars, Bool.and_eq_true, Bool.not_eq_true'] at hst
    refine (pe_callL (i := i) F ok.room (by rw [ok.N]; exact slot_ok e7) (vis_ok ok hv) kp b .nil pass0 (ok_list (ro X sc ok).1 (e0 :: es)) h1 h2 (star_no hst.1) (plain_of hst.2)).run pins s σ H Q I ⟨q1, ρ, st, μ, ex, ws, st1, er, hs, e5, fun μ1 H1 xs x1 s1 r1 => ?_⟩
    show spOf (bd fa X) c.call h d.ps.length (xs ++ []) H1 Q E0
    rw [List.append_nil]
    exact ⟨ws, st1, μ1, ex, w, st', hl, r1, s1, e6, q.ext x1⟩
theorem no_bltn {f : Str} {st : Sto} {ws : List W} (h1 : f ≠ "len") (h2 : f ≠ "isinstance") (h3 : f ≠ "int") (h4 : f ≠ "tuple") (h5 : f ≠ "list") (h6 : f ≠ "min") (h7 : f ≠ "max") (h8 : f ≠ "sorted") (h9 : f ≠ "all") (h10 : f ≠ "any") (h11 : f ≠ "sum") : callB st f ws = none := by
  unfold callB
  rw [if_neg h1, if_neg h2, if_neg h3, if_neg h4, if_neg h5, if_neg h6, if_neg h7, if_neg h8, if_neg h9, if_neg h10, if_neg h11]
theorem ok_Call0 (ro : RecOk c fa k r) (ok : Ok c fa X sc k) (f : Str) (p : Pos) (es : List Expr) (pos : Pos) (hz : specOf f es = none) : PE X (.Call (.Name f p) es [] pos) (tW (bd fa X) (evE c r sc (.Call (.Name f p) es [] pos))) := by
  by_cases hg : glB sc f = true
  case neg => exact loc_call ro ok p es pos hz (by simpa using hg)
  by_cases hn : okName f = true
  case neg => exact pe_false fun σ H Q ⟨ρ, st, μ, ex, w, st', er, s, e, q⟩ => by simp [evE, hz, hg, hn] at e
  cases hf : c.g.fns.lookup f with
  | some d => exact glob_call ro ok hf p es pos hz hg hn
  | none =>
    by_cases hb : f ∈ c.g.bs
    case neg => exact pe_false fun σ H Q ⟨ρ, st, μ, ex, w, st', er, s, e, q⟩ => by simp [evE, hz, hg, hn, hf, hb] at e
    by_cases h1 : f = "len"
    · subst h1; exact bltn_call ro ok hf hb p es pos hz hg hn (.inl ⟨_, PySem.boot_len, cb_len⟩)
    by_cases h2 : f = "isinstance"
    · subst h2; exact bltn_call ro ok hf hb p es pos hz hg hn (.inl ⟨_, by decide +kernel, cb_isi⟩)
    by_cases h3 : f = "int"
    · subst h3; exact bltn_call ro ok hf hb p es pos hz hg hn (.inr ⟨_, by decide +kernel, cb_int⟩)
    by_cases h4 : f = "tuple"
    · subst h4; exact bltn_call ro ok hf hb p es pos hz hg hn (.inr ⟨_, by decide +kernel, cb_tuple ok.calm⟩)
    by_cases h5 : f = "list"
    · subst h5; exact bltn_call ro ok hf hb p es pos hz hg hn (.inr ⟨_, by decide +kernel, cb_list ok.calm⟩)
    by_cases h6 : f = "min"
    · subst h6; exact bltn_call ro ok hf hb p es pos hz hg hn (.inl ⟨_, by decide +kernel, cb_min ok.calm⟩)
    by_cases h7 : f = "max"
    · subst h7; exact bltn_call ro ok hf hb p es pos hz hg hn (.inl ⟨_, by decide +kernel, cb_max ok.calm⟩)
    by_cases h8 : f = "sorted"
    · subst h8; exact bltn_call ro ok hf hb p es pos hz hg hn (.inl ⟨_, by decide +kernel, cb_sorted ok.calm (by have := ok.room.un; omega)⟩)
    by_cases h9 : f = "all"
    · subst h9; exact bltn_call ro ok hf hb p es pos hz hg hn (.inl ⟨_, by decide +kernel, cb_all ok.calm⟩)
    by_cases h10 : f = "any"
    · subst h10; exact bltn_call ro ok hf hb p es pos hz hg hn (.inl ⟨_, by decide +kernel, cb_any ok.calm⟩)
    by_cases h11 : f = "sum"
    · subst h11; exact bltn_call ro ok hf hb p es pos hz hg hn (.inl ⟨_, by decide +kernel, cb_sum ok.calm⟩)
    refine pe_false fun σ H Q ⟨ρ, st, μ, ex, w, st', er, s, e, q⟩ => ?_
    cases es with
    | nil => simp [evE, hz, hg, hn, hf, hb] at e
    | cons e0 es =>
      simp only [evE, hz, hg, hn, hf, hb, and_self, if_true] at e
      obtain ⟨⟨ws, st1⟩, e3, e4⟩ := Option.bind_eq_some_iff.mp e
      dsimp only at e4
      rw [no_bltn h1 h2 h3 h4 h5 h6 h7 h8 h9 h10 h11] at e4
      cases e4

/-! tests -/
theorem ok_tTruth (ro : RecOk c fa k r) (ok : Ok c fa X sc k) (e0 : Expr) (he : ∀ whole, isTrue e0 X.env whole = (do let v ← whole; standAt e0.pos; holding [v] (truthy v)))
    (ht : ∀ ρ st, tsE c r sc e0 ρ st = (r.ev sc e0 ρ st).bind fun (x, st1) => (truthW st1 x).map fun k => (k, st1)) : PT X e0 (tB (bd fa X) (tsE c r sc e0)) := by
  refine pt_mono (pt_truth ((ro X sc ok).1 e0) he) fun σ H Q ⟨ρ, st, μ, ex, b, st', er, s, e, q⟩ => ?_
  rw [ht] at e
  obtain ⟨⟨x, st1⟩, e1, e2⟩ := Option.bind_eq_some_iff.mp e
  obtain ⟨b', e3, e4⟩ := Option.map_eq_some_iff.mp e2
  cases e4
  exact ⟨ρ, st, μ, ex, x, _, er, s, e1, fun μ1 H1 vx x1 s1 r1 => ⟨b, truthW_ok r1 e3, q μ1 H1 x1 s1⟩⟩
theorem ok_tNot (ro : RecOk c fa k r) (ok : Ok c fa X sc k) (a : Expr) (pos : Pos) : PT X (.UnaryOp .Not a pos) (tB (bd fa X) (tsE c r sc (.UnaryOp .Not a pos))) := by
  refine pt_mono (pt_not ((ro X sc ok).2 a)) fun σ H Q ⟨ρ, st, μ, ex, b, st', er, s, e, q⟩ => ?_
  simp only [tsE] at e
  obtain ⟨⟨x, st1⟩, e1, e2⟩ := Option.map_eq_some_iff.mp e
  cases e2
  exact ⟨ρ, st, μ, ex, x, _, er, s, e1, fun μ1 H1 x1 s1 => q μ1 H1 x1 s1⟩
theorem pw_of {e : Expr} {t : TT} (h : PT X e t) (he : ∀ whole, isTrue e X.env whole = isTrue e X.env (eval e X.env)) : PW X e t := ⟨fun whole pins s σ H Q I q => by rw [he]; exact h.run pins s σ H Q I q⟩
theorem ok_tBool (ro : RecOk c fa k r) (ok : Ok c fa X sc k) (op : BoolOp) (es : List Expr) (pos : Pos) : PT X (.BoolOp op es pos) (tB (bd fa X) (tsE c r sc (.BoolOp op es pos))) := by
  cases es with
  | nil => exact pt_false fun σ H Q ⟨ρ, st, μ, ex, w, st', er, s, e, q⟩ => by cases op <;> cases e
  | cons a es =>
    cases es with
    | nil =>
      cases op with
      | And => exact (pw_and1 ((ro X sc ok).2 a)).pt
      | Or => exact (pw_or1 ((ro X sc ok).2 a)).pt
    | cons b es =>
      cases op with
      | And =>
        refine pt_mono (pw_and ((ro X sc ok).2 a) (pw_of ((ro X sc ok).2 (.BoolOp .And (b :: es) pos)) fun _ => rfl)).pt fun σ H Q ⟨ρ, st, μ, ex, w, st', er, s, e, q⟩ => ?_
        simp only [tsE] at e
        obtain ⟨⟨x, st1⟩, e1, e2⟩ := Option.bind_eq_some_iff.mp e
        refine ⟨ρ, st, μ, ex, x, st1, er, s, e1, fun μ1 H1 x1 s1 => ?_⟩
        cases x with
        | true => rw [if_pos rfl]; exact ⟨ρ, st1, μ1, ex, w, st', er.ext x1, s1, by simpa using e2, fun μ2 H2 x2 s2 => q μ2 H2 (x1.trans x2) s2⟩
        | false =>
          rw [if_neg (by decide)]
          simp at e2
          obtain ⟨rfl, rfl⟩ := e2
          exact q μ1 H1 x1 s1
      | Or =>
        refine pt_mono (pw_or ((ro X sc ok).2 a) (pw_of ((ro X sc ok).2 (.BoolOp .Or (b :: es) pos)) fun _ => rfl)).pt fun σ H Q ⟨ρ, st, μ, ex, w, st', er, s, e, q⟩ => ?_
        simp only [tsE] at e
        obtain ⟨⟨x, st1⟩, e1, e2⟩ := Option.bind_eq_some_iff.mp e
        refine ⟨ρ, st, μ, ex, x, st1, er, s, e1, fun μ1 H1 x1 s1 => ?_⟩
        cases x with
        | false => rw [if_neg (by decide)]; exact ⟨ρ, st1, μ1, ex, w, st', er.ext x1, s1, by simpa using e2, fun μ2 H2 x2 s2 => q μ2 H2 (x1.trans x2) s2⟩
        | true =>
          rw [if_pos rfl]
          simp at e2
          obtain ⟨rfl, rfl⟩ := e2
          exact q μ1 H1 x1 s1
theorem ok_ts (ro : RecOk c fa k r) (ok : Ok c fa X sc k) (e : Expr) : PT X e (tB (bd fa X) (tsE c r sc e)) := by
  cases e with
  | BoolOp op es pos => exact ok_tBool ro ok op es pos
  | UnaryOp op a pos =>
    cases op with
    | Not => exact ok_tNot ro ok a pos
    | Invert => exact pt_false fun σ H Q ⟨ρ, st, μ, ex, w, st', er, s, e, q⟩ => by cases e
    | UAdd => exact pt_false fun σ H Q ⟨ρ, st, μ, ex, w, st', er, s, e, q⟩ => by cases e
    | USub => exact pt_false fun σ H Q ⟨ρ, st, μ, ex, w, st', er, s, e, q⟩ => by cases e
  | IfExp t a b pos => exact pt_false fun σ H Q ⟨ρ, st, μ, ex, w, st', er, s, e, q⟩ => by cases e
  | Compare a ops cs pos =>
    match ops, cs with
    | [op], [b] => exact ok_tCompare ro ok a b op pos
    | [], _ => exact pt_false fun σ H Q ⟨ρ, st, μ, ex, w, st', er, s, e, q⟩ => by cases e
    | _ :: _ :: _, _ => exact pt_false fun σ H Q ⟨ρ, st, μ, ex, w, st', er, s, e, q⟩ => by cases e
    | [_], [] => exact pt_false fun σ H Q ⟨ρ, st, μ, ex, w, st', er, s, e, q⟩ => by cases e
    | [_], _ :: _ :: _ => exact pt_false fun σ H Q ⟨ρ, st, μ, ex, w, st', er, s, e, q⟩ => by cases e
  | _ => exact ok_tTruth ro ok _ (fun _ => rfl) (fun _ _ => rfl)
end
end MP
namespace MP
open PySem L2 PySem.Spec PyProof.Rows

section
variable {K : PySem.W.Frag} {B : Bd} {μ μ1 μ2 ex ex1 ex2 : List Addr} {H H1 H2 : Hp}
theorem Chg.refl : Chg μ ex H μ ex H := ⟨fun _ _ h => h, fun _ _ n nx h _ => ⟨h, n, nx⟩⟩
theorem Chg.trans (a : Chg μ ex H μ1 ex1 H1) (b : Chg μ1 ex1 H1 μ2 ex2 H2) : Chg μ ex H μ2 ex2 H2 :=
  ⟨fun n x h => b.ix n x (a.ix n x h), fun x o n nx h z => let ⟨h1, n1, m1⟩ := a.kept x o n nx h z; b.kept x o n1 m1 h1 z⟩
/-- a new list to be filled -/
theorem Chg.lay {D : Addr} {o : HO} (n : H D = none) : Chg μ ex H μ (D :: ex) (upd H D o) :=
  ⟨fun _ _ h => h, fun x u nm nx h _ => ⟨by rw [upd_ne (ne_of_none h n)]; exact h, nm, by
    intro z
    rcases List.mem_cons.mp z with z | z
    · rw [z, n] at h; cases h
    · exact nx z⟩⟩
theorem Chg.fill {D : Addr} {o : HO} : Chg μ (D :: ex) H μ (D :: ex) (upd H D o) :=
  ⟨fun _ _ h => h, fun x u nm nx h _ => ⟨by rw [upd_ne (fun z => nx (by rw [z]; exact List.mem_cons_self))]; exact h, nm, nx⟩⟩
theorem Chg.drop {D : Addr} : Chg μ (D :: ex) H μ ex H := ⟨fun _ _ h => h, fun x u nm nx h _ => ⟨h, nm, fun z => nx (List.mem_cons_of_mem _ z)⟩⟩
theorem S.lay {D : Addr} {o : HO} {st : Sto} (s : S B μ ex H st) (n : H D = none) : S B μ (D :: ex) (upd H D o) st := by
  obtain ⟨e, s', np, nx⟩ := s.new (o := o) n
  refine ⟨?_, s.len, fun i u h => ?_, fun a h => ?_, s.tab.step fun b u nb q => ⟨by rw [upd_ne (ne_of_none q n)]; exact q, nb.1, fun z => (List.mem_cons.mp z).elim (fun z => by rw [z, n] at q; cases q) nb.2⟩⟩
  · rw [List.nodup_append] at *
    have q := s.nd
    rw [List.nodup_append] at q
    refine ⟨q.1, List.nodup_cons.mpr ⟨nx, q.2.1⟩, fun x hx y hy z => ?_⟩
    rcases List.mem_cons.mp hy with hy | hy
    · exact np (by rw [← hy, ← z]; exact hx)
    · exact q.2.2 x hx y hy z
  · obtain ⟨a, q1, q2⟩ := s.obj i u h
    refine ⟨a, q1, ?_⟩
    rw [upd_ne (fun z => np (by rw [← z]; exact List.mem_of_getElem? q1))]
    exact q2.chg (Chg.lay n)
  · rcases List.mem_cons.mp h with h | h
    · rw [h, upd_same]; exact fun z => nomatch z
    · exact s'.exs a h
theorem S.fill {D : Addr} {o : HO} {st : Sto} (s : S B μ (D :: ex) H st) : S B μ (D :: ex) (upd H D o) st := by
  have q := s.nd
  rw [List.nodup_append] at q
  have np : D ∉ μ := fun h => q.2.2 D h D List.mem_cons_self rfl
  refine ⟨s.nd, s.len, fun i u h => ?_, fun a h => ?_, s.tab.step fun b u nb q => ⟨by rw [upd_ne (fun z => nb.2 (by rw [z]; exact List.mem_cons_self))]; exact q, nb⟩⟩
  · obtain ⟨a, q1, q2⟩ := s.obj i u h
    refine ⟨a, q1, ?_⟩
    rw [upd_ne (fun z => np (by rw [← z]; exact List.mem_of_getElem? q1))]
    exact q2.chg Chg.fill
  · by_cases hz : a = D
    · rw [hz, upd_same]; exact fun z => nomatch z
    · rw [upd_ne hz]; exact s.exs a h
theorem S.drop {D : Addr} {st : Sto} (s : S B μ (D :: ex) H st) : S B μ ex H st := by
  have q := s.nd
  rw [List.nodup_append] at q
  refine ⟨?_, s.len, fun i u h => let ⟨a, q1, q2⟩ := s.obj i u h; ⟨a, q1, q2.chg Chg.drop⟩, fun a h => s.exs a (List.mem_cons_of_mem _ h), s.tab.step fun b u nb q => ⟨q, nb.1, fun z => nb.2 (List.mem_cons_of_mem _ z)⟩⟩
  rw [List.nodup_append]
  exact ⟨q.1, (List.nodup_cons.mp q.2.1).2, fun x hx y hy => q.2.2 x hx y (List.mem_cons_of_mem _ hy)⟩
/-- the heap without D -/
def cutH (H : Hp) (D : Addr) : Hp := fun b => if b = D then none else H b
theorem Chg.cut {D : Addr} : Chg μ (D :: ex) H μ ex (cutH H D) := ⟨fun _ _ h => h, fun x u nm nx h _ => ⟨by unfold cutH; rw [if_neg (fun z => nx (by rw [z]; exact List.mem_cons_self))]; exact h, nm, fun z => nx (List.mem_cons_of_mem _ z)⟩⟩
theorem S.cut {D : Addr} {st : Sto} (s : S B μ (D :: ex) H st) : S B μ ex (cutH H D) st := by
  have q := s.nd
  rw [List.nodup_append] at q
  have np : D ∉ μ := fun h => q.2.2 D h D List.mem_cons_self rfl
  refine ⟨?_, s.len, fun i u h => ?_, fun a h => ?_, s.tab.step fun b u nb q => ⟨by unfold cutH; rw [if_neg (fun z => nb.2 (by rw [z]; exact List.mem_cons_self))]; exact q, nb.1, fun z => nb.2 (List.mem_cons_of_mem _ z)⟩⟩
  · rw [List.nodup_append]
    exact ⟨q.1, (List.nodup_cons.mp q.2.1).2, fun x hx y hy => q.2.2 x hx y (List.mem_cons_of_mem _ hy)⟩
  · obtain ⟨a, q1, q2⟩ := s.obj i u h
    refine ⟨a, q1, ?_⟩
    unfold cutH
    rw [if_neg (fun z => np (by rw [← z]; exact List.mem_of_getElem? q1))]
    exact q2.chg Chg.cut
  · unfold cutH
    rw [if_neg (fun z => (List.nodup_cons.mp q.2.1).1 (by rw [← z]; exact h))]
    exact s.exs a (List.mem_cons_of_mem _ h)
/-- an iterator over the items ws -/
def Wk (B : Bd) (J : It) (μ ex : List Addr) (H : Hp) (ws : List W) : Prop :=
  ∃ (G : Hp → Prop) (Y : Nat → Hp → V → Hp → Prop), L2.Walk J ws.length G Y ∧ (∀ μ' ex' H', Chg μ ex H μ' ex' H' → G H') ∧
    ∀ (i : Nat) (w : W) (st : Sto) (μ' ex' : List Addr) (H1 : Hp) (x : V) (H2 : Hp), ws[i]? = some w → Chg μ ex H μ' ex' H1 → S B μ' ex' H1 st → Y i H1 x H2 → Ext μ' H1 μ' H2 ∧ S B μ' ex' H2 st ∧ R B μ' ex' H2 w x
theorem wk_lst {a : Addr} {l : List W} {xs : List V} (r : RA B μ ex H l xs) (h : ∀ μ' ex' H', Chg μ ex H μ' ex' H' → SqL K H' a xs) : Wk B (Itl K a) μ ex H l := by
  refine ⟨fun H => SqL K H a xs, YAt xs, by rw [r.length]; exact walk_list, h, fun i w st μ' ex' H1 x H2 q cg s y => ?_⟩
  obtain ⟨rfl, y⟩ := y
  obtain ⟨v, e1, r1⟩ := r.get q
  rw [y] at e1
  cases e1
  exact ⟨Ext.refl _ _, s, R.chg cg _ _ r1⟩
theorem wk_tup {a : Addr} {l : List W} {xs : List V} (r : RA B μ ex H l xs) (h : ∀ μ' ex' H', Chg μ ex H μ' ex' H' → SqT K H' a xs) : Wk B (Itt K a) μ ex H l := by
  refine ⟨fun H => SqT K H a xs, YAt xs, by rw [r.length]; exact walk_tup, h, fun i w st μ' ex' H1 x H2 q cg s y => ?_⟩
  obtain ⟨rfl, y⟩ := y
  obtain ⟨v, e1, r1⟩ := r.get q
  rw [y] at e1
  cases e1
  exact ⟨Ext.refl _ _, s, R.chg cg _ _ r1⟩
theorem wk_str {z : Str} : Wk B (Its z) μ ex H (signs z) := by
  refine ⟨fun _ => True, _, by rw [show (signs z).length = z.cps.size by simp [signs]]; exact walk_str, fun _ _ _ _ => trivial, fun i w st μ' ex' H1 x H2 q cg s y => ?_⟩
  obtain ⟨rfl, ch, e1, rfl⟩ := y
  refine ⟨Ext.refl _ _, s, ?_⟩
  unfold signs at q
  rw [List.getElem?_map] at q
  obtain ⟨c', e2, rfl⟩ := Option.map_eq_some_iff.mp q
  have : z.cps[i]? = some c' := by simpa using e2
  rw [e1] at this
  cases this
  rfl
theorem wk_range {j : Int} : Wk B (Itr 0 j.toNat) μ ex H ((List.range j.toNat).map fun i => W.int ((i : Nat) : Int)) := by
  refine ⟨fun _ => True, _, by rw [List.length_map, List.length_range]; exact walk_range, fun _ _ _ _ => trivial, fun i w st μ' ex' H1 x H2 q cg s y => ?_⟩
  obtain ⟨rfl, rfl⟩ := y
  refine ⟨Ext.refl _ _, s, ?_⟩
  rw [List.getElem?_map] at q
  obtain ⟨i', e2, rfl⟩ := Option.map_eq_some_iff.mp q
  have := List.getElem?_range (show i < j.toNat from by simpa using (List.getElem?_eq_some_iff.mp e2).1)
  rw [e2] at this
  cases this
  show V.int (0 + (i : Nat)) = V.int _
  simp
def tI (B : Bd) (f : Rho → Sto → Option (List W × Sto)) : TI := fun σ H Rr => ∃ ρ st μ ex ws st',
  EnvR B μ ex H ρ σ ∧ S B μ ex H st ∧ f ρ st = some (ws, st') ∧ ∀ μ' H' J, Ext μ H μ' H' → S B μ' ex H' st' → Wk B J μ' ex H' ws → Rr J H'
theorem frl_sq {a : Addr} {xs : List V} (f : FrL μ ex H a xs) : ∀ μ' ex' H', Chg μ ex H μ' ex' H' → SqL K H' a xs := fun μ' ex' H' cg => SqL.of (cg.kept a _ f.2.1 f.2.2 f.1 (nt_lst _)).1
theorem frr_sq {a : Addr} {xs : List V} (f : FrR K μ ex H a xs) : ∀ μ' ex' H', Chg μ ex H μ' ex' H' → SqL K H' a xs := fun μ' ex' H' cg => by
  rcases f with ⟨f, n, nx⟩ | f
  · obtain ⟨o, ho, nt⟩ := rd_some (nt_lst _) f
    exact .inl (rd_chg ho (fun q => (cg.kept a o n nx q nt).1) f)
  · exact .inr f
theorem frt_sq {a : Addr} {xs : List V} (f : FrT K μ ex H a xs) : ∀ μ' ex' H', Chg μ ex H μ' ex' H' → SqT K H' a xs := fun μ' ex' H' cg => by
  rcases f with ⟨f, n, nx⟩ | f
  · obtain ⟨o, ho, nt⟩ := rd_some (nt_tup _) f
    exact .inl (rd_chg ho (fun q => (cg.kept a o n nx q nt).1) f)
  · exact .inr f
end
theorem pi_or {X : Cx} {tg e : Expr} {t u : TI} (h : PI X tg e t) (h' : PI X tg e u) : PI X tg e (fun σ H R => t σ H R ∨ u σ H R) :=
  ⟨fun pins s σ H R I q => q.elim (h.run pins s σ H R I) (h'.run pins s σ H R I)⟩
theorem pi_mono {X : Cx} {tg e : Expr} {t t' : TI} (h : PI X tg e t) (m : ∀ σ H Q, t' σ H Q → t σ H Q) : PI X tg e t' := ⟨fun pins s σ H Q I q => h.run pins s σ H Q I (m σ H Q q)⟩
theorem pi_false {X : Cx} {tg e : Expr} {t : TI} (m : ∀ σ H Q, ¬ t σ H Q) : PI X tg e t := ⟨fun pins s σ H Q I q => (m σ H Q q).elim⟩

section
variable {c : Cfg} {fa : Str → Option Addr} {X : Cx} {sc : Scope} {k : Nat} {r : Rec}
/-- a value walked -/
def seqW : W → Option (List W)
  | .tup l => some l
  | .lst l => some l
  | .rl l => some l
  | .str s => some (signs s)
  | _ => none
theorem ok_iterV (ro : RecOk c fa k r) (ok : Ok c fa X sc k) (tg e : Expr) : PI X tg e (tI (bd fa X) fun ρ st => (r.ev sc e ρ st).bind fun (w, st1) => (seqW w).map fun l => (l, st1)) := by
  have h := (ro X sc ok).1 e
  refine pi_mono (pi_or (pi_or (pi_list h) (pi_tup h)) (pi_str h)) fun σ H Rr ⟨ρ, st, μ, ex, ws, st', er, s, e, q⟩ => ?_
  obtain ⟨⟨w, st1⟩, e1, e2⟩ := Option.bind_eq_some_iff.mp e
  obtain ⟨l, e3, e4⟩ := Option.map_eq_some_iff.mp e2
  cases e4
  cases w <;> first | (cases e3; done) | skip
  · cases e3
    refine .inr ⟨ρ, st, μ, ex, _, _, er, s, e1, fun μ1 H1 vx x1 s1 r1 => ?_⟩
    exact ⟨_, r1, q μ1 H1 _ x1 s1 wk_str⟩
  · cases e3
    refine .inl (.inr ⟨ρ, st, μ, ex, _, _, er, s, e1, fun μ1 H1 vx x1 s1 r1 => ?_⟩)
    obtain ⟨a, xs, rfl, f, r2⟩ := r1
    exact ⟨a, rfl, ⟨xs, f.sq⟩, q μ1 H1 _ x1 s1 (wk_tup r2 (frt_sq f))⟩
  · cases e3
    refine .inl (.inl ⟨ρ, st, μ, ex, _, _, er, s, e1, fun μ1 H1 vx x1 s1 r1 => ?_⟩)
    obtain ⟨a, xs, rfl, f, r2⟩ := r1
    exact ⟨a, rfl, ⟨xs, f.sq⟩, q μ1 H1 _ x1 s1 (wk_lst r2 (frl_sq f))⟩
  · cases e3
    refine .inl (.inl ⟨ρ, st, μ, ex, _, _, er, s, e1, fun μ1 H1 vx x1 s1 r1 => ?_⟩)
    obtain ⟨a, xs, rfl, f, r2⟩ := r1
    exact ⟨a, rfl, ⟨xs, f.1.sq⟩, q μ1 H1 _ x1 s1 (wk_lst r2 (frr_sq f.1))⟩
theorem ok_range (ro : RecOk c fa k r) (ok : Ok c fa X sc k) (tg a : Expr) (p pos : Pos) (hg : glB sc "range" = true) (hb : ("range" : Str) ∈ c.g.bs) :
    PI X tg (.Call (.Name "range" p) [a] [] pos) (tI (bd fa X) fun ρ st => (evList (r.ev sc) [a] ρ st).bind fun (ws, st1) => match ws with
        | [.int j] => if -(2 ^ 62) ≤ j ∧ j < 2 ^ 62 then some ((List.range j.toNat).map fun i => .int ((i : Nat) : Int), st1) else none
        | _ => none) := by
  by_cases hs : isStar a = true
  · refine pi_false fun σ H Rr ⟨ρ, st, μ, ex, ws, st', er, s, e, q⟩ => ?_
    simp [evList, hs] at e
  · refine pi_mono (pi_range1 (gl_ok ok hg) (ok.bs _ hb) (ok_list (ro X sc ok).1 [a]) (by rw [star_no (by simpa using hs)]; rfl)) fun σ H Rr ⟨ρ, st, μ, ex, ws, st', er, s, e, q⟩ => ?_
    obtain ⟨⟨l, st1⟩, e1, e2⟩ := Option.bind_eq_some_iff.mp e
    dsimp only at e2
    split at e2
    · split at e2
      · next hj =>
        cases e2
        refine ⟨ρ, st, μ, ex, _, _, er, s, e1, fun μ1 H1 xs x1 s1 r1 => ?_⟩
        obtain ⟨v, rfl, r2⟩ := RA.one_inv r1
        subst r2
        exact ⟨_, rfl, hj.1, hj.2, q μ1 H1 _ x1 s1 wk_range⟩
      · cases e2
    · cases e2
theorem tI_congr {B : Bd} {f g : Rho → Sto → Option (List W × Sto)} (h : ∀ ρ st, f ρ st = g ρ st) : tI B f = tI B g := by
  have : f = g := funext fun ρ => funext fun st => h ρ st
  rw [this]
/-- pairs of a place and an item -/
theorem wk_num {J : It} {B : Bd} {μ ex : List Addr} {H : Hp} {l : List W} {xs : List V} {G : Hp → Prop} (r1 : RA B μ ex H l xs) (wk : L2.Walk J xs.length G (YPair (fun i => some (.int (i : Nat))) (fun i => xs[i]?))) (h : ∀ μ' ex' H', Chg μ ex H μ' ex' H' → G H') :
    Wk B J μ ex H (numW 0 l) := by
  have len : ∀ (i : Nat) (l : List W), (numW i l).length = l.length := fun i l => by
    induction l generalizing i with
    | nil => rfl
    | cons w ws ih => unfold numW; rw [List.length_cons, List.length_cons, ih]
  have get : ∀ (l : List W) (i j : Nat) (w : W), (numW i l)[j]? = some w → ∃ u, l[j]? = some u ∧ w = .tup [.int ((i + j : Nat) : Int), u] := fun l => by
    induction l with
    | nil => intro i j w e; simp [numW] at e
    | cons u us ih =>
      intro i j w e
      unfold numW at e
      cases j with
      | zero => simp at e; exact ⟨u, rfl, e.symm⟩
      | succ j =>
        obtain ⟨v, e1, e2⟩ := ih (i + 1) j w (by simpa using e)
        exact ⟨v, by simpa using e1, by rw [e2, show i + 1 + j = i + (j + 1) by omega]⟩
  refine ⟨G, _, by rw [len, r1.length]; exact wk, h, fun i w st μ' ex' H1 x H2 q cg s y => ?_⟩
  obtain ⟨T, x1, y1, e1, n, e2, e3, e4⟩ := y
  subst e1 e2
  obtain ⟨u, q1, rfl⟩ := get l 0 i w q
  obtain ⟨v, q2, r2⟩ := r1.get q1
  dsimp only at e3 e4
  rw [q2] at e4
  cases e4
  cases e3
  obtain ⟨xe, s2, np, nx⟩ := s.new (o := .tup [.int (i : Nat), y1]) n
  have h1 : R B μ' ex' (upd H1 T (.tup [.int (i : Nat), y1])) (.int ((0 + i : Nat) : Int)) (.int (i : Nat)) := by
    show V.int _ = V.int _
    simp
  have h2 : RA B μ' ex' (upd H1 T (.tup [.int (i : Nat), y1])) [.int ((0 + i : Nat) : Int), u] [.int (i : Nat), y1] := ⟨_, _, rfl, h1, RA.one (R.chg xe.chg _ _ (R.chg cg _ _ r2))⟩
  exact ⟨xe, s2, T, _, rfl, .inl ⟨.inl upd_same, np, nx⟩, h2⟩
theorem ok_enum (ro : RecOk c fa k r) (ok : Ok c fa X sc k) (es : List Expr) (kt : Nat) (pt : Pos) (a : Expr) (p pos : Pos) (hg : glB sc "enumerate" = true) (hb : ("enumerate" : Str) ∈ c.g.bs) :
    PI X (.Tuple es kt pt) (.Call (.Name "enumerate" p) [a] [] pos) (tI (bd fa X) fun ρ st => (evList (r.ev sc) [a] ρ st).bind fun (ws, st1) => match ws with
        | [w] => (rowW w).map fun l => (numW 0 l, st1)
        | _ => none) := by
  by_cases hs : isStar a = true
  · refine pi_false fun σ H Rr ⟨ρ, st, μ, ex, ws, st', er, s, e, q⟩ => ?_
    simp [evList, hs] at e
  · refine pi_mono (pi_enumA (gl_ok ok hg) (ok.bs _ hb) (ok_list (ro X sc ok).1 [a]) (by rw [star_no (by simpa using hs)]; rfl)) fun σ H Rr ⟨ρ, st, μ, ex, ws, st', er, s, e, q⟩ => ?_
    obtain ⟨⟨l, st1⟩, e1, e2⟩ := Option.bind_eq_some_iff.mp e
    dsimp only at e2
    split at e2
    · next w =>
      obtain ⟨l', e3, e4⟩ := Option.map_eq_some_iff.mp e2
      cases e4
      refine ⟨ρ, st, μ, ex, _, _, er, s, e1, fun μ1 H1 xs x1 s1 r1 => ?_⟩
      obtain ⟨v, rfl, r2⟩ := RA.one_inv r1
      cases w <;> first | (cases e3; done) | skip
      · cases e3
        obtain ⟨a1, ys, rfl, f, r3⟩ := r2
        exact ⟨a1, ys, rfl, .inr ⟨f.sq, q μ1 H1 _ x1 s1 (wk_num r3 walkE (frt_sq f))⟩⟩
      · cases e3
        obtain ⟨a1, ys, rfl, f, r3⟩ := r2
        exact ⟨a1, ys, rfl, .inl ⟨f.sq, q μ1 H1 _ x1 s1 (wk_num r3 walk_enum (frl_sq f))⟩⟩
      · cases e3
        obtain ⟨a1, ys, rfl, f, r3⟩ := r2
        exact ⟨a1, ys, rfl, .inl ⟨f.1.sq, q μ1 H1 _ x1 s1 (wk_num r3 walk_enum (frr_sq f.1))⟩⟩
    · cases e2
theorem ok_iter (ro : RecOk c fa k r) (ok : Ok c fa X sc k) (tg e : Expr) : PI X tg e (tI (bd fa X) (iterW (r.ev sc) (evList (r.ev sc)) c.g sc (isTupE tg) e)) := by
  have gen : (∀ ρ st ws st', iterW (r.ev sc) (evList (r.ev sc)) c.g sc (isTupE tg) e ρ st = some (ws, st') → ((r.ev sc e ρ st).bind fun (w, st1) => (seqW w).map fun l => (l, st1)) = some (ws, st')) → PI X tg e (tI (bd fa X) (iterW (r.ev sc) (evList (r.ev sc)) c.g sc (isTupE tg) e)) := by
    intro h
    exact pi_mono (ok_iterV ro ok tg e) fun σ H Rr ⟨ρ, st, μ, ex, ws, st', er, s, e, q⟩ => ⟨ρ, st, μ, ex, ws, st', er, s, h _ _ _ _ e, q⟩
  have fin : ∀ (x : Option (W × Sto)) (ws : List W) (st' : Sto), (x.bind fun (w, st1) => match w with
      | .tup l => some (l, st1) | .lst l => some (l, st1) | .rl l => some (l, st1) | _ => (none : Option (List W × Sto))) = some (ws, st') → (x.bind fun (w, st1) => (seqW w).map fun l => (l, st1)) = some (ws, st') := by
    intro x ws st' h
    obtain ⟨⟨w, st1⟩, rfl, e2⟩ := Option.bind_eq_some_iff.mp h
    cases w <;> first | (cases e2; done) | (cases e2; rfl)
  have fin2 : ∀ (x : Option (W × Sto)) (ws : List W) (st' : Sto), (x.bind fun (w, st1) => match w with
      | .tup l => some (l, st1) | .lst l => some (l, st1) | .rl l => some (l, st1) | .str s => some (signs s, st1) | _ => (none : Option (List W × Sto))) = some (ws, st') → (x.bind fun (w, st1) => (seqW w).map fun l => (l, st1)) = some (ws, st') := by
    intro x ws st' h
    obtain ⟨⟨w, st1⟩, rfl, e2⟩ := Option.bind_eq_some_iff.mp h
    cases w <;> first | (cases e2; done) | (cases e2; rfl)
  by_cases hr : ∃ p a pos, e = .Call (.Name "range" p) [a] [] pos ∧ glB sc "range" = true ∧ ("range" : Str) ∈ c.g.bs
  · obtain ⟨p, a, pos, rfl, hg, hb⟩ := hr
    refine pi_mono (ok_range ro ok tg a p pos hg hb) fun σ H Rr ⟨ρ, st, μ, ex, ws, st', er, s, e, q⟩ => ⟨ρ, st, μ, ex, ws, st', er, s, ?_, q⟩
    have e2 := e
    unfold iterW at e2
    dsimp only at e2
    rw [if_neg (fun z => absurd z.1 (by decide)), if_pos ⟨rfl, hg, hb⟩] at e2
    exact e2
  by_cases hr2 : ∃ p a pos, e = .Call (.Name "enumerate" p) [a] [] pos ∧ glB sc "enumerate" = true ∧ ("enumerate" : Str) ∈ c.g.bs
  · obtain ⟨p, a, pos, rfl, hg, hb⟩ := hr2
    cases tg <;> first | (refine pi_false fun σ H Rr ⟨ρ, st, μ, ex, ws, st', er, s, e, q⟩ => ?_; unfold iterW at e; dsimp only at e; rw [if_pos ⟨rfl, hg, hb⟩] at e; simp only [isTupE, Bool.false_eq_true, if_false] at e; cases e; done) | skip
    refine pi_mono (ok_enum ro ok _ _ _ a p pos hg hb) fun σ H Rr ⟨ρ, st, μ, ex, ws, st', er, s, e, q⟩ => ⟨ρ, st, μ, ex, ws, st', er, s, ?_, q⟩
    unfold iterW at e
    dsimp only at e
    rw [if_pos ⟨rfl, hg, hb⟩] at e
    exact e
  · apply gen
    intro ρ st ws st' h
    unfold iterW at h
    split at h
    · next x p a pos =>
      rw [if_neg (fun z => hr2 (by obtain ⟨rfl, h1, h2⟩ := z; exact ⟨p, a, pos, rfl, h1, h2⟩))] at h
      split at h
      · next hx =>
        obtain ⟨rfl, h1, h2⟩ := hx
        exact absurd ⟨p, a, pos, rfl, h1, h2⟩ hr
      · exact fin _ _ _ h
    · split at h
      · cases h
      · exact fin2 _ _ _ h
end
end MP
namespace MP
open PySem L2 PySem.Spec PyProof.Rows

section
theorem wipe_get {σ : L2.St} {j : Nat} : ∀ {vs : List Nat}, j ∈ vs → (wipe σ vs)[j]? = (σ[j]?).map fun _ => none
  | [], h => by simp at h
  | v :: vs, h => by
    unfold wipe
    by_cases e : v = j
    · subst e
      by_cases hl : v < σ.length
      · rw [List.getElem?_set_self (by rw [wipe_length]; exact hl), List.getElem?_eq_getElem hl]
        rfl
      · rw [List.getElem?_eq_none (by rw [List.length_set, wipe_length]; omega), List.getElem?_eq_none (by omega)]
        rfl
    · rw [List.getElem?_set_ne e]
      exact wipe_get ((List.mem_cons.mp h).resolve_left fun z => e z.symm)
theorem wipe_ext {σ σ' : L2.St} {vs : List Nat} (hl : σ.length = σ'.length) (h : ∀ j, j ∉ vs → σ[j]? = σ'[j]?) : wipe σ vs = wipe σ' vs := by
  apply List.ext_getElem?
  intro j
  by_cases hj : j ∈ vs
  · rw [wipe_get hj, wipe_get hj]
    by_cases hk : j < σ.length
    · rw [List.getElem?_eq_getElem hk, List.getElem?_eq_getElem (by omega)]
      rfl
    · rw [List.getElem?_eq_none (by omega), List.getElem?_eq_none (by omega)]
  · rw [wipe_out hj, wipe_out hj]
    exact h j hj
theorem wipeR_eq (ρ : Rho) : ∀ vs, (wipeR ρ vs).length = ρ.length
  | [] => rfl
  | v :: vs => by unfold wipeR; rw [List.length_set, wipeR_eq ρ vs]
theorem wipeR_some {ρ : Rho} {i : Nat} {x : W} : ∀ {vs : List Nat}, (wipeR ρ vs)[i]? = some (some x) → ρ[i]? = some (some x) ∧ i ∉ vs
  | [], h => ⟨h, by simp⟩
  | v :: vs, h => by
    unfold wipeR at h
    by_cases hi : v = i
    · subst hi
      by_cases hv : v < (wipeR ρ vs).length
      · rw [List.getElem?_set_self hv] at h
        cases h
      · rw [List.getElem?_eq_none (by simpa using hv)] at h
        cases h
    · rw [List.getElem?_set_ne hi] at h
      obtain ⟨h1, h2⟩ := wipeR_some h
      exact ⟨h1, fun z => (List.mem_cons.mp z).elim (fun z => hi z.symm) h2⟩
variable {B : Bd} {μ ex : List Addr} {H : Hp}
theorem EnvR.wipe {ρ : Rho} {σ : L2.St} (h : EnvR B μ ex H ρ σ) (vs : List Nat) : EnvR B μ ex H (wipeR ρ vs) (L2.wipe σ vs) := by
  refine ⟨by rw [wipeR_eq, wipe_length]; exact h.len, fun i w q => ?_⟩
  obtain ⟨h1, h2⟩ := wipeR_some q
  obtain ⟨v, e1, r1⟩ := h.at_ i w h1
  exact ⟨v, by rw [wipe_out h2]; exact e1, r1⟩
def nmE : Expr → List Str
  | .Name x _ => [x]
  | _ => []
def tgNames : Expr → List Str
  | .Name x _ => [x]
  | .Tuple es _ _ => es.flatMap nmE
  | _ => []
def Wiped (N : List Str) (xs : List Str) (σ σ' : L2.St) : Prop := ∀ vs : List Nat, (∀ x ∈ xs, ∀ i, slot x N = some i → i ∈ vs) → wipe σ' vs = wipe σ vs
theorem Wiped.set {N : List Str} {x : Str} {i : Nat} {σ : L2.St} {v : Option V} (h : slot x N = some i) : Wiped N [x] σ (σ.set i v) := fun vs q => by
  have hi := q x (by simp) i h
  exact wipe_ext (by simp) fun j hj => by rw [List.getElem?_set_ne]; intro z; exact hj (by rw [← z]; exact hi)
def tG (B : Bd) (N : List Str) (lo : Str → Bool) (sc : Scope) (tg : Expr) : TG := fun v σ H Q => ∃ ρ st μ ex w ρ',
  EnvR B μ ex H ρ σ ∧ S B μ ex H st ∧ R B μ ex H w v ∧ asgW N lo sc tg w ρ = some ρ' ∧ ∀ σ', EnvR B μ ex H ρ' σ' → Wiped N (tgNames tg) σ σ' → Q σ' H
def tGs (B : Bd) (N : List Str) (lo : Str → Bool) (sc : Scope) (es : List Expr) : TGs := fun vs σ H Q => ∃ ρ st μ ex ws ρ',
  EnvR B μ ex H ρ σ ∧ S B μ ex H st ∧ RA B μ ex H ws vs ∧ asgAll N lo sc es ws ρ = some ρ' ∧ ∀ σ', EnvR B μ ex H ρ' σ' → Wiped N (es.flatMap nmE) σ σ' → Q σ' H
end
theorem pg_mono {X : Cx} {tg : Expr} {t t' : TG} (h : PG X tg t) (m : ∀ v σ H Q, t' v σ H Q → t v σ H Q) : PG X tg t' := ⟨fun pins s σ H v u Q I r q => h.run pins s σ H v u Q I r (m v σ H Q q)⟩
theorem pg_false {X : Cx} {tg : Expr} {t : TG} (m : ∀ v σ H Q, ¬ t v σ H Q) : PG X tg t := ⟨fun pins s σ H v u Q I r q => (m v σ H Q q).elim⟩
theorem pg_or {X : Cx} {tg : Expr} {t u : TG} (h : PG X tg t) (h' : PG X tg u) : PG X tg (fun v σ H Q => t v σ H Q ∨ u v σ H Q) := ⟨fun pins s σ H v z Q I r q => q.elim (h.run pins s σ H v z Q I r) (h'.run pins s σ H v z Q I r)⟩
theorem pgs_mono {X : Cx} {tg : List Expr} {t t' : TGs} (h : PGs X tg t) (m : ∀ v σ H Q, t' v σ H Q → t v σ H Q) : PGs X tg t' := ⟨fun pins s σ H v u Q I r q => h.run pins s σ H v u Q I r (m v σ H Q q)⟩
theorem pgs_false {X : Cx} {tg : List Expr} {t : TGs} (m : ∀ v σ H Q, ¬ t v σ H Q) : PGs X tg t := ⟨fun pins s σ H v u Q I r q => (m v σ H Q q).elim⟩

section
variable {c : Cfg} {fa : Str → Option Addr} {X : Cx} {sc : Scope} {k : Nat} {r : Rec} {lo : Str → Bool}
theorem asB_ok (ok : Ok c fa X sc k) (hfn : ∀ x, lo x = true → X.fn x = true) {x : Str} (h : asB lo sc x = true) : Loc X.env.scope x ∧ (X.fn x = true ∨ X.env.scope.names.lookup x = some .local) := by
  rw [ok.scE]
  unfold asB at h
  cases q : sc.names.lookup x with
  | none => rw [q] at h; cases h
  | some z =>
    rw [q] at h
    cases z with
    | «local» => exact ⟨.inl q, .inr rfl⟩
    | cell => exact ⟨.inr q, .inl (hfn x h)⟩
    | free => cases h
    | globalExplicit => cases h
    | globalImplicit => cases h
theorem ok_gName (ok : Ok c fa X sc k) (hfn : ∀ x, lo x = true → X.fn x = true) (x : Str) (pos : Pos) : PG X (.Name x pos) (tG (bd fa X) c.N lo sc (.Name x pos)) := by
  by_cases ha : asB lo sc x = true
  case neg => exact pg_false fun v σ H Q ⟨ρ, st, μ, ex, w, ρ', er, s, r1, e, q⟩ => by simp [asgW, ha] at e
  cases hs : slot x c.N with
  | none => exact pg_false fun v σ H Q ⟨ρ, st, μ, ex, w, ρ', er, s, r1, e, q⟩ => by simp [asgW, ha, hs] at e
  | some i =>
    obtain ⟨h1, h2⟩ := asB_ok ok hfn ha
    refine pg_mono (pg_name (i := i) (by rw [ok.N]; exact ok.nd) (by rw [ok.N]; exact slot_ok hs) h1 h2) fun v σ H Q ⟨ρ, st, μ, ex, w, ρ', er, s, r1, e, q⟩ => ?_
    simp only [asgW, ha, hs, if_true, Option.map_some, Option.some.injEq] at e
    subst e
    exact q _ (er.set i r1) (Wiped.set hs)
theorem asg_name {e : Expr} {es : List Expr} {env : PySem.Env} (h : ∃ x p, e = .Name x p) : (assignEach (e :: es) env).map (·.2) = assign e env :: (assignEach es env).map (·.2) := by
  obtain ⟨x, p, rfl⟩ := h
  rfl
theorem asg_len {env : PySem.Env} : ∀ es : List Expr, (assignEach es env).length = es.length
  | [] => rfl
  | e :: es => by cases e <;> (show (_ :: assignEach es env).length = _; rw [List.length_cons, List.length_cons, asg_len es])
theorem asgS_all {N : List Str} {lo : Str → Bool} {sc : Scope} : ∀ {es : List Expr} {is : List Nat} {ws : List W} {ρ ρ' : Rho}, tgS N lo sc es = some is → asgL is ws ρ = some ρ' → asgAll N lo sc es ws ρ = some ρ'
  | [], is, ws, ρ, ρ', h, h' => by
    cases h
    cases ws with
    | nil => exact h'
    | cons w ws => cases h'
  | e0 :: es, is, ws, ρ, ρ', h, h' => by
    cases e0 <;> first | (cases h; done) | skip
    next x p =>
    unfold tgS at h
    split at h
    case isFalse => cases h
    next ha =>
    obtain ⟨i, h1, h2⟩ := Option.bind_eq_some_iff.mp h
    obtain ⟨l, h3, rfl⟩ := Option.map_eq_some_iff.mp h2
    cases ws with
    | nil => cases h'
    | cons w ws =>
      unfold asgAll
      rw [if_pos ha, h1]
      exact asgS_all h3 h'
theorem asgW_inv {N : List Str} {lo : Str → Bool} {sc : Scope} {es : List Expr} {j : Nat} {p : Pos} {w : W} {ρ ρ' : Rho} (h : asgW N lo sc (.Tuple es j p) w ρ = some ρ') : ∃ l, (w = .tup l ∨ w = .lst l) ∧ asgAll N lo sc es l ρ = some ρ' := by
  change ((tgS N lo sc es).bind fun is => match w with
    | .tup l => asgL is l ρ
    | .lst l => asgL is l ρ
    | _ => none) = _ at h
  obtain ⟨is, h1, h2⟩ := Option.bind_eq_some_iff.mp h
  cases w <;> first | (cases h2; done) | skip
  · exact ⟨_, .inl rfl, asgS_all h1 h2⟩
  · exact ⟨_, .inr rfl, asgS_all h1 h2⟩
theorem asgAll_names {N : List Str} : ∀ {es : List Expr} {ws : List W} {ρ ρ' : Rho}, asgAll N lo sc es ws ρ = some ρ' → ws.length = es.length ∧ ∀ e ∈ es, ∃ x p, e = .Name x p
  | [], [], _, _, _ => ⟨rfl, fun _ h => by simp at h⟩
  | [], _ :: _, _, _, h => by cases h
  | e :: es, ws, ρ, ρ', h => by
    cases e <;> first | (cases ws <;> cases h; done) | skip
    next x p =>
    cases ws with
    | nil => cases h
    | cons w ws =>
      unfold asgAll at h
      split at h
      · obtain ⟨i, _, h2⟩ := Option.bind_eq_some_iff.mp h
        obtain ⟨h3, h4⟩ := asgAll_names h2
        exact ⟨by simp [h3], fun e he => (List.mem_cons.mp he).elim (fun z => ⟨x, p, z⟩) (h4 e)⟩
      · cases h
theorem asg_stars {env : PySem.Env} : ∀ {es : List Expr}, (∀ e ∈ es, ∃ x p, e = Expr.Name x p) → (assignEach es env).findIdx? (·.1) = none
  | [], _ => rfl
  | e :: es, h => by
    obtain ⟨x, p, rfl⟩ := h e (by simp)
    have ih := asg_stars (env := env) (es := es) fun e he => h e (List.mem_cons_of_mem _ he)
    show List.findIdx? (·.1) ((false, _) :: assignEach es env) = none
    rw [List.findIdx?_cons, ih]
    rfl
theorem ok_gAll (ok : Ok c fa X sc k) (hfn : ∀ x, lo x = true → X.fn x = true) : ∀ es : List Expr, PGs X es (tGs (bd fa X) c.N lo sc es)
  | [] => pgs_mono pgs_nil fun vs σ H Q ⟨ρ, st, μ, ex, ws, ρ', er, s, r1, e, q⟩ => by
    cases ws with
    | nil => cases e; exact ⟨r1, q σ er fun _ _ => rfl⟩
    | cons w ws => cases e
  | e :: es => by
    by_cases hn : ∃ x p, e = .Name x p
    case neg =>
      refine pgs_false fun vs σ H Q ⟨ρ, st, μ, ex, ws, ρ', er, s, r1, e1, q⟩ => ?_
      exact hn ((asgAll_names e1).2 e (by simp))
    have hn2 := hn
    obtain ⟨x, p, rfl⟩ := hn
    refine pgs_mono (pgs_cons (ok_gName ok hfn x p) (ok_gAll ok hfn es) (asg_name hn2)) fun vs σ H Q ⟨ρ, st, μ, ex, ws, ρ', er, s, r1, e1, q⟩ => ?_
    cases ws with
    | nil => cases e1
    | cons w ws =>
      obtain ⟨v, ys, rfl, r2, r3⟩ := r1
      unfold asgAll at e1
      split at e1
      · next ha =>
        obtain ⟨i, e2, e3⟩ := Option.bind_eq_some_iff.mp e1
        refine ⟨v, ys, rfl, ρ, st, μ, ex, w, ρ.set i (some w), er, s, r2, by simp [asgW, ha, e2], fun σ1 er1 w1 => ?_⟩
        refine ⟨ρ.set i (some w), st, μ, ex, ws, ρ', er1, s, r3, e3, fun σ2 er2 w2 => q σ2 er2 fun vs hv => ?_⟩
        rw [w2 vs fun y hy => hv y (by simp [List.flatMap_cons, hy]), w1 vs fun y hy => hv y (by rw [List.flatMap_cons]; exact List.mem_append_left _ hy)]
      · cases e1
theorem ok_g (ok : Ok c fa X sc k) (hfn : ∀ x, lo x = true → X.fn x = true) (tg : Expr) : PG X tg (tG (bd fa X) c.N lo sc tg) := by
  cases tg with
  | Name x pos => exact ok_gName ok hfn x pos
  | Tuple es j pos =>
    by_cases hn : ∀ e ∈ es, ∃ x p, e = Expr.Name x p
    · refine pg_mono (pg_or (pg_tup (n := es.length) ok.calm (ok_gAll ok hfn es) (asg_len es) (asg_stars hn)) (pg_unl (n := es.length) ok.calm (ok_gAll ok hfn es) (asg_len es) (asg_stars hn))) fun v σ H Q ⟨ρ, st, μ, ex, w, ρ', er, s, r1, e, q⟩ => ?_
      obtain ⟨l, e', e3⟩ := asgW_inv e
      clear e
      have e := e3
      rcases e' with rfl | rfl
      · obtain ⟨a, xs, rfl, f, r2⟩ := r1
        exact .inl ⟨a, xs, rfl, f.sq, by rw [← r2.length]; exact (asgAll_names e).1, ρ, st, μ, ex, l, ρ', er, s, r2, e, q⟩
      · obtain ⟨a, xs, rfl, f, r2⟩ := r1
        exact .inr ⟨a, xs, rfl, f.sq, by rw [← r2.length]; exact (asgAll_names e).1, ρ, st, μ, ex, l, ρ', er, s, r2, e, q⟩
    · refine pg_false fun v σ H Q ⟨ρ, st, μ, ex, w, ρ', er, s, r1, e, q⟩ => ?_
      obtain ⟨l, _, e⟩ := asgW_inv e
      exact hn (asgAll_names e).2
  | _ => exact pg_false fun v σ H Q ⟨ρ, st, μ, ex, w, ρ', er, s, r1, e, q⟩ => by cases e

/-! comprehensions -/
theorem blk_ok {scope : Scope} {s : Shared} {H : Hp} {C : Addr} {cl : List (Str × Addr)} {fp : List Addr} (ok : Ok c fa X sc k) (hk : scope.kind = .function) : Ok c fa (X.blk s H scope (compEnvC scope cl C X.env) fp) (relS scope sc) k where
  N := ok.N
  nd := ok.nd
  scE := by
    show relabel scope X.env = relS scope sc
    unfold relabel relS PySem.Env.kindOf
    rw [ok.scE]
  kind := hk
  calm := ok.calm
  room := ok.room
  cs := ok.cs
  bs := ok.bs
  tys := ok.tys
  fns := ok.fns
  defs := ok.defs
  cls := ok.cls
  fnsF := ok.fnsF
  ini := ok.ini
  lam := ok.lam
theorem ownOf_mem {N : List Str} {x : Str} {i : Nat} : ∀ {l : List (Str × NameKind)}, (x, NameKind.local) ∈ l ∨ (x, NameKind.cell) ∈ l → slot x N = some i → (x, i) ∈ ownOf N l
  | [], h, _ => by simp at h
  | (n, kd) :: l, h, hs => by
    unfold ownOf
    by_cases h' : (x, NameKind.local) ∈ l ∨ (x, NameKind.cell) ∈ l
    · have ih := ownOf_mem h' hs
      split
      · exact List.mem_cons_of_mem _ ih
      · exact List.mem_cons_of_mem _ ih
      · exact ih
    · rcases h with h | h
      · rcases List.mem_cons.mp h with h | h
        · cases h
          rw [hs]
          exact List.mem_cons_self
        · exact absurd (.inl h) h'
      · rcases List.mem_cons.mp h with h | h
        · cases h
          rw [hs]
          exact List.mem_cons_self
        · exact absurd (.inr h) h'
theorem own_of {scope : Scope} {N : List Str} {x : Str} {i : Nat} (h : asB (celB scope) (relS scope sc) x = true) (hs : slot x N = some i) : i ∈ (ownOf N scope.names).map (·.2) := by
  unfold asB at h
  cases q : (relS scope sc).names.lookup x with
  | none => rw [q] at h; cases h
  | some z =>
    rw [q] at h
    have cel : ∀ kd, scope.names.lookup x = some kd → (x, kd) ∈ scope.names := fun kd hk => by
      obtain ⟨l1, l2, e, _⟩ := List.lookup_eq_some_iff.mp hk
      rw [e]
      simp
    cases z <;> first | (cases h; done) | skip
    case cell =>
      have hc : scope.names.lookup x = some .cell := by
        have h' : celB scope x = true := h
        unfold celB at h'
        cases hh : scope.names.lookup x with
        | none => rw [hh] at h'; cases h'
        | some kd => rw [hh] at h'; cases kd <;> first | rfl | cases h'
      exact List.mem_map.mpr ⟨(x, i), ownOf_mem (.inr (cel _ hc)) hs, rfl⟩
    obtain ⟨k', h1, h2⟩ := lookup_relS q
    have h3 : k' = .local := by
      rcases h2 with h2 | h2
      · exact h2.symm
      · cases h2.2
    subst h3
    have : (x, NameKind.local) ∈ scope.names := by
      obtain ⟨l1, l2, e, _⟩ := List.lookup_eq_some_iff.mp h1
      rw [e]
      simp
    exact List.mem_map.mpr ⟨(x, i), ownOf_mem (.inl this) hs, rfl⟩
theorem tg_own {scope : Scope} {N : List Str} {tg : Expr} {w : W} {ρ ρ' : Rho} (e : asgW N (celB scope) (relS scope sc) tg w ρ = some ρ') : ∀ x ∈ tgNames tg, ∀ i, slot x N = some i → i ∈ (ownOf N scope.names).map (·.2) := by
  have all : ∀ {es : List Expr} {ws : List W} {ρ ρ' : Rho}, asgAll N (celB scope) (relS scope sc) es ws ρ = some ρ' → ∀ x ∈ es.flatMap nmE, asB (celB scope) (relS scope sc) x = true := by
    intro es
    induction es with
    | nil => intro ws ρ ρ' _ x hx; simp at hx
    | cons e0 es ih =>
      intro ws ρ ρ' h x hx
      obtain ⟨y, p, rfl⟩ := (asgAll_names h).2 e0 (by simp)
      cases ws with
      | nil => cases h
      | cons w ws =>
        unfold asgAll at h
        split at h
        · next ha =>
          obtain ⟨j, e2, e3⟩ := Option.bind_eq_some_iff.mp h
          rw [List.flatMap_cons] at hx
          rcases List.mem_append.mp hx with hx | hx
          · rw [show x = y by simpa [nmE] using hx]; exact ha
          · exact ih e3 x hx
        · cases h
  intro x hx i hi
  cases tg <;> first | (simp [tgNames] at hx; done) | skip
  · next y pos =>
    have : x = y := by simpa [tgNames] using hx
    subst this
    by_cases ha : asB (celB scope) (relS scope sc) x = true
    · exact own_of ha hi
    · simp [asgW, ha] at e
  · next es j pos =>
    obtain ⟨l, _, e⟩ := asgW_inv e
    exact own_of (all e x hx) hi
def ifsW (r : Rec) (sc : Scope) : List Expr → Rho → Sto → Option (Bool × Sto)
  | [] => fun _ st => some (true, st)
  | [t] => r.ts sc t
  | _ => fun _ _ => none
theorem pts_mono {ifs : List Expr} {t t' : TT} (h : PTs X ifs t) (m : ∀ σ H Q, t' σ H Q → t σ H Q) : PTs X ifs t' := ⟨fun pins s σ H Q I q => h.run pins s σ H Q I (m σ H Q q)⟩
theorem ok_ifs (ro : RecOk c fa k r) (ok : Ok c fa X sc k) : ∀ ifs : List Expr, PTs X ifs (tB (bd fa X) (ifsW r sc ifs))
  | [] => pts_mono pts_nil fun σ H Q ⟨ρ, st, μ, ex, w, st', er, s, e, q⟩ => by cases e; exact q μ H (Ext.refl _ _) s
  | [t] => pts_one ((ro X sc ok).2 t)
  | _ :: _ :: _ => ⟨fun pins s σ H Q I ⟨ρ, st, μ, ex, w, st', er, s', e, q⟩ => by cases e⟩
/-- the comprehension's reading, from the evaluator -/
theorem comp_read (ok : Ok c fa X sc k) (elt tg iter : Expr) (ifs : List Expr) (scope : Scope) (pos : Pos) (hb : blkC c.N sc scope (ownOf c.N scope.names) = true ∧ isSetE iter = false) (σ : L2.St) (H : Hp) (Q : VK)
    (h : tWf (bd fa X) (evE c r sc (.ListComp elt [⟨tg, iter, ifs, 0⟩] scope pos)) σ H Q) :
    tLc (tI (bd fa X) (iterW (r.ev sc) (evList (r.ev sc)) c.g sc (isTupE tg) iter)) (tG (bd fa X) c.N (celB scope) (relS scope sc) tg) (tB (bd fa X) (ifsW r (relS scope sc) ifs)) (tW (bd fa X) (r.ev (relS scope sc) elt)) ((ownOf c.N scope.names).map (·.2)) σ H Q := by
  obtain ⟨ρ, st, μ, ex, w, st', er, s, e, q⟩ := h
  simp only [evE, hb, and_self, if_true] at e
  obtain ⟨⟨l, st1⟩, e1, e2⟩ := Option.bind_eq_some_iff.mp e
  obtain ⟨⟨vs, st2⟩, e3, e4⟩ := Option.bind_eq_some_iff.mp e2
  dsimp only at e4
  split at e4
  case isFalse => cases e4
  next hsz =>
  cases e4
  refine ⟨ρ, st, μ, ex, l, st1, er, s, e1, fun μ1 H1 J x1 s1 wk => fun D nD => ?_⟩
  obtain ⟨G, Y, wlk, hG, hY⟩ := wk
  have e3 : compW (asgW c.N (celB scope) (relS scope sc) tg) (ifsW r (relS scope sc) ifs) (r.ev (relS scope sc) elt) (wipeR ρ ((ownOf c.N scope.names).map (·.2))) l st1 = some (vs, st') := by
    rw [← e3]
    congr 1
  refine lc_it wlk (fun i H' => ∃ μ' sti acc aw vs', (∃ t, μ' = μ1 ++ t) ∧ (∀ a o, a ∉ μ1 → H1 a = some o → NoTbl o → H' a = some o ∧ a ∉ μ') ∧ Chg μ1 ex H1 μ' (D :: ex) H' ∧ S (bd fa X) μ' (D :: ex) H' sti ∧ H' D = some (.lst acc) ∧ RA (bd fa X) μ' (D :: ex) H' aw acc ∧ aw.length ≤ i ∧
    compW (asgW c.N (celB scope) (relS scope sc) tg) (ifsW r (relS scope sc) ifs) (r.ev (relS scope sc) elt) (wipeR ρ ((ownOf c.N scope.names).map (·.2))) (l.drop i) sti = some (vs', st') ∧ vs = aw ++ vs') ?_ ?_ ?_ ?_
  · refine ⟨μ1, st1, [], [], vs, ⟨[], by simp⟩, fun a o na h _ => ⟨by rw [upd_ne (ne_of_none h nD)]; exact h, na⟩, Chg.lay nD, s1.lay nD, upd_same, rfl, Nat.zero_le _, by simpa using e3, rfl⟩
  · rintro i H' _ ⟨μ', sti, acc, aw, vs', _, _, cg, _⟩
    exact hG _ _ _ cg
  · rintro i x H' H2 hi ⟨μ', sti, acc, aw, vs', pre, kp, cg, sI, hD, rA, hl, e5, e6⟩ hy
    obtain ⟨xe, sE, rE⟩ := hY i l[i] sti μ' (D :: ex) H' x H2 (List.getElem?_eq_getElem hi) cg sI hy
    rw [List.drop_eq_getElem_cons hi] at e5
    unfold compW at e5
    obtain ⟨ρ1, f1, f2⟩ := Option.bind_eq_some_iff.mp e5
    obtain ⟨⟨b, st3⟩, f3, f4⟩ := Option.bind_eq_some_iff.mp f2
    have nDm : D ∉ μ' := by
      have q := sI.nd
      rw [List.nodup_append] at q
      exact fun h => q.2.2 D h D List.mem_cons_self rfl
    have cg0 : Chg μ ex H μ' (D :: ex) H2 := (x1.chg.trans cg).trans xe.chg
    refine ⟨wipeR ρ ((ownOf c.N scope.names).map (·.2)), sti, μ', D :: ex, l[i], ρ1, (er.chg cg0).wipe _, sE, rE, f1, fun σ1 er1 wp => ⟨?_, ?_⟩⟩
    · rw [wp _ (tg_own f1)]
      exact wipe_ext (wipe_length _ _) fun j hj => wipe_out hj
    · refine ⟨ρ1, sti, μ', D :: ex, b, st3, er1, sE, f3, fun μ3 H3 x3 s3 => ?_⟩
      have hD3 : H3 D = some (.lst acc) := (x3.kept D _ nDm ((xe.kept D _ nDm hD (nt_lst _)).1) (nt_lst _)).1
      have pre3 : ∃ t, μ3 = μ1 ++ t := by
        obtain ⟨t, rfl⟩ := pre
        obtain ⟨t', rfl⟩ := x3.pre
        exact ⟨t ++ t', by simp⟩
      have kp3 : ∀ a o, a ∉ μ1 → H1 a = some o → NoTbl o → H3 a = some o ∧ a ∉ μ3 := fun a o na h nt => by
        obtain ⟨h1, n1⟩ := kp a o na h nt
        obtain ⟨h2, n2⟩ := xe.kept a o n1 h1 nt
        exact x3.kept a o n2 h2 nt
      have cg3 : Chg μ1 ex H1 μ3 (D :: ex) H3 := (cg.trans xe.chg).trans x3.chg
      cases b with
      | false =>
        dsimp only at f4
        rw [if_neg (by decide)] at f4
        exact iteF ⟨μ3, st3, acc, aw, vs', pre3, kp3, cg3, s3, hD3, (rA.ext xe).ext x3, by omega, f4, e6⟩
      | true =>
        dsimp only at f4
        rw [if_pos rfl] at f4
        refine iteT ?_
        obtain ⟨⟨v, st4⟩, g1, g2⟩ := Option.bind_eq_some_iff.mp f4
        obtain ⟨⟨vs2, st5⟩, g3, g4⟩ := Option.bind_eq_some_iff.mp g2
        cases g4
        refine ⟨ρ1, st3, μ3, D :: ex, v, st4, er1.ext x3, s3, g1, fun μ4 H4 y x4 s4 r4 => ?_⟩
        have nD3 : D ∉ μ3 := by
          have q := s3.nd
          rw [List.nodup_append] at q
          exact fun h => q.2.2 D h D List.mem_cons_self rfl
        have hD4 : H4 D = some (.lst acc) := (x4.kept D _ nD3 hD3 (nt_lst _)).1
        have rA4 : RA (bd fa X) μ4 (D :: ex) H4 aw acc := ((rA.ext xe).ext x3).ext x4
        refine ⟨acc, hD4, by rw [← rA4.length]; omega, ?_⟩
        refine ⟨μ4, st4, acc ++ [y], aw ++ [v], vs2, ?_, fun a o na h nt => ?_, (cg3.trans x4.chg).trans Chg.fill, s4.fill, upd_same, ?_, by simp; omega, g3, by rw [e6]; simp⟩
        · obtain ⟨t, rfl⟩ := pre3
          obtain ⟨t', rfl⟩ := x4.pre
          exact ⟨t ++ t', by simp⟩
        · obtain ⟨h3, n3⟩ := kp3 a o na h nt
          obtain ⟨h4, n4⟩ := x4.kept a o n3 h3 nt
          exact ⟨by rw [upd_ne (fun z => by rw [z, nD] at h; cases h)]; exact h4, n4⟩
        · exact RA.chg Chg.fill _ _ (rA4.append (RA.one r4))
  · rintro H' ⟨μ', sti, acc, aw, vs', pre, kp, cg, sI, hD, rA, hl, e5, e6⟩
    rw [List.drop_length] at e5
    unfold compW at e5
    cases e5
    rw [List.append_nil] at e6
    subst e6
    have nDm := sI.nd
    rw [List.nodup_append] at nDm
    have eH : H' = upd (cutH H' D) D (.lst acc) := by
      funext b
      unfold upd cutH
      by_cases hb : b = D
      · rw [if_pos hb, hb, hD]
      · rw [if_neg hb, if_neg hb]
    rw [eH]
    refine q μ' (cutH H' D) (.lst acc) D _ rfl (x1.trans ⟨pre, fun a o na h nt => ?_⟩) (sI.cut) ⟨acc, rfl, RA.chg Chg.cut _ _ rA⟩ (by unfold cutH; rw [if_pos rfl])
    obtain ⟨h2, n2⟩ := kp a o na h nt
    exact ⟨by unfold cutH; rw [if_neg (fun z => by rw [z, nD] at h; cases h)]; exact h2, n2⟩
theorem ok_ListCompF (ro : RecOk c fa k r) (ok : Ok c fa X sc k) (elt tg iter : Expr) (ifs : List Expr) (scope : Scope) (pos : Pos) :
    PE X (.ListComp elt [⟨tg, iter, ifs, 0⟩] scope pos) (tWf (bd fa X) (evE c r sc (.ListComp elt [⟨tg, iter, ifs, 0⟩] scope pos))) := by
  by_cases hb : blkC c.N sc scope (ownOf c.N scope.names) = true ∧ isSetE iter = false
  case neg =>
    refine pe_false fun σ H Q ⟨ρ, st, μ, ex, w, st', er, s, e, q⟩ => ?_
    simp only [evE, hb, if_false] at e
    cases e
  have bo := blkOk_by hb.1
  have hb1 : BlkOk X.N X.env.scope scope (ownOf c.N scope.names) := by rw [ok.N, ok.scE]; exact bo
  exact pe_mono (pe_lc (own := ownOf c.N scope.names) ok.calm (by rw [ok.N]; exact ok.nd) (ok_iter ro ok tg iter) hb1
    (fun s H C cl fp => ok_g (lo := celB scope) (X := X.blk s H scope (compEnvC scope cl C X.env) fp) (blk_ok ok bo.kind) (fun x h => h) tg) (fun s H C cl fp => ok_ifs (X := X.blk s H scope (compEnvC scope cl C X.env) fp) ro (blk_ok ok bo.kind) ifs)
    (fun s H C cl fp => (ro (X.blk s H scope (compEnvC scope cl C X.env) fp) (relS scope sc) (blk_ok ok bo.kind)).1 elt) (fun x => by cases iter <;> first | rfl | (have := hb.2; cases this))) fun σ H Q h => comp_read ok elt tg iter ifs scope pos hb σ H Q h
/-- x = [..], x a local on the same line -/
theorem ps_LC (ro : RecOk c fa k r) (ok : Ok c fa X sc k) (elt tg iter : Expr) (ifs : List Expr) (scope : Scope) (pos : Pos) {i : Nat} {x : Str} {px ps : Pos} (hx : slot x c.N = some i) (hl : sc.names.lookup x = some .local)
    (hsw : swapsWith (.ListComp elt [⟨tg, iter, ifs, 0⟩] scope pos) (some (.Name x px)) ps.line X.env = pure true) :
    PS X (.Assign [.Name x px] (.ListComp elt [⟨tg, iter, ifs, 0⟩] scope pos) ps) (tAsg (tWf (bd fa X) (evE c r sc (.ListComp elt [⟨tg, iter, ifs, 0⟩] scope pos))) (gName i)) := by
  by_cases hb : blkC c.N sc scope (ownOf c.N scope.names) = true ∧ isSetE iter = false
  case neg =>
    refine ⟨fun pins s0 σ H D I h => ?_⟩
    obtain ⟨ρ, st, μ, ex, w, st', er, s, e, q⟩ := h
    simp only [evE, hb, if_false] at e
    cases e
  have bo := blkOk_by hb.1
  have hb1 : BlkOk X.N X.env.scope scope (ownOf c.N scope.names) := by rw [ok.N, ok.scE]; exact bo
  have m := ps_setLc (g := tG (bd fa X) c.N (celB scope) (relS scope sc) tg) (tt := tB (bd fa X) (ifsW r (relS scope sc) ifs)) (te := tW (bd fa X) (r.ev (relS scope sc) elt)) (i := i) (y := x) (py := px) (spos := ps) (pos := pos) (own := ownOf c.N scope.names) ok.calm (by rw [ok.N]; exact ok.nd) (by rw [ok.N]; exact slot_ok hx) (by rw [ok.scE]; exact hl) hsw (ok_iter ro ok tg iter) hb1
    (fun s H C cl fp => ok_g (lo := celB scope) (X := X.blk s H scope (compEnvC scope cl C X.env) fp) (blk_ok ok bo.kind) (fun x h => h) tg) (fun s H C cl fp => ok_ifs (X := X.blk s H scope (compEnvC scope cl C X.env) fp) ro (blk_ok ok bo.kind) ifs)
    (fun s H C cl fp => (ro (X.blk s H scope (compEnvC scope cl C X.env) fp) (relS scope sc) (blk_ok ok bo.kind)).1 elt) (fun x => by cases iter <;> first | rfl | (have := hb.2; cases this))
  exact ⟨fun pins s0 σ H D I h => m.run pins s0 σ H D I (comp_read ok elt tg iter ifs scope pos hb σ H _ h)⟩
theorem ok_ListComp (ro : RecOk c fa k r) (ok : Ok c fa X sc k) (elt tg iter : Expr) (ifs : List Expr) (scope : Scope) (pos : Pos) :
    PE X (.ListComp elt [⟨tg, iter, ifs, 0⟩] scope pos) (tW (bd fa X) (evE c r sc (.ListComp elt [⟨tg, iter, ifs, 0⟩] scope pos))) := pe_mono (ok_ListCompF ro ok elt tg iter ifs scope pos) fun _ _ _ h => tWf_of h
end
end MP
namespace MP
open PySem L2 PySem.Spec PyProof.Rows

section
variable {c : Cfg} {fa : Str → Option Addr} {X : Cx} {sc : Scope} {k : Nat} {r : Rec}
/-! storing an item -/
theorem Ext.put {μ : List Addr} {H : Hp} {a : Addr} {ho : HO} (h : a ∈ μ) : Ext μ H μ (upd H a ho) := ⟨⟨[], by simp⟩, fun x o n e _ => ⟨by rw [upd_ne (fun z => n (by rw [z]; exact h))]; exact e, n⟩⟩
theorem S.put {B : Bd} {μ ex : List Addr} {H : Hp} {st : Sto} {n : Nat} {a : Addr} {o : O} {ho : HO} (s : S B μ ex H st) (h : μ[n]? = some a) (r : OR B μ ex H o a (some ho)) : S B μ ex (upd H a ho) (st.set n o) := by
  have ha : a ∈ μ := List.mem_of_getElem? h
  have x := Ext.put (H := H) (ho := ho) ha
  have nd := s.nd
  rw [List.nodup_append] at nd
  refine ⟨s.nd, by simpa using s.len, fun i o' e => ?_, fun b hb => ?_, s.tab.step fun b u nb q => ⟨by rw [upd_ne (fun z => nb.1 (by rw [z]; exact ha))]; exact q, nb⟩⟩
  · by_cases hi : n = i
    · subst hi
      have hl : n < st.length := by
        have := (List.getElem?_eq_some_iff.mp e).1
        simpa using this
      rw [List.getElem?_set_self hl] at e
      cases e
      exact ⟨a, h, by rw [upd_same]; exact r.chg x.chg⟩
    · rw [List.getElem?_set_ne hi] at e
      obtain ⟨b, h1, h2⟩ := s.obj i o' e
      refine ⟨b, h1, ?_⟩
      rw [upd_ne (fun z => hi ?_)]
      · exact h2.chg x.chg
      · rw [z] at h1
        exact (nodup_get nd.1 h1 h).symm
  · rw [upd_ne (fun z => nd.2.2 a ha b hb z.symm)]
    exact s.exs b hb
where nodup_get {l : List Addr} (h : l.Nodup) {i j : Nat} {x : Addr} (a : l[i]? = some x) (b : l[j]? = some x) : i = j := nd_ix h a b
def putE (xs : List (List Key × Addr × V)) (k : List Key) (b : Addr) (y : V) : List (List Key × Addr × V) :=
  if (xs.any fun e => decide (e.1 = k)) = true then xs.map (fun e => if e.1 = k then (e.1, e.2.1, y) else e) else xs ++ [(k, b, y)]
theorem any_fst {κ α : Type} [DecidableEq κ] (xs : List (κ × α)) (k : κ) : ((xs.map (·.1)).any fun j => decide (j = k)) = xs.any fun e => decide (e.1 = k) := by
  rw [List.any_map]
  rfl
theorem putE_keys (xs : List (List Key × Addr × V)) (k : List Key) (b : Addr) (y : V) : (putE xs k b y).map (·.1) = putK1 (xs.map (·.1)) k := by
  unfold putE putK1
  rw [any_fst]
  split
  · rw [List.map_map]
    apply List.map_congr_left
    intro e _
    show (if e.1 = k then (e.1, e.2.1, y) else e).1 = e.1
    split <;> rfl
  · simp
theorem putK_keys (xs : List (Key × V)) (k : Key) (y : V) : (putK xs k y).map (·.1) = putK1 (xs.map (·.1)) k := by
  unfold putK putK1
  rw [any_fst]
  split
  · rw [List.map_map]
    apply List.map_congr_left
    intro e _
    show (if e.1 = k then (e.1, y) else e).1 = e.1
    split <;> rfl
  · simp
theorem setK_RA {B : Bd} {μ ex : List Addr} {H : Hp} {α κ : Type} [DecidableEq κ] {f : κ × α → V} {g : κ × α → κ × α} {k : κ} {w : W} {y : V} (r1 : R B μ ex H w y) (hg : ∀ e : κ × α, f (g e) = if e.1 = k then y else f e) :
    ∀ {xs : List (κ × α)} {ws : List W}, RA B μ ex H ws (xs.map f) → RA B μ ex H (setK (xs.map (·.1)) ws k w) ((xs.map g).map f)
  | [], ws, h => by
    cases ws with
    | nil => rfl
    | cons u us => obtain ⟨_, _, e, _⟩ := h; cases e
  | e :: es, [], h => by cases (show _ = [] from h)
  | e :: es, u :: us, ⟨v, vs, e1, r2, r3⟩ => by
    rw [List.map_cons] at e1
    cases e1
    refine ⟨_, _, rfl, ?_, setK_RA r1 hg r3⟩
    rw [hg]
    split
    · exact r1
    · exact r2
theorem putE_RA {B : Bd} {μ ex : List Addr} {H : Hp} {xs : List (List Key × Addr × V)} {ws : List W} {k : List Key} {b : Addr} {w : W} {y : V} (r1 : R B μ ex H w y) (h : RA B μ ex H ws (xs.map (·.2.2))) : RA B μ ex H (putK2 (xs.map (·.1)) ws k w) ((putE xs k b y).map (·.2.2)) := by
  unfold putE putK2
  rw [any_fst]
  split
  · exact setK_RA (g := fun e => if e.1 = k then (e.1, e.2.1, y) else e) r1 (fun e => by split <;> rfl) h
  · rw [List.map_append]
    exact h.append (RA.one r1)
theorem putK_RA {B : Bd} {μ ex : List Addr} {H : Hp} {xs : List (Key × V)} {ws : List W} {k : Key} {w : W} {y : V} (r1 : R B μ ex H w y) (h : RA B μ ex H ws (xs.map (·.2))) : RA B μ ex H (putK2 (xs.map (·.1)) ws k w) ((putK xs k y).map (·.2)) := by
  unfold putK putK2
  rw [any_fst]
  split
  · exact setK_RA (g := fun e => if e.1 = k then (e.1, y) else e) r1 (fun e => by split <;> rfl) h
  · rw [List.map_append]
    exact h.append (RA.one r1)
theorem EnT.any {xs : List (List Key × Addr × V)} {vs : List (List Key × Addr × Value)} (h : EnT xs vs) (k : List Key) : (atKey vs k).isSome = xs.any fun e => decide (e.1 = k) := by
  induction h with
  | nil => rfl
  | @cons p q ps qs r t ih =>
    show (((q :: qs).find? fun x => decide (x.1 = k)).map (·.2)).isSome = _
    rw [List.find?_cons, List.any_cons, ← r.1]
    by_cases e : p.1 = k
    · rw [decide_eq_true e]; rfl
    · rw [decide_eq_false e]; exact ih
theorem EnT.put {xs : List (List Key × Addr × V)} {vs : List (List Key × Addr × Value)} (h : EnT xs vs) {k : List Key} {b : Addr} {y : V} {u : Value} (r : RelV y u) : EnT (putE xs k b y) (storedH vs k b u) := by
  unfold putE storedH
  rw [h.any]
  have rep : EnT (xs.map fun e => if e.1 = k then (e.1, e.2.1, y) else e) (vs.map (putAt k u)) := by
    induction h with
    | nil => exact .nil
    | @cons p q ps qs z t ih =>
      refine .cons ?_ ih
      unfold putAt
      rw [← z.1]
      by_cases e : p.1 = k
      · dsimp only; rw [if_pos e, if_pos e]; exact ⟨rfl, z.2.1, r⟩
      · dsimp only; rw [if_neg e, if_neg e]; exact z
  have app : EnT (xs ++ [(k, b, y)]) (vs ++ [(k, b, u)]) := by
    clear rep
    induction h with
    | nil => exact .cons ⟨rfl, rfl, r⟩ .nil
    | cons z t ih => exact .cons z ih
  split
  · exact rep
  · exact app
theorem dtO_ok {P : Program} {w : World} {H : Hp} {h : Heap} {a : Addr} {xs : List (List Key × Addr × V)} (e : dtP P w a xs h) : ObjOk P w H h a (dtO P w a xs) := by
  obtain ⟨h1, h2, vs, h3, o, es, ep, h4, r⟩ := id e
  refine ⟨e, ⟨o, h4⟩, fun g g' ⟨i1, i2, vs', i3, o', es', ep', i4, i5⟩ k => ⟨i1, i2, vs', i3, o', es', ep', k o' i4, i5⟩⟩
theorem putE_len (xs : List (List Key × Addr × V)) (k : List Key) (b : Addr) (y : V) : (putE xs k b y).length ≤ xs.length + 1 := by
  unfold putE
  split
  · simp
  · simp
theorem putE_keysT {K : PySem.W.Frag} {μ ex : List Addr} {H : Hp} {xs : List (List Key × Addr × V)} {k : List Key} {b : Addr} {y : V} (kt : KeysT K μ ex H xs) (hb : FrT K μ ex H b (k.map kV)) : KeysT K μ ex H (putE xs k b y) := by
  intro e he
  unfold putE at he
  split at he
  · obtain ⟨e', h1, h2⟩ := List.mem_map.mp he
    have := kt e' h1
    split at h2
    · rw [← h2]; exact this
    · rw [← h2]; exact this
  · rcases List.mem_append.mp he with he | he
    · exact kt e he
    · rw [show e = (k, b, y) by simpa using he]; exact hb
/-- d[t] = v of a dict with tuple keys -/
theorem dt_set {μ ex : List Addr} {a b : Addr} {xs : List (List Key × Addr × V)} {k : List Key} {y : V} {u : Value} {pins : List (Addr × Obj)} {σ : L2.St} {H : Hp} {s : Shared} {Q : Unit → Shared → Prop} {E : Value → Shared → Prop} (hu : X.A.units + 1 < cLine) (I : Inv X pins σ H s)
    (e : H a = some (dtO X.prog X.w a xs)) (kt : KeysT X.K μ ex H xs) (hb : SqT X.K H b (k.map kV)) (rv : RelV y u) (hl : xs.length < sizeLine) (h : ∀ s', Inv X pins σ (upd H a (dtO X.prog X.w a (putE xs k b y))) s' → Q () s') :
    wpAny (model X.prog X.w) X.A (setItem (.ref a) (.ref b) u) Q E s := by
  obtain ⟨z, hd, vs, en, dd⟩ := dt_at I e kt
  have hz : vs.length ≤ sizeLine := by rw [← Paired.length en]; exact z
  refine wpAny_setItem_heap (hsz := hz) (tupleKind_room_in1 hu) (key_sq I hb) dd fun h' dd' hs => h _ ?_
  obtain ⟨q, es, ep, hq, h2, h3, h4, _, h5⟩ := dd'
  refine d_write I (by rw [e]; exact True.intro) hs ⟨q, hq⟩ (dtO_ok ⟨?_, hd, _, en.put rv, q, es, ep, hq, h2, h3, h4, h5⟩)
  have := putE_len xs k b y
  omega
def rSetW (B : Bd) : TSet := fun o i v H Q => ∃ wo wi wv st μ ex st', R B μ ex H wo o ∧ R B μ ex H wi i ∧ R B μ ex H wv v ∧ S B μ ex H st ∧ setW st wo wi wv = some st' ∧ ∀ H', Ext μ H μ H' → S B μ ex H' st' → Q H'
theorem setW_ok (hu : X.A.units + 1 < cLine) : PSet X (rSetW (bd fa X)) := by
  intro pins s σ H o i v ov iv u Q I ro ri rv ⟨wo, wi, wv, st, μ, ex, st', r1, r2, r3, hs, e, q⟩
  unfold setW at e
  split at e
  case h_2 => cases e
  next n =>
  obtain ⟨a, rfl, h1⟩ := r1
  have ha : a ∈ μ := List.mem_of_getElem? h1
  split at e
  · next l k hst =>
    subst r2
    obtain ⟨j, e1, rfl⟩ := Option.map_eq_some_iff.mp e
    obtain ⟨a', h2, xs, h3, h4⟩ := hs.obj _ _ hst
    rw [h1] at h2
    cases h2
    refine set_list pins s σ H _ _ v ov iv u Q I ro ri rv ⟨_, xs, _, j, rfl, rfl, h3, by rw [← h4.length]; exact e1, q _ (Ext.put ha) (hs.put h1 ⟨_, rfl, h4.set j r3⟩)⟩
  · next ks vs hst =>
    obtain ⟨k, e1, e2⟩ := Option.bind_eq_some_iff.mp e
    split at e2
    case isFalse => cases e2
    next hl =>
    cases e2
    obtain ⟨a', h2, kvs, h3, h4, h5⟩ := hs.obj _ _ hst
    rw [h1] at h2
    cases h2
    subst h4
    have ek := keyOf_ok r2 e1
    subst ek
    cases ro
    refine d_setItem hu I (DPut.k h3 (by simpa using hl)) ri rv fun s' I' => ⟨_, I', q _ (Ext.put ha) (hs.put h1 ⟨_, rfl, putK_keys _ _ _, putK_RA r3 h5⟩)⟩
  · next ks vs l hst =>
    obtain ⟨k, e1, e2⟩ := Option.bind_eq_some_iff.mp e
    split at e2
    case isFalse => cases e2
    next hl =>
    cases e2
    obtain ⟨a', h2, xs, h3, kt, h4, h5⟩ := hs.obj _ _ hst
    rw [h1] at h2
    cases h2
    subst h4
    obtain ⟨b, ys, rfl, f, r4⟩ := r2
    have ek := keysOf_ok r4 e1
    subst ek
    cases ro
    cases ri
    exact dt_set hu I h3 kt f.sq rv (by simpa using hl) fun s' I' => ⟨_, I', q _ (Ext.put ha) (hs.put h1 ⟨_, rfl, putE_keysT kt f, putE_keys _ _ _ _, putE_RA r3 h5⟩)⟩
  · cases e

/-! displays of dicts -/
def foldE : List (List Key × Addr × V) → List (List Key × Addr × V) → List (List Key × Addr × V)
  | acc, [] => acc
  | acc, x :: xs => foldE (putE acc x.1 x.2.1 x.2.2) xs
theorem foldE_len : ∀ (xs acc : List (List Key × Addr × V)), (foldE acc xs).length ≤ acc.length + xs.length
  | [], acc => by simp [foldE]
  | x :: xs, acc => by
    have h1 := putE_len acc x.1 x.2.1 x.2.2
    have h2 := foldE_len xs (putE acc x.1 x.2.1 x.2.2)
    unfold foldE
    rw [List.length_cons]
    omega
theorem EnT.fold : ∀ {xs : List (List Key × Addr × V)} {ys : List (List Key × Addr × Value)}, EnT xs ys → ∀ {acc : List (List Key × Addr × V)} {accv : List (List Key × Addr × Value)}, EnT acc accv → EnT (foldE acc xs) (storedAllH accv ys)
  | _, _, .nil, _, _, h => h
  | x :: xs, y :: ys, .cons r t, acc, accv, h => by
    have := EnT.fold t (h.put (k := x.1) (b := x.2.1) r.2.2)
    rw [r.1, r.2.1] at this
    show EnT (foldE (putE acc x.1 x.2.1 x.2.2) xs) (storedAllH (storedH accv y.1 y.2.1 y.2.2) ys)
    rw [r.1, r.2.1]
    exact this
def tDispT (P : Program) (w : World) (K : PySem.W.Frag) (trs : List (TE × TE)) : TE := fun σ H Q => ∀ p, H p = none → tPairs trs σ (upd H p (dtO P w p [])) fun ps H2 => H2 p = some (dtO P w p []) ∧
  ∃ xs : List (List Key × Addr × V), ps = xs.map (fun x => (.ref x.2.1, x.2.2)) ∧ xs.length ≤ 15 ∧ (∀ x ∈ xs, SqT K H2 x.2.1 (x.1.map kV)) ∧ Q (.ref p) (upd H2 p (dtO P w p (foldE [] xs)))
theorem carT {pins : List (Addr × Obj)} {σ : L2.St} {H : Hp} {s : Shared} (I : Inv X pins σ H s) : ∀ {xs : List (List Key × Addr × V)} {ws : List (Value × Value)}, VV (xs.map fun x => (V.ref x.2.1, x.2.2)) ws → (∀ x ∈ xs, SqT X.K H x.2.1 (x.1.map kV)) →
    ∃ ys, CarriesH (tupleKind (mixKind X.prog X.w)) s.heap ws ys ∧ EnT xs ys
  | [], _, .nil, _ => ⟨[], trivial, .nil⟩
  | x :: xs, (a, b) :: ws, .cons r t, h => by
    obtain ⟨ys, h1, h2⟩ := carT I t fun y hy => h y (List.mem_cons_of_mem _ hy)
    refine ⟨(x.1, x.2.1, b) :: ys, ⟨r.1, rfl, key_sq I (h x List.mem_cons_self), h1⟩, .cons ⟨rfl, rfl, r.2⟩ h2⟩
theorem pe_dispT (hu : X.A.units + 1 < cLine) {pos : Pos} {keys : List (Option Expr)} {values : List Expr} {trs : List (TE × TE)} (h : PPs X pos keys values trs) (hall : keys.all (·.isSome) = true) (hl : keys.length = values.length) (h0 : keys ≠ [])
    (h15 : keys.length ≤ 15) : PE X (.Dict keys values pos) (tDispT X.prog X.w X.K trs) := by
  refine ⟨fun pins s σ H Q I q => ?_⟩
  have hn := I.hok.fresh (Nat.le_refl s.heap.objs.size)
  have new : dtP X.prog X.w s.heap.objs.size [] (s.heap.push { cls := .type "dict", data := .dict #[] }) := by
    refine ⟨Nat.zero_le _, ?_, [], .nil, _, _, _, Heap.get?_push_size _ rfl, ⟨rfl, rfl, rfl⟩, rfl, rfl, List.nodup_nil⟩
    exact beq_eq_false_iff_ne.mpr (Nat.ne_of_gt I.big)
  have I1 := I.laid (a := s.heap.objs.size) (o := dtO X.prog X.w s.heap.objs.size []) (h' := s.heap.push { cls := .type "dict", data := .dict #[] }) (t' := s.toks) (fun _ _ q => Heap.get?_push_of_some _ q) (Nat.le_refl _) (dtO_ok new)
  have hn2 := pairTrees_length keys values X.env pos hall hl
  rw [arm_eval_Dict, zip_pairTrees keys values X.env pos hall hl, dictDisplay_pairs _ (by intro e; rw [e] at hn2; exact h0 (List.length_eq_zero_iff.mp hn2.symm)) (by omega)]
  refine wpAny_bind (wpAny_standAt (wpAny_bind (wpAny_subDictH (knd := tupleKind (mixKind X.prog X.w)) (Nat.lt_of_succ_lt hu) (by omega) (thn (h.run pins _ σ _ _ I1 (q _ hn)) fun ws s2 ⟨ps, H2, I2, rel, e, xs, ep, lk, hk, q2⟩ => ?_))))
  subst ep
  obtain ⟨ys, hc, en⟩ := carT I2 rel hk
  obtain ⟨z, hd, vs0, r0, dd⟩ := dt_at (μ := []) (ex := []) I2 e (fun _ hx => by simp at hx)
  cases r0
  refine ⟨ys, hc, dd, fun h' tk dd' hs => wpAny_pure ⟨.ref s.heap.objs.size, _, ?_, rfl, q2⟩⟩
  have len := foldE_len xs []
  obtain ⟨o, es, ep, h1, h2, h3, h4, h5, h6⟩ := dd'
  refine d_write I2 (by rw [e]; exact True.intro) hs ⟨o, h1⟩ (dtO_ok ⟨?_, hd, _, en.fold .nil, o, es, ep, h1, h2, h3, h4, h6⟩)
  rw [sizeLine_eq]
  rw [List.length_nil] at len
  omega

/-- the readings of a display's pairs -/
def trsOf (B : Bd) (f : Expr → Rho → Sto → Option (W × Sto)) : List (Option Expr) → List Expr → List (TE × TE)
  | some k :: ks, v :: vs => (tW B (f k), tW B (f v)) :: trsOf B f ks vs
  | _, _ => []
theorem ok_pps {f : Expr → Rho → Sto → Option (W × Sto)} (h : ∀ e, PE X e (tW (bd fa X) (f e))) {pos : Pos} : ∀ (keys : List (Option Expr)) (values : List Expr), keys.all (·.isSome) = true → keys.length = values.length → PPs X pos keys values (trsOf (bd fa X) f keys values)
  | [], [], _, _ => pps_nil
  | [], _ :: _, _, h => by cases h
  | some k :: ks, v :: vs, ha, hl => pps_cons (h k) (h v) (ok_pps h ks vs (by simpa using ha) (by simpa using hl))
  | some k :: ks, [], _, h => by cases h
  | none :: ks, _, h, _ => by cases h
inductive RP (B : Bd) (μ ex : List Addr) (H : Hp) : List (W × W) → List (V × V) → Prop
  | nil : RP B μ ex H [] []
  | cons {a b : W} {x y : V} {ps : List (W × W)} {qs : List (V × V)} : R B μ ex H a x → R B μ ex H b y → RP B μ ex H ps qs → RP B μ ex H ((a, b) :: ps) ((x, y) :: qs)
theorem RP.len {B : Bd} {μ ex : List Addr} {H : Hp} {ps : List (W × W)} {qs : List (V × V)} (h : RP B μ ex H ps qs) : qs.length = ps.length := by
  induction h with
  | nil => rfl
  | cons _ _ _ ih => simp [ih]
theorem evPairs_len {f : Expr → Rho → Sto → Option (W × Sto)} : ∀ {keys : List (Option Expr)} {values : List Expr} {ρ : Rho} {st st' : Sto} {ps : List (W × W)}, evPairs f keys values ρ st = some (ps, st') → ps.length = keys.length
  | [], [], ρ, st, st', ps, e => by cases e; rfl
  | [], _ :: _, ρ, st, st', ps, e => by cases e
  | none :: _, _, ρ, st, st', ps, e => by cases e
  | some _ :: _, [], ρ, st, st', ps, e => by cases e
  | some k :: ks, v :: vs, ρ, st, st', ps, e => by
    unfold evPairs at e
    obtain ⟨⟨x, st1⟩, e1, e2⟩ := Option.bind_eq_some_iff.mp e
    obtain ⟨⟨y, st2⟩, e3, e4⟩ := Option.bind_eq_some_iff.mp e2
    obtain ⟨⟨ps', st3⟩, e5, e6⟩ := Option.bind_eq_some_iff.mp e4
    cases e6
    rw [List.length_cons, List.length_cons, evPairs_len e5]
theorem RP.chg {B : Bd} {μ ex μ' ex' : List Addr} {H H' : Hp} (e : Chg μ ex H μ' ex' H') {ps : List (W × W)} {qs : List (V × V)} (h : RP B μ ex H ps qs) : RP B μ' ex' H' ps qs := by
  induction h with
  | nil => exact .nil
  | cons r1 r2 _ ih => exact .cons (R.chg e _ _ r1) (R.chg e _ _ r2) ih
theorem pairs_read {B : Bd} {f : Expr → Rho → Sto → Option (W × Sto)} : ∀ {keys : List (Option Expr)} {values : List Expr} {ρ : Rho} {st st' : Sto} {ps : List (W × W)} {μ ex : List Addr} {σ : L2.St} {H : Hp} {Q : List (V × V) → Hp → Prop},
    EnvR B μ ex H ρ σ → S B μ ex H st → evPairs f keys values ρ st = some (ps, st') → (∀ μ' H' qs, Ext μ H μ' H' → S B μ' ex H' st' → RP B μ' ex H' ps qs → Q qs H') → tPairs (trsOf B f keys values) σ H Q
  | [], [], ρ, st, st', ps, μ, ex, σ, H, Q, er, s, e, q => by cases e; exact q μ H [] (Ext.refl _ _) s .nil
  | [], _ :: _, ρ, st, st', ps, μ, ex, σ, H, Q, er, s, e, q => by cases e
  | none :: _, _, ρ, st, st', ps, μ, ex, σ, H, Q, er, s, e, q => by cases e
  | some _ :: _, [], ρ, st, st', ps, μ, ex, σ, H, Q, er, s, e, q => by cases e
  | some k :: ks, v :: vs, ρ, st, st', ps, μ, ex, σ, H, Q, er, s, e, q => by
    unfold evPairs at e
    obtain ⟨⟨x, st1⟩, e1, e2⟩ := Option.bind_eq_some_iff.mp e
    obtain ⟨⟨y, st2⟩, e3, e4⟩ := Option.bind_eq_some_iff.mp e2
    obtain ⟨⟨ps', st3⟩, e5, e6⟩ := Option.bind_eq_some_iff.mp e4
    cases e6
    refine ⟨ρ, st, μ, ex, x, st1, er, s, e1, fun μ1 H1 vx x1 s1 r1 => ?_⟩
    refine ⟨ρ, st1, μ1, ex, y, st2, er.ext x1, s1, e3, fun μ2 H2 vy x2 s2 r2 => ?_⟩
    refine pairs_read (er.ext (x1.trans x2)) s2 e5 fun μ3 H3 qs x3 s3 rp => ?_
    exact q μ3 H3 _ ((x1.trans x2).trans x3) s3 (.cons ((r1.ext x2).ext x3) (r2.ext x3) rp)
theorem dispK_ok {B : Bd} {μ ex : List Addr} {H : Hp} : ∀ {ps : List (W × W)} {qs : List (V × V)} {ks : List Key} {ws : List W} {kvs : List (Key × V)} {w : W}, RP B μ ex H ps qs → kvs.map (·.1) = ks → RA B μ ex H ws (kvs.map (·.2)) → dispK ps ks ws = some w →
    ∃ new : List (Key × V), qs = new.map (fun kv => (kV kv.1, kv.2)) ∧ ∃ ks' ws', w = .dk ks' ws' ∧ (mergeK kvs new).map (·.1) = ks' ∧ RA B μ ex H ws' ((mergeK kvs new).map (·.2))
  | [], _, ks, ws, kvs, w, .nil, h1, h2, e => by cases e; exact ⟨[], rfl, ks, ws, rfl, h1, h2⟩
  | (a, b) :: ps, _, ks, ws, kvs, w, .cons (qs := qs) (x := x) (y := y) r1 r2 t, h1, h2, e => by
    unfold dispK at e
    obtain ⟨k', e1, e2⟩ := Option.bind_eq_some_iff.mp e
    have ek := keyOf_ok r1 e1
    subst ek h1
    obtain ⟨new, e3, ks', ws', e4, e5, e6⟩ := dispK_ok (kvs := putK kvs k' y) t (putK_keys _ _ _) (putK_RA r2 h2) e2
    exact ⟨(k', y) :: new, by rw [e3]; rfl, ks', ws', e4, e5, e6⟩
theorem dispT_ok {B : Bd} {μ ex : List Addr} {H : Hp} : ∀ {ps : List (W × W)} {qs : List (V × V)} {ks : List (List Key)} {ws : List W} {kvs : List (List Key × Addr × V)} {w : W}, RP B μ ex H ps qs → kvs.map (·.1) = ks → RA B μ ex H ws (kvs.map (·.2.2)) → KeysT B.K μ ex H kvs → dispT ps ks ws = some w →
    ∃ new : List (List Key × Addr × V), qs = new.map (fun x => (.ref x.2.1, x.2.2)) ∧ KeysT B.K μ ex H new ∧ ∃ ks' ws', w = .dt ks' ws' ∧ (foldE kvs new).map (·.1) = ks' ∧ RA B μ ex H ws' ((foldE kvs new).map (·.2.2)) ∧ KeysT B.K μ ex H (foldE kvs new)
  | [], _, ks, ws, kvs, w, .nil, h1, h2, h3, e => by cases e; exact ⟨[], rfl, fun _ h => by simp at h, ks, ws, rfl, h1, h2, h3⟩
  | (a, b) :: ps, _, ks, ws, kvs, w, .cons (qs := qs) (x := x) (y := y) r1 r2 t, h1, h2, h3, e => by
    unfold dispT at e
    obtain ⟨l, e0, e1⟩ := Option.bind_eq_some_iff.mp e
    obtain ⟨k', e1, e2⟩ := Option.bind_eq_some_iff.mp e1
    cases a <;> first | (cases e0; done) | skip
    cases e0
    obtain ⟨p, xs, rfl, f, r3⟩ := r1
    have ek := keysOf_ok r3 e1
    subst ek h1
    obtain ⟨new, e3, kn, ks', ws', e4, e5, e6, e7⟩ := dispT_ok (kvs := putE kvs k' p y) t (putE_keys _ _ _ _) (putE_RA r2 h2) (putE_keysT h3 f) e2
    refine ⟨(k', p, y) :: new, by rw [e3]; rfl, fun z hz => ?_, ks', ws', e4, e5, e6, e7⟩
    rcases List.mem_cons.mp hz with rfl | hz
    · exact f
    · exact kn z hz
theorem ok_DictF (ro : RecOk c fa k r) (ok : Ok c fa X sc k) (keys : List (Option Expr)) (values : List Expr) (pos : Pos) : PE X (.Dict keys values pos) (tWf (bd fa X) (evE c r sc (.Dict keys values pos))) := by
  by_cases hc : keys.all (·.isSome) = true ∧ keys.length = values.length ∧ keys.length ≤ 15
  case neg =>
    refine pe_false fun σ H Q ⟨ρ, st, μ, ex, w, st', er, s, e, q⟩ => ?_
    simp only [evE, hc, if_false] at e
    cases e
  obtain ⟨hall, hl, h15⟩ := id hc
  by_cases h0 : keys = []
  · subst h0
    obtain rfl : values = [] := List.length_eq_zero_iff.mp hl.symm
    refine pe_mono pe_dnewK fun σ H Q ⟨ρ, st, μ, ex, w, st', er, s, e, q⟩ => fun p n => ?_
    cases e
    exact q μ H _ p _ rfl (Ext.refl _ _) s ⟨[], rfl, rfl, rfl⟩ n
  have pps := ok_pps (pos := pos) (ro X sc ok).1 keys values hall hl
  have orr : ∀ {e : Expr} {t u : TE}, PE X e t → PE X e u → PE X e (fun σ H Q => t σ H Q ∨ u σ H Q) := fun h h' => ⟨fun pins s σ H Q I q => q.elim (h.run pins s σ H Q I) (h'.run pins s σ H Q I)⟩
  refine pe_mono (orr (pe_disp pps hall hl h0 h15) (pe_dispT (units1 ok) pps hall hl h0 h15)) fun σ H Q ⟨ρ, st, μ, ex, w, st', er, s, e, q⟩ => ?_
  unfold evE at e
  dsimp only at e
  rw [if_pos hc] at e
  have e : ((evPairs (r.ev sc) keys values ρ st).bind fun (ps, st1) => (dispW ps).map fun w => (w, st1)) = some (w, st') := by
    cases keys with
    | nil => exact absurd rfl h0
    | cons z zs => exact e
  obtain ⟨⟨ps, st1⟩, e1, e2⟩ := Option.bind_eq_some_iff.mp e
  obtain ⟨w', e3, e4⟩ := Option.map_eq_some_iff.mp e2
  cases e4
  -- behind the pairs: the heap without the new dict
  have fin : ∀ {p : Addr} {μ1 : List Addr} {H1 : Hp} {o : HO}, H p = none → Ext μ (upd H p o) μ1 H1 → S (bd fa X) μ1 (p :: ex) H1 st' → Ext μ H μ1 (cutH H1 p) ∧ S (bd fa X) μ1 ex (cutH H1 p) st' ∧ cutH H1 p p = none ∧ ∀ u, upd H1 p u = upd (cutH H1 p) p u := by
    intro p μ1 H1 o n x1 s1
    refine ⟨⟨x1.pre, fun a u na h nt => ?_⟩, s1.cut, by unfold cutH; rw [if_pos rfl], fun u => ?_⟩
    · have hap : a ≠ p := ne_of_none h n
      obtain ⟨h1, n1⟩ := x1.kept a u na (by rw [upd_ne hap]; exact h) nt
      exact ⟨by unfold cutH; rw [if_neg hap]; exact h1, n1⟩
    · funext b
      unfold upd cutH
      by_cases hb : b = p
      · rw [if_pos hb, if_pos hb]
      · rw [if_neg hb, if_neg hb, if_neg hb]
  unfold dispW at e3
  cases hk : dispK ps [] [] with
  | some w1 =>
    rw [hk] at e3
    cases e3
    refine .inl fun p n => ?_
    have cg := Chg.lay (μ := μ) (ex := ex) (o := .dK []) n
    refine pairs_read (er.chg cg) (s.lay n) e1 fun μ1 H1 qs x1 s1 rp => ?_
    obtain ⟨xe, se, np, eqH⟩ := fin n x1 s1
    have hp : H1 p = some (.dK []) := (x1.kept p _ ((s.new (o := .dK []) n).2.2.1) upd_same (nt_dK _)).1
    obtain ⟨new, e5, ks', ws', rfl, e6, e7⟩ := dispK_ok (kvs := []) (ws := []) rp rfl rfl hk
    refine ⟨hp, new, e5, ?_, ?_⟩
    · have l1 := evPairs_len e1
      have l2 := rp.len
      rw [e5, List.length_map] at l2
      omega
    · rw [eqH]
      exact q μ1 _ _ p _ rfl xe se ⟨_, rfl, e6, RA.chg Chg.cut _ _ e7⟩ np
  | none =>
    rw [hk] at e3
    refine .inr fun p n => ?_
    have cg := Chg.lay (μ := μ) (ex := ex) (o := dtO X.prog X.w p []) n
    refine pairs_read (er.chg cg) (s.lay n) e1 fun μ1 H1 qs x1 s1 rp => ?_
    obtain ⟨xe, se, np, eqH⟩ := fin n x1 s1
    have hp : H1 p = some (dtO X.prog X.w p []) := (x1.kept p _ ((s.new (o := dtO X.prog X.w p []) n).2.2.1) upd_same (nt_dtO _ _ _ _)).1
    obtain ⟨new, e5, kn, ks', ws', rfl, e6, e7, e8⟩ := dispT_ok (kvs := []) (ws := []) rp rfl rfl (fun _ h => by simp at h) e3
    refine ⟨hp, new, e5, ?_, fun x hx => (kn x hx).sq, ?_⟩
    · have l1 := evPairs_len e1
      have l2 := rp.len
      rw [e5, List.length_map] at l2
      omega
    · rw [eqH]
      exact q μ1 _ _ p _ rfl xe se ⟨_, rfl, e8.chg Chg.cut, e6, RA.chg Chg.cut _ _ e7⟩ np
end
end MP
namespace MP
open PySem L2 PySem.Spec PyProof.Rows LamX

/-! a def that calls a lambda and tells what error came -/
section
variable {c : Cfg} {fa : Str → Option Addr} {X : Cx} {sc : Scope} {k : Nat} {r : Rec}
def RecL (c : Cfg) (fa : Str → Option Addr) (k : Nat) (r : Rec) : Prop := ∀ X sc, Ok c.bare fa X sc k → (∀ e, PE X e (tW (bd fa X) (r.evL sc e))) ∧ ∀ W0, L2.Takes X W0 → ∀ e, PE X e (fun σ H _ => tZ (bd fa X) (r.rzL sc e) W0 σ H)
theorem lam_ok {A : Around} {outer : List Env} {s : Shared} {H : Hp} {E : XK} {scope : Scope} {f c' : Addr} {own : List Str} (ok : Ok c fa X sc k) (L : LamQ X.N X.env.scope scope own) (hr : Room k (A.deeper (lamEnv X scope s.heap.objs.size f c'))) : Ok c.bare fa (lamCx X A outer s H E scope f c') scope k where
  N := ok.N
  nd := ok.nd
  scE := rfl
  kind := L.kind
  calm := rfl
  room := hr
  cs := ok.cs
  bs := ok.bs
  tys := ok.tys
  fns := ok.fns
  defs := ok.defs
  cls := ok.cls
  fnsF := ok.fnsF
  ini := ok.ini
  lam := fun h => nomatch h
/-- the suite's answer, of the error at a -/
theorem ok_exE {Y : Cx} {g : Gam} {sg : Scope} {l : List Str} {y : Str} {a C : Addr} {i : Nat} {oe : Obj} {pn : List (Addr × Obj)} (hsc : ∀ x, glB sg x = true → Gl (Y.suite a ((a, oe) :: pn)) x) (hbs : ∀ x, x ∈ g.bs → Y.mg x = none)
    (hcl : ∀ x l', g.cls.lookup x = some l' → ∃ D, Y.mg x = some (.ref D) ∧ PySem.W.kitOne Y.K (.ref C) (.ref D) = some (l.contains x)) (ec : ExcC Y.K C) (hz : Zc (.ref C) none oe) (hf : ∃ vs, oe.data = .fields vs)
    (hN : Y.N[i]? = some y) (hv : Vis Y.env.scope y) (hy1 : (y == ("__debug__" : Str)) = false) (hy2 : (y == ("__classdict__" : Str)) = false) : ∀ (e0 : Expr) (z : Str), exE g sg l y e0 = some z →
      PE (Y.suite a ((a, oe) :: pn)) e0 (fun σ H Q => σ[i]? = some (some (.ref a)) ∧ Q (.str z) H)
  | .Constant (.str z0) j p, z, h => by
    have : z0 = z := by simpa [exE] using h
    subst this
    exact pe_mono pe_str fun σ H Q h => h.2
  | .IfExp (.Call (.Name f p1) [.Name y' p2, .Name x p3] [] p4) ea eb p5, z, h => by
    unfold exE at h
    split at h
    case isFalse => cases h
    next hc =>
    obtain ⟨rfl, hg, hb, rfl, hgx, hnx, hcx⟩ := hc
    obtain ⟨l', hl⟩ := Option.isSome_iff_exists.mp hcx
    obtain ⟨D, m, kit⟩ := hcl x l' hl
    have n1 := (okName_ok hnx).1
    have tst : PT (Y.suite a ((a, oe) :: pn)) (.Call (.Name "isinstance" p1) [.Name y' p2, .Name x p3] [] p4) (fun σ H Q => σ[i]? = some (some (.ref a)) ∧ Q (l.contains x) H) := by
      refine pt_mono (pt_val (pe_callB (call_isE ec hz hf) (hsc _ hg) (hbs _ hb) (by rfl) (pa_cons (pe_var (i := i) hN hv hy1 hy2) (pa_cons (pe_glob (v := .ref D) (hsc _ hgx) m rfl n1) pa_nil)))) fun σ H Q ⟨h1, h2⟩ => ?_
      exact ⟨.ref a, h1, .ref D, .ref D, l.contains x, rfl, fun u r => by cases r; rfl, kit, l.contains x, rfl, h2⟩
    by_cases ht : l.contains x = true
    · rw [if_pos ht] at h
      have := ok_exE (g := g) (sg := sg) hsc hbs hcl ec hz hf hN hv hy1 hy2 ea z h
      refine pe_mono (pe_ifExp tst this (pe_false (t := fun _ _ _ => False) fun _ _ _ h => h)) fun σ H Q ⟨h1, h2⟩ => ⟨h1, ?_⟩
      rw [ht]
      exact ⟨h1, h2⟩
    · rw [if_neg ht] at h
      have := ok_exE (g := g) (sg := sg) hsc hbs hcl ec hz hf hN hv hy1 hy2 eb z h
      refine pe_mono (pe_ifExp tst (pe_false (t := fun _ _ _ => False) fun _ _ _ h => h) this) fun σ H Q ⟨h1, h2⟩ => ⟨h1, ?_⟩
      rw [show l.contains x = false by simpa using ht]
      exact ⟨h1, h2⟩
/-- from ahead of a lambda's making to behind it -/
theorem S.lamd {μ ex : List Addr} {H H1 : Hp} {st : Sto} (s : S (bd fa X) μ ex H st) (eN : ExtN H H1) (hn : ∀ b, H b ≠ none → H1 b ≠ none) (t1 : TabsX (tabsOf fa) (fun b => b ∉ μ ∧ b ∉ ex) H1) : Chg μ ex H μ ex H1 ∧ Ext μ H μ H1 ∧ S (bd fa X) μ ex H1 st := by
  have cg : Chg μ ex H μ ex H1 := ⟨fun _ _ h => h, fun a o n nx h z => ⟨eN a o h z, n, nx⟩⟩
  refine ⟨cg, ⟨⟨[], by simp⟩, fun a o n h z => ⟨eN a o h z, n⟩⟩, ⟨s.nd, s.len, fun i o h => ?_, fun a h => hn a (s.exs a h), t1⟩⟩
  obtain ⟨a, q1, q2⟩ := s.obj i o h
  refine ⟨a, q1, ?_⟩
  have keep : H1 a = H a := by
    cases o with
    | lst l => obtain ⟨xs, q, _⟩ := q2; rw [q]; exact eN _ _ q (nt_lst _)
    | dk ks vs => obtain ⟨xs, q, _⟩ := q2; rw [q]; exact eN _ _ q (nt_dK _)
    | dt ks vs => obtain ⟨xs, q, _⟩ := q2; rw [q]; exact eN _ _ q (nt_dtO _ _ _ _)
  rw [keep]
  exact q2.chg cg
theorem wordOf_inv {g : Gam} {d : Fn} {x0 e s0 : Str} {ret : Expr} (h : wordOf g d = some (x0, e, ret, s0)) : ∃ w p1 p2 p3 p4 p5 p6 p7 p8 p9 j,
    defBody d.st = [.Try [.Expr (.Call (.Name w p1) [] [] p2) p3] [.ExceptHandler (some (.Name x0 p4)) (some e) [.Return (some ret) p5] p6] [] [] p7, .Return (some (.Constant (.str s0) j p8)) p9] ∧
    d.ps = [w] ∧ d.N = [w, e] ∧ okName w = true ∧ okName e = true ∧ okName x0 = true ∧ visB (defScope d.st) w = true ∧ locB (defScope d.st) e = true ∧ glB (defScope d.st) x0 = true ∧ (g.cls.lookup x0).isSome = true := by
  unfold wordOf at h
  split at h
  · next hb =>
    split at h
    · next hc =>
      cases h
      exact ⟨_, _, _, _, _, _, _, _, _, _, _, hb, hc⟩
    · cases h
  · cases h
theorem vis_sc {sc : Scope} {x : Str} (h : visB sc x = true) : Vis sc x := by
  unfold visB at h
  cases q : sc.names.lookup x with
  | none => rw [q] at h; cases h
  | some z =>
    rw [q] at h
    cases z with
    | «local» => exact .inl q
    | cell => exact .inr (.inl q)
    | free => exact .inr (.inr q)
    | globalExplicit => cases h
    | globalImplicit => cases h
theorem gl_sc {sc : Scope} {x : Str} (h : glB sc x = true) : sc.names.lookup x = some .globalImplicit := by
  unfold glB at h
  cases q : sc.names.lookup x with
  | none => rw [q] at h; cases h
  | some z => rw [q] at h; cases z <;> first | rfl | cases h
theorem loc_sc {sc : Scope} {x : Str} (h : locB sc x = true) : sc.names.lookup x = some .local := by
  unfold locB at h
  cases q : sc.names.lookup x with
  | none => rw [q] at h; cases h
  | some z => rw [q] at h; cases z <;> first | rfl | cases h
theorem ok_lam (rl : RecL c fa k r) (ok : Ok c fa X sc k) (f : Str) (p lp pos : Pos) (ps : Arguments) (body : Expr) (scope : Scope) (hp : lamP ps = true) :
    PE X (.Call (.Name f p) [.Lambda ps body scope lp] [] pos) (tW (bd fa X) (evE c r sc (.Call (.Name f p) [.Lambda ps body scope lp] [] pos))) := by
  refine ⟨fun pins s σ H Q I ⟨ρ, st, μ, ex, w, st', er, hs, e, q⟩ => ?_⟩
  have hsp : specOf f [.Lambda ps body scope lp] = some (.lam ps body scope) := by
    show (if lamP ps = true then some (Spec.lam ps body scope) else none) = _
    rw [if_pos hp]
  simp only [evE, hsp] at e
  split at e
  case isFalse => cases e
  next hc =>
  obtain ⟨hl, hg, hn, hq⟩ := hc
  obtain ⟨d, e1, e2⟩ := Option.bind_eq_some_iff.mp e
  obtain ⟨⟨x0, y, ret, s0⟩, e3, e4⟩ := Option.bind_eq_some_iff.mp e2
  dsimp only at e4
  obtain ⟨w', p1, p2, p3, p4, p5, p6, p7, p8, p9, j, hbody, hps, hN, nw, ny, nx0, vw, ly, gx0, cx0⟩ := wordOf_inv e3
  obtain ⟨hroom, cc, P, hT, hco, TB⟩ := ok.lam hl
  obtain ⟨⟨a, fd, g1, g2, kp, F, b⟩, Sg⟩ := ok.defs f d e1
  obtain ⟨oc, od, kV, doc0, pm0, an, cdv, ct, osl, rfl, lk, hcd⟩ := F.ex
  have L : LamQ X.N X.env.scope scope (lamN ps) := by
    have := lamQ_by hq
    rw [← ok.N, ← ok.scE] at this
    exact this
  obtain ⟨h1, h2, h3⟩ := okName_ok hn
  obtain ⟨w1, w2, w3⟩ := okName_ok nw
  obtain ⟨y1, y2, y3⟩ := okName_ok ny
  obtain ⟨z1, z2, z3⟩ := okName_ok nx0
  obtain ⟨l0, hl0⟩ := Option.isSome_iff_exists.mp cx0
  obtain ⟨C0, K0⟩ := ok.cls x0 l0 hl0
  have fr : ∀ b, H b = none → (b ∉ μ ∧ b ∉ ex) := fun b hb => by
    obtain ⟨_, _, n1, n2⟩ := hs.new (o := .lst []) hb
    exact ⟨n1, n2⟩
  refine wpAny_Call_Name_kw (ld_glob I (gl_ok ok hg) g2 ?_ h1)
  refine PySem.W.callWith_K (h₀ := X.base) I.ok.mod.kin kp ?_ (by rfl) (by rfl)
  show wpAny _ _ (spliced ((false, eval (.Lambda ps body scope lp) X.env) :: backTo pos (starEach [] X.env))) _ _ s
  refine Calls.spliced_cons (lam_mk (T := tabsOf fa) (N := fun b => b ∉ μ ∧ b ∉ ex) I TB hco (by rw [hT]; exact List.mem_singleton.mpr rfl) (fun q hq _ => by rw [hT, List.mem_singleton] at hq; rw [hq]) hs.tab fr hp (L.has I.ok) fun fl c' dV doc pm ctv H1 s' I1 eN T1 o1 o2 o3 o4 hD hnn => ?_)
  refine Calls.spliced_nil ⟨I1.kIn, ?_⟩
  obtain ⟨cg, xe, S1⟩ := hs.lamd eN hnn T1
  have er1 := er.chg cg
  have q1 := q.ext xe
  have run : codeAny (model X.prog X.w) X.A (.call (.ref a) ⟨[.ref fl], []⟩) (CR L2.CX0 X.stack X.prog X.w H1 s' Q L2.E0) s' := by
    refine run_ofS (N := d.N) (ps := d.ps) (us := [.ref fl]) (vs := [.ref fl]) lk hcd Sg hroom I1.env0 (b s' [.ref fl] I1.kIn (by rw [hps]; rfl)) (.cons rfl .nil) (by rw [hps]; rfl) fun hr' => ?_
    rw [hbody]
    have hb' : ∀ (A : Around) (outer : List Env) (s0 : Shared) (H0 : Hp) (E : XK), Room k (A.deeper (lamEnv X scope s0.heap.objs.size fl c')) →
        PE (lamCx X A outer s0 H0 E scope fl c') body (fun σ H Q => tW (bd fa X) (r.evL scope body) σ H Q ∨ tZ (bd fa X) (r.rzL scope body) (fun cls d _ H => E cls d H) σ H) := fun A outer s0 H0 E hr => by
      have o2 := lam_ok (outer := outer) (s := s0) (H := H0) (E := E) (f := fl) (c' := c') ok L hr
      obtain ⟨r1, r2⟩ := rl _ _ o2
      exact ⟨fun pins s σ H Q I h => h.elim ((r1 body).run pins s σ H Q I) ((r2 _ (takes_of rfl rfl rfl rfl) body).run pins s σ H Q I)⟩
    have hNd : d.N.Nodup := Sg.nd
    have i0 : d.N[0]? = some w' := by rw [hN]; rfl
    have i1 : d.N[1]? = some y := by rw [hN]; rfl
    refine ⟨_, pss_cons (ps_try_as (X := cxOf L2.CX0 X.prog X.w X.K X.mg X.base d.N d.qual (defScope d.st) a cdv X.A X.stack s' H1 L2.E0) (i := 1) (c := .ref C0)
      (tb := fun W D σZ HZ => ∃ Ech : XK, (∀ cls d σ' H', Ech cls d H' → W cls d σ' H') ∧ σZ[0]? = some (some (.ref fl)) ∧ HZ c' = some (CodeO c' (X.env.qual ++ "<lambda>")) ∧ (tW (bd fa X) (r.evL scope body) σ HZ (fun _ H' => D.nx σZ H') ∨ tZ (bd fa X) (r.rzL scope body) (fun cls d _ H => Ech cls d H) σ HZ))
      (ts := fun ax cls dx D σZ HZ => ∃ cn l C z, c.g.cls.lookup cn = some l ∧ fa cn = some C ∧ cls = .ref C ∧ dx = none ∧ exE c.g (defScope d.st) l y ret = some z ∧ (∃ σ0 : L2.St, σZ = σ0.set 1 (some (.ref ax))) ∧ D.rt (.str z) HZ)
      (Wout := fun _ _ _ _ => False) rfl rfl hNd i1 (loc_sc ly) ⟨gl_sc gx0, z1, .inl K0.atG⟩ L2.takes0 (fun W pn xe tk _ => ?_) (fun ax oe cls dx pn hz hf => ?_)) (pss_one (ps_ret pe_str)), ?_⟩
    · refine ⟨fun pinsZ sZ σZ HZ D IZ ⟨Ech, hW, a1, a2, a3⟩ => ?_⟩
      have act := lam_act (CXg := L2.CX0) (Eg := L2.E0) (Ng := d.N) (qg := d.qual) (sg := defScope d.st) (g := a) (cdg := cdv) (pn := pn) (xe := xe) (W := W) (E := Ech) (i := 0) (a := w') (p1 := p1) (p2 := p2) I1 hp L o1 o2 o3 hD tk hW hr' (fun A outer s0 H0 hr2 => hb' A outer s0 H0 Ech hr2) i0 (vis_sc vw) w1 w2
      exact (pss_one (ps_expr (pos := p3) act (by rfl))).run pinsZ sZ σZ HZ D IZ ⟨a1, a2, a3⟩
    · refine ⟨fun pinsZ sZ σZ HZ D IZ ⟨cn, l, C, z, b1, b2, b3, b4, b5, ⟨σ0, b6⟩, b7⟩ => ?_⟩
      subst b3 b4
      have lenZ : σZ.length = d.N.length := IZ.len
      have b6 : σZ[1]? = some (some (V.ref ax)) := by
        have : 1 < σ0.length := by
          rw [b6, List.length_set, hN] at lenZ
          rw [lenZ]
          exact Nat.lt_succ_self 1
        rw [b6, List.getElem?_set_self this]
      obtain ⟨C', KC⟩ := ok.cls cn l b1
      have : C' = C := Option.some.inj (KC.atF.symm.trans b2)
      subst this
      have pe := ok_exE (Y := cxOf L2.CX0 X.prog X.w X.K X.mg X.base d.N d.qual (defScope d.st) a cdv X.A X.stack s' H1 L2.E0) (g := c.g) (sg := defScope d.st) (l := l) (y := y) (a := ax) (C := C') (i := 1) (oe := oe) (pn := pn) (fun x hx => gl_sc hx) ok.bs
        (fun x l' hx => by
          obtain ⟨D', e1, e2, e3⟩ := KC.exm x l' hx
          obtain ⟨D2, KD⟩ := ok.cls x l' hx
          have : D2 = D' := Option.some.inj (KD.atF.symm.trans e1)
          subst this
          exact ⟨D2, KD.atG, e3⟩) KC.ec hz hf i1 (show Vis (defScope d.st) y from .inl (loc_sc ly)) y1 y2 ret z b5
      exact (pss_one (ps_ret (pos := p5) pe)).run pinsZ sZ σZ HZ D IZ ⟨b6, b7⟩
    · have st0 : (L2.start d.N [V.ref fl])[0]? = some (some (.ref fl)) := rfl
      have len1 : (L2.start d.N [V.ref fl]).length = 2 := by rw [hN]; rfl
      split at e4
      · next x st1 hx =>
        obtain ⟨w2, e5, e6⟩ := Option.map_eq_some_iff.mp e4
        cases e6
        refine ⟨fun cls dx H' => ∃ μ', Ext μ H1 μ' H' ∧ S (bd fa X) μ' ex H' st' ∧ XR (bd fa X) μ' ex H' x cls dx, fun cls dx σ' H' ⟨μ', x1, s1, r1⟩ => ?_, st0, o4, .inr ⟨ρ, st, μ, ex, x, st', er1, S1, hx, fun μ' H' cls dx x1 s1 r1 => ⟨μ', x1, s1, r1⟩⟩⟩
        cases x with
        | key => cases e5
        | own cn v =>
        cases v with
        | some _ => cases e5
        | none =>
        obtain ⟨l, e6, e7⟩ := Option.bind_eq_some_iff.mp (show ((c.g.cls.lookup cn).bind fun l => if l.contains x0 = true then (exE c.g (defScope d.st) l y ret).map W.str else none) = some w from e5)
        split at e7
        case isFalse => cases e7
        next hco2 =>
        obtain ⟨z, e8, rfl⟩ := Option.map_eq_some_iff.mp e7
        obtain ⟨rfl, C, r2, rfl⟩ := r1
        obtain ⟨C', KC⟩ := ok.cls cn l e6
        have : C' = C := Option.some.inj (KC.atF.symm.trans r2)
        subst this
        obtain ⟨D', f1, f2, _⟩ := KC.exm x0 l0 hl0
        have : D' = C0 := Option.some.inj (f1.symm.trans K0.atF)
        subst this
        refine ⟨l.contains x0, f2, fun _ ax _ => ⟨cn, l, C', z, e6, r2, rfl, rfl, e8, ⟨σ', rfl⟩, q1 μ' H' (.str z) x1 s1 rfl⟩, fun h => ?_⟩
        rw [hco2] at h
        cases h
      · next hx =>
        obtain ⟨⟨w2, st1⟩, e5, e6⟩ := Option.map_eq_some_iff.mp e4
        cases e6
        refine ⟨fun _ _ _ => False, fun _ _ _ _ h => h.elim, st0, o4, .inl ⟨ρ, st, μ, ex, w2, st1, er1, S1, e5, fun μ' H' v x1 s1 r1 => ?_⟩⟩
        exact q1 μ' H' (.str s0) x1 s1 rfl
  refine wpAny_call (codeAny_mono run fun rr s2 hq2 => ?_)
  cases rr with
  | error er => exact (show False from hq2).elim
  | ok fw =>
    cases fw with
    | ret u => exact I1.after hq2
    | next => exact hq2.elim
    | brk => exact hq2.elim
    | cont => exact hq2.elim
end
end MP
namespace MP
open PySem L2 PySem.Spec PyProof.Rows

/-! a set of texts: made of a list or a tuple, and sorted -/
def txOf (e : Int × Value) : Str := match e.2 with
  | .str x _ => x
  | _ => Str.empty
def TxE (w : World) (e : Int × Value) : Prop := ∃ x u, e.2 = Value.str x u ∧ e.1 = hashStr w x
/-- the members of the set at a are those of l -/
def SetS (w : World) (h : Heap) (a : Addr) (l : List Str) : Prop :=
  ∃ o es ep tb, h.get? a = some o ∧ o.ExactSet ∧ o.data = .set es ep tb ∧ (∀ e ∈ es.toList, TxE w e) ∧ (es.toList.map txOf).Nodup ∧ (∀ x, x ∈ l ↔ x ∈ es.toList.map txOf) ∧
    es.size ≤ l.length ∧ tb.fits es.size = true ∧ Ris tb.place.toList ∧ (w.params.followText "set-order" = true ∨ tb.led = true)
section
variable {P : Program} {w : World} {h h' : Heap} {a : Addr} {l : List Str}
theorem SetS.keep (q : SetS w h a l) (k : ∀ o, h.get? a = some o → h'.get? a = some o) : SetS w h' a l := by
  obtain ⟨o, es, ep, tb, ho, r⟩ := q
  exact ⟨o, es, ep, tb, k o ho, r⟩
theorem TxE.elems {m : List (Int × Value)} (g : ∀ e ∈ m, TxE w e) : ElemsOf (PySem.strKind P w) m := by
  intro e he
  obtain ⟨x, u, e1, e2⟩ := g e he
  refine ⟨⟨x, ?_, e2⟩, ?_⟩
  · rw [e1]; exact strKind_is P w x u
  · rw [e1]; rfl
theorem TxE.is {e : Int × Value} (g : TxE w e) (x : Str) : (PySem.strKind P w).is x e.2 = true ↔ txOf e = x := by
  obtain ⟨y, u, e1, _⟩ := g
  unfold txOf
  rw [e1]
  show Value.isStrOf x (.str y u) = true ↔ y = x
  simp only [Value.isStrOf, beq_iff_eq]
theorem TxE.mem {m : List (Int × Value)} (g : ∀ e ∈ m, TxE w e) (x : Str) : x ∈ m.map txOf ↔ ∃ e ∈ m, (PySem.strKind P w).is x e.2 = true := by
  simp only [List.mem_map]
  exact ⟨fun ⟨e, he, q⟩ => ⟨e, he, ((g e he).is x).mpr q⟩, fun ⟨e, he, q⟩ => ⟨e, he, ((g e he).is x).mp q⟩⟩
theorem SetS.of (q : SetS w h a l) : ∃ (S : Str → Bool) (n : Nat), l.length < scanBound → h.SetOf (PySem.strKind P w) a S n := by
  obtain ⟨o, es, ep, tb, ho, hx, hd, g, nd, hm, hz, hf, _⟩ := q
  exact ⟨fun x => decide (x ∈ l), es.size, fun hb => ⟨o, es, ep, tb, ho, hx, hd, TxE.elems g, fun x => by rw [decide_eq_true_eq, hm x]; exact TxE.mem g x, by omega, hf, rfl⟩⟩
theorem SetS.fresh (ho : h.get? a = some { cls := .type "set", dict := none, data := .set #[] 0 (.fresh 0 0 (!w.params.followText "set-order")) }) : SetS w h a [] := by
  refine ⟨_, #[], 0, _, ho, ⟨rfl, rfl, rfl⟩, rfl, by simp, by simp, by simp, Nat.le_refl _, by rfl, List.Pairwise.nil, ?_⟩
  show _ ∨ (!w.params.followText "set-order") = true
  cases w.params.followText "set-order" <;> simp
end
section
variable {P : Program} {w : World} {A : Around} {E : Value → Shared → Prop} {s : Shared} {a : Addr} {l : List Str}
theorem SetS.put {h : Heap} {o : Obj} {es es1 : Array (Int × Value)} {ep : Nat} {tb t2 : SetTable} {m : List Str} (ho : h.get? a = some o) (hx : o.ExactSet) (hd : o.data = .set es ep tb)
    (g : ∀ e ∈ es1.toList, TxE w e) (nd : (es1.toList.map txOf).Nodup) (hm : ∀ x, x ∈ m ↔ x ∈ es1.toList.map txOf) (hz : es1.size ≤ m.length) (hf : t2.fits es1.size = true) (hr : Ris t2.place.toList)
    (hl : w.params.followText "set-order" = true ∨ t2.led = true) : SetS w (h.update a (Obj.putSet es1 t2)) a m :=
  ⟨_, es1, _, t2, store_at ho hd, hx, rfl, g, nd, hm, hz, hf, hr, hl⟩
/-- the end of an add: stored, and laid anew where it has grown too full -/
theorem setS_tail {f : Bool → Sem Unit} (hf : ∀ (b : Bool) (z : Shared) (Z : Unit → Shared → Prop), Z () z → wpAny (model P w) A (f b) Z E z)
    {o : Obj} {es es1 : Array (Int × Value)} {ep : Nat} {tb t2 : SetTable} {m : List Str} (ho : s.heap.get? a = some o) (hx : o.ExactSet) (hd : o.data = .set es ep tb)
    (g : ∀ e ∈ es1.toList, TxE w e) (nd : (es1.toList.map txOf).Nodup) (hm : ∀ x, x ∈ m ↔ x ∈ es1.toList.map txOf) (hz : es1.size ≤ m.length) (hb : m.length < scanBound) (hfit : t2.fits es1.size = true) (hr : Ris t2.place.toList)
    (hl : w.params.followText "set-order" = true ∨ t2.led = true) {old : Bool} {Z : Option Bool → Shared → Prop}
    (q : ∀ h', Heap.SameBut a s.heap h' → SetS w h' a m → Z (some true) { s with heap := h' }) :
    wpAny (model P w) A (do
      storeSet a es1 t2
      if (!old && t2.tooFull) = true then do
          f (relayAll t2 es1 (SetTable.grown es1.size)).2.2
          storeSet a (relayAll t2 es1 (SetTable.grown es1.size)).1 (relayAll t2 es1 (SetTable.grown es1.size)).2.1
          pure (some true)
        else pure (some true)) Z E s := by
  have few1 : es1.size < scanBound := by omega
  apply wpAny_bind
  apply wpAny_storeSet_of ho hd _ (fits_of_scanBound few1)
  have one := Heap.SameBut.update s.heap a (Obj.putSet es1 t2)
  have at1 := store_at (es' := es1) (t' := t2) ho hd
  by_cases c : (!old && t2.tooFull) = true
  case neg =>
    rw [if_neg c]
    exact wpAny_pure (q _ one (SetS.put ho hx hd g nd hm hz hfit hr hl))
  rw [if_pos c]
  have p := relayAll_perm t2 es1 (SetTable.grown es1.size)
  have z1 : (relayAll t2 es1 (SetTable.grown es1.size)).1.size = es1.size := by
    have := p.length_eq
    simpa using this
  have few2 : (relayAll t2 es1 (SetTable.grown es1.size)).1.size < scanBound := by omega
  apply wpAny_bind
  apply hf
  apply wpAny_bind
  apply wpAny_storeSet_of at1 rfl _ (fits_of_scanBound few2)
  apply wpAny_pure
  refine q _ (one.trans (Heap.SameBut.update _ a _)) (SetS.put at1 hx rfl (fun e he => g e (p.mem_iff.mp he)) ((p.map txOf).nodup_iff.mpr nd) (fun x => (hm x).trans (p.map txOf).mem_iff.symm) (by rw [z1]; exact hz)
    (relayAll_fits t2 es1 _) (relayAll_ris t2 es1 _) (hl.imp id fun y => by rw [relayAll_led t2 es1 _]; exact y))
theorem setS_add {x : Str} {u : Tok} {Z : Bool → Shared → Prop} (R : SetS w s.heap a l) (room : l.length + 1 < scanBound)
    (q : ∀ h' b, Heap.SameBut a s.heap h' → SetS w h' a (x :: l) → Z b { s with heap := h' }) : wpAny (model P w) A (setAddHashed a (.str x u) ((PySem.strKind P w).hash x)) Z E s := by
  obtain ⟨o, es, ep, tb, ho, hx, hd, g, nd, hm, hz, hf, hr, hl⟩ := R
  have key : (PySem.strKind P w).is x (.str x u) = true := strKind_is P w x u
  have scan : (Value.str x u).scannable = true := rfl
  have el : ElemsOf (PySem.strKind P w) es.toList := TxE.elems g
  have few : es.size < scanBound := by omega
  unfold setAddHashed setAddHashedIn
  apply wpAny_holding
  apply wpAny_bind
  refine wpAny_setState_of ho hd hf ?_
  dsimp only
  rw [byScan_of scan few el, if_pos rfl]
  unfold setAddByScan
  apply wpAny_bind
  apply wpAny_bind
  apply wpAny_rule
  apply wpAny_bind
  refine wpAny_setScan_of key ho hd hf el ?_
  cases hi : List.findIdx? (fun e => (PySem.strKind P w).is x e.2) es.toList with
  | some j =>
    obtain ⟨hj, pj, _⟩ := List.findIdx?_eq_some_iff_getElem.mp hi
    have hin : x ∈ es.toList.map txOf := (TxE.mem (P := P) g x).mpr ⟨_, List.getElem_mem hj, pj⟩
    dsimp only
    refine wpAny_pure (wpAny_pure (q s.heap _ (Heap.SameBut.refl a s.heap) ⟨o, es, ep, tb, ho, hx, hd, g, nd, fun y => ?_, ?_, hf, hr, hl⟩))
    · rw [List.mem_cons, hm y]
      exact ⟨fun z => z.elim (fun z => by rw [z]; exact hin) id, .inr⟩
    · rw [List.length_cons]; omega
  | none =>
    have hno : x ∉ es.toList.map txOf := fun z => by
      obtain ⟨e, he, y⟩ := (TxE.mem (P := P) g x).mp z
      have := List.findIdx?_eq_none_iff.mp hi e he
      simp [y] at this
    have gave : ∀ (b : Bool) {z : Shared} {Y : Unit → Shared → Prop}, Y () z → wpAny (model P w) A (match b with | true => rule "set.scan.the-table-gave-way" | false => pure ()) Y E z := by
      intro b z Y y
      cases b
      · exact wpAny_pure y
      · exact wpAny_rule y
    dsimp only
    have p := layNew_perm tb es ((PySem.strKind P w).hash x) (.str x u)
    have f1 := layNew_fits tb es ((PySem.strKind P w).hash x) (.str x u)
    have r1 := layNew_ris tb es ((PySem.strKind P w).hash x) (.str x u) hr
    have l1 := layNew_led tb es ((PySem.strKind P w).hash x) (.str x u)
    generalize layNew tb es ((PySem.strKind P w).hash x) (.str x u) = L at p f1 r1 l1 ⊢
    obtain ⟨es1, t1, old, gv⟩ := L
    dsimp only at p f1 r1 l1 ⊢
    rw [Array.toList_push] at p
    have p1 : es1.toList.Perm (((PySem.strKind P w).hash x, Value.str x u) :: es.toList) := p.trans (List.perm_append_singleton _ _)
    have p2 : (es1.toList.map txOf).Perm (x :: es.toList.map txOf) := p1.map txOf
    have g1 : ∀ e ∈ es1.toList, TxE w e := by
      intro e he
      rcases List.mem_cons.mp (p1.mem_iff.mp he) with z | z
      · exact z ▸ ⟨x, u, rfl, rfl⟩
      · exact g e z
    have n1 : (es1.toList.map txOf).Nodup := p2.nodup_iff.mpr (List.nodup_cons.mpr ⟨hno, nd⟩)
    have m1 : ∀ y, y ∈ x :: l ↔ y ∈ es1.toList.map txOf := fun y => by rw [p2.mem_iff, List.mem_cons, List.mem_cons, hm y]
    have z1 : es1.size ≤ (x :: l).length := by
      have := p1.length_eq
      simp at this
      rw [List.length_cons]
      omega
    have led1 : w.params.followText "set-order" = true ∨ t1.led = true := hl.imp id fun y => by rw [l1]; exact y
    apply wpAny_bind
    apply gave
    split
    · apply wpAny_bind
      rw [hashByValue_scannable 8 scan]
      apply wpAny_pure
      refine setS_tail ?_ ho hx hd g1 n1 m1 z1 (by rw [List.length_cons]; exact room) ?_ ?_ ?_ ?_
      · intro b z Y y
        cases b
        · exact wpAny_pure y
        · exact wpAny_rule y
      · first | exact f1 | exact SetTable.fits_plain_off f1 | (split <;> first | exact f1 | exact SetTable.fits_plain_off f1)
      · first | exact r1 | (split <;> exact r1)
      · first | exact led1 | (split <;> exact led1)
      · intro h' sb r
        dsimp only
        exact wpAny_pure (q h' _ sb r)
    · apply wpAny_bind
      apply wpAny_pure
      simp only [↓reduceIte]
      refine setS_tail ?_ ho hx hd g1 n1 m1 z1 (by rw [List.length_cons]; exact room) f1 r1 led1 ?_
      · intro b z Y y
        cases b
        · exact wpAny_pure y
        · exact wpAny_rule y
      · intro h' sb r
        dsimp only
        exact wpAny_pure (q h' _ sb r)
end
section
variable {P : Program} {w : World} {A : Around} {R : Result → Shared → Prop} {I : Addr} {fp wr : List Addr} {G : Array GenState → Array GenState → Prop} {n : Nat} {Pv : Nat → Value → Prop} {St : Nat → Shared → Prop}
/-- the walk that fills the set -/
theorem setS_loop (W : WalksS P w A.in1 I fp wr G n Pv St) (a : Addr) (na : a ∉ fp) (xs : List Str) (hn : xs.length = n) (room : n + 1 < scanBound) (val : ∀ i v, Pv i v → ∃ x u, xs[i]? = some x ∧ v = .str x u) :
    ∀ (m i : Nat) (s : Shared) (l : List Str), n - i = m → i ≤ n → St i s → l.length = i → (∀ x, x ∈ l ↔ x ∈ xs.take i) → SetS w s.heap a l →
      (∀ s' l', Moved (a :: wr) G s s' → l'.length = n → (∀ x, x ∈ l' ↔ x ∈ xs) → SetS w s'.heap a l' → R (.ok (.ret .none)) s') →
      codeAny (model P w) A (.builtin "set.update.loop" ⟨[.ref a, .ref I], []⟩) R s := by
  have nw : a ∉ wr := fun z => na (W.sub _ z)
  have sub : ∀ b ∈ wr, b ∈ a :: wr := fun b z => List.mem_cons_of_mem _ z
  intro m
  induction m with
  | zero =>
    intro i s l hm hi st hl hx S fin
    obtain rfl : i = n := by omega
    apply codeAny_builtin PyProof.Rows.F.entry_set_update_loop
    rw [Around.under_plainId PyProof.Rows.F.plain_set_update_loop _]
    change wpAny _ A.in1 (pyNext (.ref I) >>= _) _ _ s
    apply wpAny_bind
    refine W.done s _ _ st fun s1 mv => ?_
    change wpAny _ A.in1 (ret Value.none) _ _ s1
    refine wpAny_pure (fin s1 l (mv.mono sub) hl (fun x => ?_) (S.keep fun o e => mv.heap a o nw e))
    rw [hx x, List.take_of_length_le (by omega)]
  | succ m ih =>
    intro i s l hm hi st hl hx S fin
    have lt : i < n := by omega
    apply codeAny_builtin PyProof.Rows.F.entry_set_update_loop
    rw [Around.under_plainId PyProof.Rows.F.plain_set_update_loop _]
    change wpAny _ A.in1 (pyNext (.ref I) >>= _) _ _ s
    apply wpAny_bind
    refine W.item i s _ _ lt st fun v s1 hv st1 mv => ?_
    obtain ⟨x, u, ex, rfl⟩ := val i v hv
    have S1 : SetS w s1.heap a l := S.keep fun o e => mv.heap a o nw e
    change wpAny _ A.in1 (holding [Value.str x u] (setAdd a (.str x u)) >>= _) _ _ s1
    apply wpAny_bind
    apply wpAny_holding
    unfold setAdd
    apply wpAny_holding
    apply wpAny_bind
    refine (PySem.strKind P w).pyHash (k := x) (strKind_is _ _ _ _) ?_
    refine setS_add (s := { s1 with toks := s1.toks + 1 }) S1 (by omega) fun h' b sb S2 => ?_
    refine wpAny_pure ⟨plainId_quiet PyProof.Rows.F.plain_set_update_loop _, ih (i + 1) _ (x :: l) (by omega) lt (W.frame _ s1 _ _ st1 (Nat.le_succ _) fun b hb o e => ?_) (by rw [List.length_cons, hl]) (fun y => ?_) S2 fun s2 l2 mv2 hl2 hx2 S3 => ?_⟩
    · rw [sb.2 b (fun z : b = a => na (by rw [← z]; exact hb))]; exact e
    · have e1 : xs.take (i + 1) = xs.take i ++ [x] := by rw [List.take_succ, ex]; rfl
      rw [e1, List.mem_cons, List.mem_append, List.mem_singleton, hx y]
      exact Or.comm
    · refine fin s2 l2 (Moved.trans W.gtrans ((mv.mono sub).then_heap (Nat.le_succ _) fun b o hb e => ?_) mv2) hl2 hx2 S3
      rw [sb.2 b (fun z : b = a => hb (by rw [z]; exact List.mem_cons_self))]; exact e
end
theorem strs_pt : ∀ {vs : List Value} {xs : List Str}, PyProof.Rows.StrsAre vs xs → ∀ (i : Nat) (v : Value), vs[i]? = some v → ∃ x u, xs[i]? = some x ∧ v = .str x u
  | _, _, .nil, i, v, z => by simp at z
  | _, _, .cons n t r, 0, v, z => by simp at z; exact ⟨n, t, rfl, z.symm⟩
  | _, _, .cons n t r, i + 1, v, z => by
    obtain ⟨x, u, e1, e2⟩ := strs_pt r i v (by simpa using z)
    exact ⟨x, u, by simpa using e1, e2⟩
abbrev newS (w : World) : Obj := { cls := .type "set", dict := none, data := .set #[] 0 (.fresh 0 0 (!w.params.followText "set-order")) }
section
variable {P : Program} {w : World} {A : Around} {E : Value → Shared → Prop} {s : Shared}
set_option maxHeartbeats 3200000 in
theorem set_of_list {la : Addr} {items : Array Value} {xs : List Str} {Z : Value → Shared → Prop}
    (hh : A.handled = none) (hl : s.heap.IsList la items) (hi : PyProof.Rows.StrsAre items.toList xs) (room : xs.length + 1 < scanBound)
    (fin : ∀ (h' : Heap) (tk : Nat) (l' : List Str), l'.length = xs.length → (∀ x, x ∈ l' ↔ x ∈ xs) → SetS w h' s.heap.objs.size l' → (∀ b o, s.heap.get? b = some o → h'.get? b = some o) → Z (.ref s.heap.objs.size) { s with heap := h', toks := tk }) :
    wpAny (model P w) A (call (.type "set") [.ref la]) Z E s := by
  obtain ⟨c0, tl0, mro0⟩ := PySem.F.called_set.mro
  have made0 := PySem.F.called_set.made
  have sub0 := PySem.F.called_set.sub
  refine wpAny_call (codeAny_of_tree ?_)
  change wpAny _ _ (callAny (.type "set") _) _ _ _
  refine wpAny_pure ⟨Code.quiet_builtin _ (by decide +kernel), codeAny_builtin PySem.F.entry_type_call ?_⟩
  rw [Around.under_plain (weight_type_call_type "set" [.ref la] []) rfl]
  have nt0 := PySem.F.called_set.notType
  have cc0 := PySem.F.called_set.canCreate
  have tc0 := PySem.F.typeCall_set_1 (.ref la)
  repeat (any_goals (first | assumption | wp_step))
  have hsize : items.size = xs.length := by
    have := PyProof.Rows.StrsAre.len_eq hi
    simpa using this
  refine codeAny_mono (code_set_led1 (.ref la) (E := E) (Q₁ := fun ob z => ob = .ref s.heap.objs.size ∧ z = { s with heap := s.heap.push (newS w) }) ⟨rfl, rfl⟩) fun r z hr => ?_
  cases r with
  | error e => exact hr
  | ok fl =>
    cases fl <;> first | exact hr.elim | skip
    next ob =>
    obtain ⟨rfl, rfl⟩ := hr
    have isS : (s.heap.push (newS w)).get? s.heap.objs.size = some (newS w) := Heap.get?_push_size _ rfl
    have tyS : Shared.TypeIs { s with heap := s.heap.push (newS w) } (.ref s.heap.objs.size) "set" := ⟨_, isS, rfl⟩
    have li0 := PySem.F.called_set.init.lookup
    have bi0 := PySem.F.called_set.init.bind (.ref s.heap.objs.size)
    repeat (any_goals (first | assumption | wp_step))
    refine codeAny_mono (codeAny_call_builtin (R := wants (fun r z => r = .none ∧ ∃ h' tk l', z = { s with heap := h', toks := tk } ∧ l'.length = xs.length ∧ (∀ x, x ∈ l' ↔ x ∈ xs) ∧ SetS w h' s.heap.objs.size l' ∧
        (∀ b o, s.heap.get? b = some o → h'.get? b = some o)) E) PySem.F.called_set.init.plain PySem.F.entry_set_init (check_set_init_1 tyS ?_)) fun r2 z2 hr2 => ?_
    · obtain ⟨⟨lc, ld, lda, ls⟩, hol, hcl, nl, hdl⟩ := hl
      simp only at hcl hdl
      subst hcl hdl
      have hol' : (s.heap.push (newS w)).get? la = some ⟨.type "list", ld, .seq items nl, ls⟩ := Heap.get?_push_of_some _ hol
      have sl1 := PySem.F.sub_list_set
      have sl2 := PySem.F.sub_list_frozenset
      have nd1 : (Value.type "list" == Value.type "dict") = false := by decide
      have isl : (s.heap.push (newS w)).IsList la items := ⟨_, hol', rfl, nl, rfl⟩
      unfold Builtin.«set.__init__» noKeywords Builtin.Frozenset.updateFrom
      generalize hPI : pyIter = PI
      wp_walk
      subst hPI
      refine wpAny_pyIter_list (s := { s with heap := s.heap.push (newS w) }) isl ?_
      apply wpAny_bind
      apply wpAny_runValue
      have lS : la < s.heap.objs.size := Heap.lt_size hol
      have h3 : A.in1.in1.in1.handled = none := by simp [hh]
      have z1 : (s.heap.push (newS w)).objs.size = s.heap.objs.size + 1 := Heap.size_push ..
      have ne1 : la ≠ (s.heap.push (newS w)).objs.size := by rw [z1]; exact Nat.ne_of_lt (Nat.lt_succ_of_lt lS)
      have nin : s.heap.objs.size ∉ [(s.heap.push (newS w)).objs.size, la] := by
        rw [z1]
        simp only [List.mem_cons, List.not_mem_nil, or_false, not_or]
        exact ⟨Nat.ne_of_lt (Nat.lt_succ_self _), Nat.ne_of_gt lS⟩
      refine setS_loop ((Walks.list h3 _ la ne1 items).toS) s.heap.objs.size nin xs hsize.symm (by rw [hsize]; exact room) (fun i v hv => strs_pt hi i v (by rw [Array.getElem?_toList]; exact hv)) (items.size - 0) 0 _ [] (by omega) (Nat.zero_le _)
        ⟨⟨_, Heap.get?_push_size _ rfl, rfl, rfl⟩, isl.push _⟩ rfl (by simp) (SetS.fresh (Heap.get?_push_of_some _ isS)) fun z' l' mv hl' hx' S' => ?_
      obtain ⟨h', g', d', tk', os'⟩ := z'
      obtain rfl : g' = s.gens := mv.gens
      obtain rfl : d' = s.drawn := mv.drawn
      obtain rfl : os' = s.os := mv.os
      change wpAny _ _ _ _ _ _
      apply wpAny_pure
      change wpAny _ _ (ret Value.none) _ _ _
      refine wpAny_pure ⟨rfl, h', tk', l', rfl, by rw [hl', hsize], hx', S', fun b o e => ?_⟩
      have bl := Heap.lt_size e
      refine mv.heap b o (fun zz => ?_) (Heap.get?_push_of_some _ (Heap.get?_push_of_some _ e))
      simp only [List.mem_cons, List.not_mem_nil, or_false, z1] at zz
      rcases zz with zz | zz
      · exact absurd bl (by rw [zz]; exact Nat.lt_irrefl _)
      · exact absurd bl (by rw [zz]; exact Nat.not_lt_of_le (Nat.le_succ _))
    · cases r2 with
      | error e => exact hr2
      | ok fl2 =>
        cases fl2 <;> first | exact hr2.elim | skip
        next r3 =>
        obtain ⟨rfl, h', tk, l', rfl, hl', hx', S', k'⟩ := hr2
        repeat (any_goals (first | assumption | wp_step))
        exact fin _ _ l' hl' hx' S' k'
set_option maxHeartbeats 3200000 in
theorem set_of_tuple {la : Addr} {items : Array Value} {xs : List Str} {Z : Value → Shared → Prop}
    (hh : A.handled = none) (hl : s.heap.IsTuple la items) (hi : PyProof.Rows.StrsAre items.toList xs) (room : xs.length + 1 < scanBound)
    (fin : ∀ (h' : Heap) (tk : Nat) (l' : List Str), l'.length = xs.length → (∀ x, x ∈ l' ↔ x ∈ xs) → SetS w h' s.heap.objs.size l' → (∀ b o, s.heap.get? b = some o → h'.get? b = some o) → Z (.ref s.heap.objs.size) { s with heap := h', toks := tk }) :
    wpAny (model P w) A (call (.type "set") [.ref la]) Z E s := by
  obtain ⟨c0, tl0, mro0⟩ := PySem.F.called_set.mro
  have made0 := PySem.F.called_set.made
  have sub0 := PySem.F.called_set.sub
  refine wpAny_call (codeAny_of_tree ?_)
  change wpAny _ _ (callAny (.type "set") _) _ _ _
  refine wpAny_pure ⟨Code.quiet_builtin _ (by decide +kernel), codeAny_builtin PySem.F.entry_type_call ?_⟩
  rw [Around.under_plain (weight_type_call_type "set" [.ref la] []) rfl]
  have nt0 := PySem.F.called_set.notType
  have cc0 := PySem.F.called_set.canCreate
  have tc0 := PySem.F.typeCall_set_1 (.ref la)
  repeat (any_goals (first | assumption | wp_step))
  have hsize : items.size = xs.length := by
    have := PyProof.Rows.StrsAre.len_eq hi
    simpa using this
  refine codeAny_mono (code_set_led1 (.ref la) (E := E) (Q₁ := fun ob z => ob = .ref s.heap.objs.size ∧ z = { s with heap := s.heap.push (newS w) }) ⟨rfl, rfl⟩) fun r z hr => ?_
  cases r with
  | error e => exact hr
  | ok fl =>
    cases fl <;> first | exact hr.elim | skip
    next ob =>
    obtain ⟨rfl, rfl⟩ := hr
    have isS : (s.heap.push (newS w)).get? s.heap.objs.size = some (newS w) := Heap.get?_push_size _ rfl
    have tyS : Shared.TypeIs { s with heap := s.heap.push (newS w) } (.ref s.heap.objs.size) "set" := ⟨_, isS, rfl⟩
    have li0 := PySem.F.called_set.init.lookup
    have bi0 := PySem.F.called_set.init.bind (.ref s.heap.objs.size)
    repeat (any_goals (first | assumption | wp_step))
    refine codeAny_mono (codeAny_call_builtin (R := wants (fun r z => r = .none ∧ ∃ h' tk l', z = { s with heap := h', toks := tk } ∧ l'.length = xs.length ∧ (∀ x, x ∈ l' ↔ x ∈ xs) ∧ SetS w h' s.heap.objs.size l' ∧
        (∀ b o, s.heap.get? b = some o → h'.get? b = some o)) E) PySem.F.called_set.init.plain PySem.F.entry_set_init (check_set_init_1 tyS ?_)) fun r2 z2 hr2 => ?_
    · obtain ⟨⟨lc, ld, lda, ls⟩, hol, hcl, nl, hdl⟩ := hl
      simp only at hcl hdl
      subst hcl hdl
      have hol' : (s.heap.push (newS w)).get? la = some ⟨.type "tuple", ld, .seq items nl, ls⟩ := Heap.get?_push_of_some _ hol
      have sl1 := PySem.F.sub_tuple_set
      have sl2 := PySem.F.sub_tuple_frozenset
      have nd1 : (Value.type "tuple" == Value.type "dict") = false := by decide
      have isl : (s.heap.push (newS w)).IsTuple la items := ⟨_, hol', rfl, nl, rfl⟩
      unfold Builtin.«set.__init__» noKeywords Builtin.Frozenset.updateFrom
      generalize hPI : pyIter = PI
      wp_walk
      subst hPI
      refine wpAny_pyIter_tuple (s := { s with heap := s.heap.push (newS w) }) isl ?_
      apply wpAny_bind
      apply wpAny_runValue
      have lS : la < s.heap.objs.size := Heap.lt_size hol
      have h3 : A.in1.in1.in1.handled = none := by simp [hh]
      have z1 : (s.heap.push (newS w)).objs.size = s.heap.objs.size + 1 := Heap.size_push ..
      have ne1 : la ≠ (s.heap.push (newS w)).objs.size := by rw [z1]; exact Nat.ne_of_lt (Nat.lt_succ_of_lt lS)
      have nin : s.heap.objs.size ∉ [(s.heap.push (newS w)).objs.size, la] := by
        rw [z1]
        simp only [List.mem_cons, List.not_mem_nil, or_false, not_or]
        exact ⟨Nat.ne_of_lt (Nat.lt_succ_self _), Nat.ne_of_gt lS⟩
      refine setS_loop ((Walks.tuple h3 _ la ne1 items).toS) s.heap.objs.size nin xs hsize.symm (by rw [hsize]; exact room) (fun i v hv => strs_pt hi i v (by rw [Array.getElem?_toList]; exact hv)) (items.size - 0) 0 _ [] (by omega) (Nat.zero_le _)
        ⟨⟨_, Heap.get?_push_size _ rfl, rfl, rfl⟩, isl.push _⟩ rfl (by simp) (SetS.fresh (Heap.get?_push_of_some _ isS)) fun z' l' mv hl' hx' S' => ?_
      obtain ⟨h', g', d', tk', os'⟩ := z'
      obtain rfl : g' = s.gens := mv.gens
      obtain rfl : d' = s.drawn := mv.drawn
      obtain rfl : os' = s.os := mv.os
      change wpAny _ _ _ _ _ _
      apply wpAny_pure
      change wpAny _ _ (ret Value.none) _ _ _
      refine wpAny_pure ⟨rfl, h', tk', l', rfl, by rw [hl', hsize], hx', S', fun b o e => ?_⟩
      have bl := Heap.lt_size e
      refine mv.heap b o (fun zz => ?_) (Heap.get?_push_of_some _ (Heap.get?_push_of_some _ e))
      simp only [List.mem_cons, List.not_mem_nil, or_false, z1] at zz
      rcases zz with zz | zz
      · exact absurd bl (by rw [zz]; exact Nat.lt_irrefl _)
      · exact absurd bl (by rw [zz]; exact Nat.not_lt_of_le (Nat.le_succ _))
    · cases r2 with
      | error e => exact hr2
      | ok fl2 =>
        cases fl2 <;> first | exact hr2.elim | skip
        next r3 =>
        obtain ⟨rfl, h', tk, l', rfl, hl', hx', S', k'⟩ := hr2
        repeat (any_goals (first | assumption | wp_step))
        exact fin _ _ l' hl' hx' S' k'
end
section
variable {P : Program} {w : World} {A : Around} {E : Value → Shared → Prop} {s : Shared}
theorem uniq_mem (x : Str) : ∀ l : List Str, x ∈ uniqS l ↔ x ∈ l
  | [] => Iff.rfl
  | y :: ys => by
    unfold uniqS
    split
    · next c =>
      rw [uniq_mem x ys, List.mem_cons]
      exact ⟨.inr, fun z => z.elim (fun z => by rw [z]; exact c) id⟩
    · rw [List.mem_cons, List.mem_cons, uniq_mem x ys]
theorem uniq_nodup : ∀ l : List Str, (uniqS l).Nodup
  | [] => List.nodup_nil
  | y :: ys => by
    unfold uniqS
    split
    · exact uniq_nodup ys
    · next c => exact List.nodup_cons.mpr ⟨fun z => c ((uniq_mem y ys).mp z), uniq_nodup ys⟩
theorem txs_are : ∀ {m : List (Int × Value)}, (∀ e ∈ m, TxE w e) → PyProof.Rows.StrsAre (m.map (·.2)) (m.map txOf)
  | [], _ => .nil
  | e :: m, g => by
    obtain ⟨x, u, e1, _⟩ := g e List.mem_cons_self
    have h1 : txOf e = x := by unfold txOf; rw [e1]
    rw [List.map_cons, List.map_cons, e1, h1]
    exact .cons x u (txs_are fun e' z => g e' (List.mem_cons_of_mem _ z))
theorem perm_strs {vs : List Value} {m : List (Int × Value)} (g : ∀ e ∈ m, TxE w e) (p : vs.Perm (m.map (·.2))) : ∃ xs, PyProof.Rows.StrsAre vs xs ∧ xs.Perm (m.map txOf) := by
  have all : ∀ us : List Value, (∀ v ∈ us, ∃ x u, v = Value.str x u) → PyProof.Rows.StrsAre us (us.map fun v => match v with | .str x _ => x | _ => Str.empty) := by
    intro us
    induction us with
    | nil => intro _; exact .nil
    | cons v us ih =>
      intro h
      obtain ⟨x, u, rfl⟩ := h v List.mem_cons_self
      exact .cons x u (ih fun v' z => h v' (List.mem_cons_of_mem _ z))
  refine ⟨_, all vs fun v hv => ?_, ?_⟩
  · obtain ⟨e, he, q⟩ := List.mem_map.mp (p.mem_iff.mp hv)
    obtain ⟨x, u, e1, _⟩ := g e he
    exact ⟨x, u, by rw [← q]; exact e1⟩
  · have := p.map fun v => match v with | .str x _ => x | _ => Str.empty
    rw [List.map_map] at this
    exact this
theorem sorted_of_set {a : Addr} {l ks : List Str} {Z : Value → Shared → Prop} (R : SetS w s.heap a l) (hl : ∀ x, x ∈ l ↔ x ∈ ks) (hh : A.handled = none) (few : l.length < 64)
    (q : ∀ s' p (out : Array Value) (c : Nat), (∀ b o, s.heap.get? b = some o → s'.heap.get? b = some o) → s'.gens = s.gens → s'.os = s.os → s.heap.objs.size ≤ p →
      s'.heap.get? p = some (seqObj "list" out c) → PyProof.Rows.StrsAre out.toList (sortS (uniqS ks)) → Z (.ref p) s') :
    wpAny (model P w) A (call (.builtin "sorted") [.ref a]) Z E s := by
  obtain ⟨o, es, ep, tb, ho, hx, hd, g, nd, hm, hz, hf, hr, led⟩ := R
  refine Calls.call_function_entry PyProof.Rows.kind_sorted PyProof.Rows.plain_sorted PyProof.Rows.entry_sorted (PyProof.Rows.args_sorted1 _) ?_
  unfold Builtin.«sorted»
  apply wpAny_bind (m := checkCount "sorted" 1 1 _)
  apply wpAny_pure
  apply wpAny_bind
  refine collect_set (A := A.in1) hh ⟨o, ho, hx.1, hd⟩ hf (by unfold scanBound; omega) hr led fun s1 vs k1 z1 g1 o1 pm => ?_
  obtain ⟨xs, hS, px⟩ := perm_strs g pm
  have len : vs.length = es.size := by simpa using pm.length_eq
  apply wpAny_bind
  refine wpAny_newList ?_ (by rw [len, sizeLine_eq]; omega)
  have new : (s1.heap.push (seqObj "list" vs.toArray 0)).get? s1.heap.objs.size = some (seqObj "list" vs.toArray 0) := Heap.get?_push_size _ rfl
  change wpAny _ _ _ _ _ { s1 with heap := s1.heap.push (seqObj "list" vs.toArray 0) }
  apply wpAny_bind
  apply wpAny_holding
  refine wpAny_call_entry PyProof.Rows.slot_list_sort ⟨_, new, rfl⟩ PyProof.Rows.entry_list_sort ?_ (PyProof.Rows.args_list_sort _)
  refine list_sort_treeK strKind_oneLt (s := { s1 with heap := s1.heap.push (seqObj "list" vs.toArray 0) }) new hS.keysOf (fun v1 v2 rest e => keyKind_strs (by rw [← e]; exact hS)) (by rw [len]; omega) fun st' hp hs => ⟨_, rfl, ?_⟩
  obtain ⟨ys, y1, y2, y3⟩ := sorted_out_str hS hp hs
  obtain ⟨e', he'⟩ := PyProof.Rows.sortedHeap_at (vs := vs) (out := (arrOf st').map (·.2)) new
  have py : ys.Perm (uniqS ks) := by
    refine (List.perm_ext_iff_of_nodup (y2.nodup_iff.mpr (px.nodup_iff.mpr nd)) (uniq_nodup ks)).mpr fun x => ?_
    rw [y2.mem_iff, px.mem_iff, ← hm x, hl x, uniq_mem]
  have eq := sort_uniq py y3
  subst eq
  apply wpAny_pure
  refine ⟨_, rfl, q _ s1.heap.objs.size ((arrOf st').map (·.2)) e' (fun b u e => ?_) g1 o1 z1 (by exact he') y1⟩
  have e2 := k1 b u e
  have hb : b < s1.heap.objs.size := Heap.lt_size e2
  rw [PyProof.Rows.sortedHeap_old (Nat.ne_of_lt hb) (by rw [size_push']; exact Nat.lt_succ_of_lt hb)]
  exact Heap.get?_push_of_some _ e2
end
theorem SetS.lt {w : World} {h h' : Heap} {l : List Str} (R : SetS w h' h.objs.size l) (k : ∀ b o, h.get? b = some o → h'.get? b = some o) : h.objs.size < h'.objs.size := by
  obtain ⟨o, _, _, _, ho, _⟩ := R
  exact Heap.lt_size ho
end MP
/-! list(zip(a, b)), a a list, b a text of the same length -/
namespace MZ
open PySem
open PySem.Sem (wp)
section
variable {P : Program} {W : World} {A : Around} {E : Value → Shared → Prop} {s : Shared} {z C D T p q : Addr} {f : Bool} {oT : Obj} {fp fq : List Addr} {m n i : Nat} {U V : Nat → Value → Prop} {Su Sv : Nat → Heap → Prop}
theorem dpair_next {R : Value → Shared → Prop} (ap : ZipSep2 z C D p q fp fq) (du : Draws P W A p fp m U Su) (dv : Draws P W A q fq n V Sv) (hz : IsZipHeld s.heap z C D T f) (hT : s.heap.get? T = some oT) (hC : IsPair s.heap C (.ref p) (.ref q))
    (su : Su i s.heap) (sv : Sv i s.heap) (lu : i < m) (lv : i < n)
    (k : ∀ x y g tk, U i x → V i y → IsZipHeld g z C D T true → Su (i + 1) g → Sv (i + 1) g → IsPair g s.heap.objs.size x y → g.objs.size = s.heap.objs.size + 1 →
      (∀ c o, c ≠ z → c ≠ p → c ≠ q → s.heap.get? c = some o → g.get? c = some o) → R (.ref s.heap.objs.size) { s with heap := g, toks := tk }) :
    wpAny (model P W) A (Builtin.«zip.__next__» ⟨[.ref z], []⟩) (fun fin s' => ∃ v, fin = .done (.ret v) ∧ R v s') E s := by
  show wpAny _ _ (field _ 2 >>= _) _ _ _
  apply wpAny_bind
  apply wpAny_field hz rfl (x := Value.bool false) rfl
  show wpAny _ _ (field _ 3 >>= _) _ _ _
  apply wpAny_bind
  apply wpAny_field hz rfl (x := Value.ref C) rfl
  apply wpAny_bind
  apply wpAny_seqItems hC rfl
  show wpAny _ _ (Builtin.SmallTypes.ownedTupleIsFree _ >>= _) _ _ _
  refine wpAny_bind (wpAny_tupleHeld_zip hz hT fun g1 z1 k1 => ?_)
  rw [if_neg (by decide)]
  apply wpAny_bind
  rw [← Array.forIn_toList]
  simp only [List.forIn_cons, List.forIn_nil]
  apply wpAny_bind
  refine wpAny_bind (wpAny_holding ?_)
  show wpAny _ _ (Builtin.SmallTypes.nextOf (Value.ref p) >>= _) _ _ _
  refine wpAny_bind (du.item i { s with heap := g1 } _ _ lu (du.over su k1 ap.zf1) fun x g2 t2 ux su2 k2 => wpAny_pure (wpAny_pure ?_))
  apply wpAny_bind
  refine wpAny_bind (wpAny_holding ?_)
  show wpAny _ _ (Builtin.SmallTypes.nextOf (Value.ref q) >>= _) _ _ _
  refine wpAny_bind (dv.item i { s with heap := g2, toks := t2 } _ _ lv (dv.over (dv.over sv k1 ap.zf2) k2 ap.sep1_2) fun y g3 t3 vy sv3 k3 => wpAny_pure (wpAny_pure ?_))
  apply wpAny_pure
  show wpAny _ _ (newTuple [x, y] >>= _) _ _ _
  apply wpAny_bind
  refine wpAny_newTuple ?_
  have e3 : g3.objs.size = s.heap.objs.size := k3.1.trans (k2.1.trans k1.1)
  have z3 := k3.extBut _ _ ap.zi2 (k2.extBut _ _ ap.zi1 z1)
  have su3 := du.over su2 k3 ap.sep2_1
  apply wpAny_pure
  refine ⟨_, rfl, ?_⟩
  show R (.ref g3.objs.size) _
  have new : IsPair (g3.push { cls := .type "tuple", data := .seq #[x, y] }) g3.objs.size x y := Heap.get?_push_size _ rfl
  have sz : (g3.push { cls := .type "tuple", data := .seq #[x, y] }).objs.size = g3.objs.size + 1 := Heap.size_push ..
  rw [e3] at new sz ⊢
  refine k x y _ t3 ux vy (Heap.get?_push_of_some _ z3) (du.frame _ _ _ su3 fun b _ o e => Heap.get?_push_of_some _ e) (dv.frame _ _ _ sv3 fun b _ o e => Heap.get?_push_of_some _ e) new sz fun c o n1 n2 n3 e => ?_
  exact Heap.get?_push_of_some _ (k3.extBut _ _ n3 (k2.extBut _ _ n2 (k1.extBut _ _ n1 e)))
theorem dpair_stop {Q : Fin → Shared → Prop} (ap : ZipSep2 z C D p q fp fq) (du : Draws P W A p fp m U Su) (hz : IsZipHeld s.heap z C D T f) (hT : s.heap.get? T = some oT) (hC : IsPair s.heap C (.ref p) (.ref q))
    (su : Su m s.heap)
    (k : ∀ g e, (∀ c o, c ≠ z → c ≠ p → c ≠ q → s.heap.get? c = some o → g.get? c = some o) → (∃ o, g.get? e = some o ∧ o.cls = .type "StopIteration") → E (.ref e) { s with heap := g }) :
    wpAny (model P W) A (Builtin.«zip.__next__» ⟨[.ref z], []⟩) Q E s := by
  show wpAny _ _ (field _ 2 >>= _) _ _ _
  apply wpAny_bind
  apply wpAny_field hz rfl (x := Value.bool false) rfl
  show wpAny _ _ (field _ 3 >>= _) _ _ _
  apply wpAny_bind
  apply wpAny_field hz rfl (x := Value.ref C) rfl
  apply wpAny_bind
  apply wpAny_seqItems hC rfl
  show wpAny _ _ (Builtin.SmallTypes.ownedTupleIsFree _ >>= _) _ _ _
  refine wpAny_bind (wpAny_tupleHeld_zip hz hT fun g1 z1 k1 => ?_)
  rw [if_neg (by decide)]
  apply wpAny_bind
  rw [← Array.forIn_toList]
  simp only [List.forIn_cons, List.forIn_nil]
  apply wpAny_bind
  refine wpAny_bind (wpAny_holding ?_)
  show wpAny _ _ (Builtin.SmallTypes.nextOf (Value.ref p) >>= _) _ _ _
  refine wpAny_bind (du.done { s with heap := g1 } _ _ (du.over su k1 ap.zf1) fun g2 e k2 he => ?_)
  exact k g2 e (fun c o n1 n2 _ x => k2 _ _ n2 (k1.extBut _ _ n1 x)) he
theorem dnx_pair {R : Option Value → Shared → Prop} (ap : ZipSep2 z C D p q fp fq) (du : Draws P W A.in1 p fp m U Su) (dv : Draws P W A.in1 q fq n V Sv) (hz : IsZipHeld s.heap z C D T f) (hT : s.heap.get? T = some oT) (hC : IsPair s.heap C (.ref p) (.ref q))
    (su : Su i s.heap) (sv : Sv i s.heap) (lu : i < m) (lv : i < n)
    (k : ∀ x y g tk, U i x → V i y → IsZipHeld g z C D T true → Su (i + 1) g → Sv (i + 1) g → IsPair g s.heap.objs.size x y → g.objs.size = s.heap.objs.size + 1 →
      (∀ c o, c ≠ z → c ≠ p → c ≠ q → s.heap.get? c = some o → g.get? c = some o) → R (some (.ref s.heap.objs.size)) { s with heap := g, toks := tk }) :
    wpAny (model P W) A (pyNext (.ref z)) R E s := by
  have ty : s.TypeIs (.ref z) "zip" := ⟨_, hz, rfl⟩
  unfold pyNext
  refine wpAny_bind (wpAny_attempt (wpAny_callSpecial?_slot (name := Str.ofString "__next__") ty F.slot_zip_next (wpAny_call_entry F.slot_zip_next ty F.entry_zip_next ?_ (F.args_zip_next_1 _))))
  exact dpair_next ap du dv hz hT hC su sv lu lv fun x y g tk a1 a2 a3 a4 a5 a6 a7 a8 => wpAny_pure (k x y g tk a1 a2 a3 a4 a5 a6 a7 a8)
theorem dnx_stop {R : Option Value → Shared → Prop} (ap : ZipSep2 z C D p q fp fq) (du : Draws P W A.in1 p fp m U Su) (hz : IsZipHeld s.heap z C D T f) (hT : s.heap.get? T = some oT) (hC : IsPair s.heap C (.ref p) (.ref q))
    (su : Su m s.heap) (k : ∀ g, (∀ c o, c ≠ z → c ≠ p → c ≠ q → s.heap.get? c = some o → g.get? c = some o) → R none { s with heap := g }) : wpAny (model P W) A (pyNext (.ref z)) R E s := by
  have ty : s.TypeIs (.ref z) "zip" := ⟨_, hz, rfl⟩
  unfold pyNext
  refine wpAny_bind (wpAny_attempt (wpAny_callSpecial?_slot (name := Str.ofString "__next__") ty F.slot_zip_next (wpAny_call_entry F.slot_zip_next ty F.entry_zip_next ?_ (F.args_zip_next_1 _))))
  refine dpair_stop ap du hz hT hC su fun g e k1 he => ?_
  obtain ⟨o, ho, hc⟩ := he
  exact wpAny_bind (wpAny_isInstance (T := "StopIteration") (b := true) ⟨o, ho, hc⟩ isSubtype_stop (wpAny_pure (k _ k1)))
end

/-- the state of the walk: the zip of two draws, i pairs taken, while S is filled -/
structure ZS (z C D p q S : Addr) (Su Sv : Nat → Heap → Prop) (i : Nat) (h : Heap) : Prop where
  c : IsPair h C (.ref p) (.ref q)
  u : Su i h
  v : Sv i h
  w : (IsZip h z C D .none ∧ ∃ x y, IsPair h D x y) ∨ ∃ T f o, IsZipHeld h z C D T f ∧ h.get? T = some o ∧ T ≠ z ∧ T ≠ p ∧ T ≠ q ∧ S < T
section
variable {P : Program} {W : World} {A : Around} {E : Value → Shared → Prop} {z C D p q S : Addr} {fp fq : List Addr} {n : Nat} {U V : Nat → Value → Prop} {Su Sv : Nat → Heap → Prop}
theorem zs_item {s : Shared} {i : Nat} {R : Option Value → Shared → Prop} (ap : ZipSep2 z C D p q fp fq) (du : Draws P W A.in1 p fp n U Su) (dv : Draws P W A.in1 q fq n V Sv) (lz : p < z) (lq : q < z) (lS : S < s.heap.objs.size) (st : ZS z C D p q S Su Sv i s.heap) (lt : i < n)
    (k : ∀ x y g tk, U i x → V i y → ZS z C D p q S Su Sv (i + 1) g → IsPair g s.heap.objs.size x y → g.objs.size = s.heap.objs.size + 1 →
      (∀ c o, c ≠ z → c ≠ D → c ≠ p → c ≠ q → s.heap.get? c = some o → g.get? c = some o) → R (some (.ref s.heap.objs.size)) { s with heap := g, toks := tk }) :
    wpAny (model P W) A (pyNext (.ref z)) R E s := by
  obtain ⟨hC, su, sv, hz⟩ := st
  have nw : z < s.heap.objs.size := by
    rcases hz with ⟨hz, _⟩ | ⟨_, _, _, hz, _⟩ <;> exact Heap.lt_size hz
  rcases hz with ⟨hz, x, y, hD⟩ | ⟨T, f, o, hz, hT, t1, t2, t3, t4⟩
  · refine wpAny_pyNext_zipD2_item ap du dv hz hC hD su sv lt lt fun x y g tk b1 b2 b3 b4 b5 b6 b7 b8 b9 => ?_
    refine k x y g tk b1 b2 ⟨b9 _ _ ap.TIz ap.TITO ap.TIi1 ap.TIi2 hC, b5, b6, .inr ⟨_, false, _, b3, b7, Nat.ne_of_gt nw, Nat.ne_of_gt (Nat.lt_trans lz nw), Nat.ne_of_gt (Nat.lt_trans lq nw), lS⟩⟩ b7 b8 b9
  · refine dnx_pair ap du dv hz hT hC su sv lt lt fun x y g tk b1 b2 b3 b5 b6 b7 b8 b9 => ?_
    exact k x y g tk b1 b2 ⟨b9 _ _ ap.TIz ap.TIi1 ap.TIi2 hC, b5, b6, .inr ⟨T, true, o, b3, b9 _ _ t1 t2 t3 hT, t1, t2, t3, t4⟩⟩ b7 b8 fun c o n1 _ n3 n4 e => b9 c o n1 n3 n4 e
theorem zs_done {s : Shared} {R : Option Value → Shared → Prop} (ap : ZipSep2 z C D p q fp fq) (du : Draws P W A.in1 p fp n U Su) (dv : Draws P W A.in1 q fq n V Sv) (st : ZS z C D p q S Su Sv n s.heap)
    (k : ∀ g tk, (∀ c o, c ≠ z → c ≠ D → c ≠ p → c ≠ q → s.heap.get? c = some o → g.get? c = some o) → R none { s with heap := g, toks := tk }) :
    wpAny (model P W) A (pyNext (.ref z)) R E s := by
  obtain ⟨hC, su, sv, hz⟩ := st
  rcases hz with ⟨hz, x, y, hD⟩ | ⟨T, f, o, hz, hT, t1, t2, t3, t4⟩
  · exact wpAny_pyNext_zipD2_end ap du dv hz hC hD su sv (Nat.le_refl _) (Nat.le_refl _) (.inl rfl) k
  · exact dnx_stop ap du hz hT hC su fun g b => k g s.toks fun c o n1 _ n3 n4 e => b c o n1 n3 n4 e
theorem ZS.over {i : Nat} {h g : Heap} (du : Draws P W A p fp n U Su) (dv : Draws P W A q fq n V Sv) (st : ZS z C D p q S Su Sv i h) (hS : z < S) (lC : C < z) (lD : D < z) (fu : ∀ b ∈ fp, b < z) (fv : ∀ b ∈ fq, b < z)
    (k : ∀ b o, b ≠ S → h.get? b = some o → g.get? b = some o) : ZS z C D p q S Su Sv i g := by
  obtain ⟨hC, su, sv, hz⟩ := st
  refine ⟨k _ _ (Nat.ne_of_lt (Nat.lt_trans lC hS)) hC, du.frame _ _ _ su fun b hb o e => k b o (Nat.ne_of_lt (Nat.lt_trans (fu b hb) hS)) e, dv.frame _ _ _ sv fun b hb o e => k b o (Nat.ne_of_lt (Nat.lt_trans (fv b hb) hS)) e, ?_⟩
  rcases hz with ⟨hz, x, y, hD⟩ | ⟨T, f, o, hz, hT', t1, t2, t3, t4⟩
  · exact .inl ⟨k _ _ (Nat.ne_of_lt hS) hz, x, y, k _ _ (Nat.ne_of_lt (Nat.lt_trans lD hS)) hD⟩
  · exact .inr ⟨T, f, o, k _ _ (Nat.ne_of_lt hS) hz, k _ _ (Nat.ne_of_gt t4) hT', t1, t2, t3, t4⟩
end
/-- the pairs gathered so far -/
structure ZG (lo : Addr) (U V : Nat → Value → Prop) (h : Heap) (as : List Addr) : Prop where
  up : ∀ a ∈ as, lo < a
  at_ : ∀ j a, as[j]? = some a → ∃ x y, U j x ∧ V j y ∧ IsPair h a x y
theorem ZG.over {lo : Addr} {U V : Nat → Value → Prop} {h g : Heap} {as : List Addr} (d : ZG lo U V h as) (k : ∀ b o, lo < b → h.get? b = some o → g.get? b = some o) : ZG lo U V g as :=
  ⟨d.up, fun j a e => let ⟨x, y, h1, h2, h3⟩ := d.at_ j a e; ⟨x, y, h1, h2, k _ _ (d.up a (List.mem_of_getElem? e)) h3⟩⟩
theorem ZG.push {lo a : Addr} {U V : Nat → Value → Prop} {h : Heap} {as : List Addr} {x y : Value} (d : ZG lo U V h as) (la : lo < a) (hu : U as.length x) (hv : V as.length y) (hp : IsPair h a x y) : ZG lo U V h (as ++ [a]) := by
  refine ⟨fun b hb => ?_, fun j b hj => ?_⟩
  · rcases List.mem_append.mp hb with hb | hb
    · exact d.up b hb
    · rw [List.mem_singleton.mp hb]; exact la
  · rcases Nat.lt_trichotomy j as.length with h1 | h1 | h1
    · rw [List.getElem?_append_left h1] at hj
      exact d.at_ j b hj
    · subst h1
      have hb : a = b := by simpa using hj
      subst hb
      exact ⟨x, y, hu, hv, hp⟩
    · rw [List.getElem?_eq_none (by rw [List.length_append, List.length_singleton]; omega)] at hj
      cases hj
/-- the object of a list -/
abbrev lo0 (acc : Array Value) (c : Nat) : Obj := { cls := .type "list", dict := none, data := .seq acc c, slots := #[] }
section
variable {P : Program} {W : World} {A : Around} {R : Result → Shared → Prop} {z C D p q S : Addr} {fp fq : List Addr} {n : Nat} {U V : Nat → Value → Prop} {Su Sv : Nat → Heap → Prop}
theorem z_loop (ap : ZipSep2 z C D p q fp fq) (du : Draws P W A.in1.in1 p fp n U Su) (dv : Draws P W A.in1.in1 q fq n V Sv) (hn : n ≤ sizeLine) (lz : p < z) (lq : q < z) (hS : z < S) (lC : C < z) (lD : D < z) (fu : ∀ b ∈ fp, b < z) (fv : ∀ b ∈ fq, b < z) (res : Value) {h₀ : Heap} {s₀ : Shared}
    (hR : ∀ g tk acc c as, (∀ b o, b ≠ S → b ≠ z → b ≠ D → b ≠ p → b ≠ q → h₀.get? b = some o → g.get? b = some o) → g.get? S = some (lo0 acc c) → as.length = n → ZG S U V g as → acc.toList = as.map Value.ref → R (.ok (.ret res)) { s₀ with heap := g, toks := tk }) :
    ∀ (k i : Nat) (h : Heap) (tk c : Nat) (acc : Array Value) (as : List Addr), n - i = k → i ≤ n → ZS z C D p q S Su Sv i h → (∀ b o, b ≠ S → b ≠ z → b ≠ D → b ≠ p → b ≠ q → h₀.get? b = some o → h.get? b = some o) →
      h.get? S = some (lo0 acc c) → acc.toList = as.map Value.ref → as.length = i → ZG S U V h as →
      codeAny (model P W) A (.builtin "list.extend.loop" ⟨[.ref S, .ref z, res], []⟩) R { s₀ with heap := h, toks := tk } := by
  have nS : ∀ {b}, b < z → b ≠ S := fun hb => Nat.ne_of_lt (Nat.lt_trans hb hS)
  have S1 : S ≠ z := Nat.ne_of_gt hS
  have S2 : S ≠ D := (nS lD).symm
  have S3 : S ≠ p := (nS lz).symm
  have S4 : S ≠ q := (nS lq).symm
  have gt : ∀ {b}, S < b → b ≠ z ∧ b ≠ D ∧ b ≠ p ∧ b ≠ q := fun hb =>
    ⟨Nat.ne_of_gt (Nat.lt_trans hS hb), Nat.ne_of_gt (Nat.lt_trans (Nat.lt_trans lD hS) hb), Nat.ne_of_gt (Nat.lt_trans (Nat.lt_trans lz hS) hb), Nat.ne_of_gt (Nat.lt_trans (Nat.lt_trans lq hS) hb)⟩
  intro k
  induction k with
  | zero =>
    intro i h tk c acc as hk hi st hkeep hL hacc hal hG
    have hin : i = n := by omega
    subst hin
    apply codeAny_builtin PySem.F.entry_extend_loop
    rw [Around.under_plainId PySem.F.plain_extend_loop _]
    show wpAny (model P W) A.in1 (pyNext (.ref z) >>= _) _ _ _
    refine wpAny_bind (zs_done (s := { s₀ with heap := h, toks := tk }) ap du dv st fun g tk' kg => ?_)
    exact wpAny_pure (hR g tk' acc c as (fun b o n1 n2 n3 n4 n5 e => kg b o n2 n3 n4 n5 (hkeep b o n1 n2 n3 n4 n5 e)) (kg S _ S1 S2 S3 S4 hL) hal (hG.over fun b o hb e => kg b o (gt hb).1 (gt hb).2.1 (gt hb).2.2.1 (gt hb).2.2.2 e) hacc)
  | succ k ih =>
    intro i h tk c acc as hk hi st hkeep hL hacc hal hG
    have lt : i < n := by omega
    have sz : acc.size = i := by rw [← Array.length_toList, hacc, List.length_map, hal]
    have hLs : S < h.objs.size := Heap.lt_size hL
    apply codeAny_builtin PySem.F.entry_extend_loop
    rw [Around.under_plainId PySem.F.plain_extend_loop _]
    show wpAny (model P W) A.in1 (pyNext (.ref z) >>= _) _ _ _
    refine wpAny_bind (zs_item (s := { s₀ with heap := h, toks := tk }) ap du dv lz lq hLs st lt fun x y g tk' ux vy st' hP hsz kg => ?_)
    dsimp only at hP hsz kg ⊢
    have hL' := kg S _ S1 S2 S3 S4 hL
    have up : ∀ b o, b ≠ S → g.get? b = some o → (g.update S (Obj.mapSeq (·.push (Value.ref h.objs.size)))).get? b = some o := fun b o hb e => (Heap.get?_update_other _ _ (Ne.symm hb)).trans e
    show wpAny (model P W) A.in1 (updateSeq S (·.push (Value.ref h.objs.size)) >>= _) _ _ _
    apply wpAny_bind
    refine wpAny_updateSeq hL' rfl (wpAny_pure ⟨plainId_quiet PySem.F.plain_extend_loop _, ih (i + 1) _ tk' _ (acc.push (Value.ref h.objs.size)) (as ++ [h.objs.size]) (by omega) lt (st'.over du dv hS lC lD fu fv up)
      (fun b o n1 n2 n3 n4 n5 e => up b o n1 (kg b o n2 n3 n4 n5 (hkeep b o n1 n2 n3 n4 n5 e))) (Heap.get?_update_self _ hL' rfl) (by rw [Array.toList_push, hacc, List.map_append]; rfl) (by rw [List.length_append, hal]; rfl) ?_⟩) (by rw [sz]; omega) (by show (acc.push (Value.ref h.objs.size)).size ≤ sizeLine + 1; rw [Array.size_push, sz]; omega)
    subst hal
    exact ZG.push (hG.over fun b o hb e => up b o (Nat.ne_of_gt hb) (kg b o (gt hb).1 (gt hb).2.1 (gt hb).2.2.1 (gt hb).2.2.2 e)) hLs ux vy (up _ _ (Nat.ne_of_gt hLs) hP)
end
theorem zip_no_len : typeLookup (.type "zip") "__len__" = pure none := by rw [typeLookup_type, builtinLookup_eq_fast]; kernel_rfl
theorem zip_no_hint : typeLookup (.type "zip") "__length_hint__" = pure none := by rw [typeLookup_type, builtinLookup_eq_fast]; kernel_rfl
section
variable {P : Program} {W : World} {A : Around} {E : Value → Shared → Prop} {s : Shared} {z C D p q : Addr} {fp fq : List Addr} {n : Nat} {U V : Nat → Value → Prop} {Su Sv : Nat → Heap → Prop}
/-- list(z) of a zip at its begin -/
theorem z_list {Q : Value → Shared → Prop} (ap : ZipSep2 z C D p q fp fq) (du : ∀ A' : Around, A'.handled = none → Draws P W A' p fp n U Su) (dv : ∀ A' : Around, A'.handled = none → Draws P W A' q fq n V Sv) (hh : A.handled = none) (hn : n ≤ sizeLine) (lz : p < z) (lq : q < z) (lC : C < z) (lD : D < z) (fu : ∀ b ∈ fp, b < z) (fv : ∀ b ∈ fq, b < z)
    (hz : IsZip s.heap z C D .none) (hC : IsPair s.heap C (.ref p) (.ref q)) {x0 y0 : Value} (hD : IsPair s.heap D x0 y0) (su : Su 0 s.heap) (sv : Sv 0 s.heap)
    (hQ : ∀ g tk acc c as, (∀ b o, b ≠ z → b ≠ D → b ≠ p → b ≠ q → s.heap.get? b = some o → g.get? b = some o) → g.get? s.heap.objs.size = some (lo0 acc c) → as.length = n → ZG s.heap.objs.size U V g as → acc.toList = as.map Value.ref →
      Q (.ref s.heap.objs.size) { s with heap := g, toks := tk }) :
    wpAny (model P W) A (call (.type "list") [.ref z]) Q E s := by
  refine callType_codes (Q₁ := fun obj s₁ => obj = .ref s.heap.objs.size ∧ s₁ = { s with heap := s.heap.push (lo0 #[] 0) }) PySem.F.called_list (PySem.F.typeCall_list_1 _) PySem.F.entry_list_init (code_list_new _ ⟨rfl, rfl⟩) fun obj s₁ e₁ => ?_
  obtain ⟨rfl, rfl⟩ := e₁
  have hz0 : z < s.heap.objs.size := Heap.lt_size hz
  have hS : (s.heap.push (lo0 #[] 0)).get? s.heap.objs.size = some (lo0 #[] 0) := Heap.get?_push_size _ rfl
  refine ⟨⟨_, hS, rfl⟩, PySem.F.args_list_init_2 _ _, ?_⟩
  generalize hSS : s.heap.objs.size = S at *
  show wpAny _ _ (do let old ← Builtin.List.listItems (.ref S); Builtin.List.listUpdate (.ref S) (fun _ => #[]); letGo old.toList.reverse; Builtin.List.listExtendWith (.ref S) (.ref z) .none) _ _ _
  apply wpAny_bind
  unfold Builtin.List.listItems
  refine wpAny_bind (wpAny_seqItems hS rfl (wpAny_pure ?_))
  show wpAny _ _ (updateSeq S (fun _ => #[]) >>= fun _ => letGo (#[] : Array Value).toList.reverse >>= fun _ => Builtin.List.listExtendWith (.ref S) (.ref z) .none) _ _ _
  refine wpAny_bind (wpAny_updateSeq hS rfl ?_)
  have hS2 := Heap.get?_update_self (Obj.mapSeq (fun _ => (#[] : Array Value))) hS rfl
  have o2 : ∀ b o, b ≠ S → s.heap.get? b = some o → ((s.heap.push (lo0 #[] 0)).update S (Obj.mapSeq (fun _ => (#[] : Array Value)))).get? b = some o :=
    fun b o hb e => (Heap.get?_update_other _ _ (Ne.symm hb)).trans (Heap.get?_push_of_some _ e)
  refine wpAny_bind (wpAny_letGo ?_)
  have zS : z ≠ S := Nat.ne_of_lt hz0
  have ty : ∀ {g : Heap} {tk : Nat}, g.get? z = s.heap.get? z → Shared.TypeIs { s with heap := g, toks := tk } (.ref z) "zip" := fun e => ⟨_, e.trans hz, rfl⟩
  have zz := o2 z _ zS hz
  unfold Builtin.List.listExtendWith
  refine wpAny_bind (wpAny_typeOf (T := "zip") ⟨_, zz, rfl⟩ ?_)
  have h1 : Builtin.List.listSameRef (.ref S) (.ref z) = false := by simp [Builtin.List.listSameRef, Ne.symm zS]
  have h2 : (Value.type "zip" == Value.type "list") = false := by decide
  have h3 : (Value.type "zip" == Value.type "tuple") = false := by decide
  simp only [h1, h2, h3, Bool.or_false, Bool.false_eq_true, if_false]
  refine wpAny_bind (wpAny_pyIter_zip zz ?_)
  refine wpAny_bind (wpAny_holding ?_)
  unfold Builtin.List.listLengthHint
  refine wpAny_bind (wpAny_specialOf (T := "zip") ⟨_, zz, rfl⟩ zip_no_len ?_)
  show wpAny _ _ (specialOf (Value.ref z) (Str.ofString "__length_hint__") >>= _) _ _ _
  refine wpAny_bind (wpAny_specialOf (T := "zip") ⟨_, zz, rfl⟩ zip_no_hint ?_)
  apply wpAny_pure
  show wpAny _ _ (rule "list.extend.makes-room" >>= fun _ => Builtin.List.listTouch (.ref S) >>= fun _ => again (.builtin "list.extend.loop" ⟨[.ref S, .ref z, .none], []⟩)) _ _ _
  refine wpAny_bind (wpAny_rule ?_)
  apply wpAny_bind
  show wpAny _ _ (updateSeq S (·.push .none) >>= fun _ => updateSeq S (·.pop)) _ _ _
  refine wpAny_bind (wpAny_updateSeq hS2 rfl ?_)
  have hS3 := Heap.get?_update_self (Obj.mapSeq (·.push Value.none)) hS2 rfl
  refine wpAny_updateSeq hS3 rfl ?_
  have hS4 := Heap.get?_update_self (Obj.mapSeq (·.pop)) hS3 rfl
  have o4 : ∀ b o, b ≠ S → s.heap.get? b = some o → ((((s.heap.push (lo0 #[] 0)).update S (Obj.mapSeq (fun _ => (#[] : Array Value)))).update S (Obj.mapSeq (·.push Value.none))).update S (Obj.mapSeq (·.pop))).get? b = some o :=
    fun b o hb e => (Heap.get?_update_other _ _ (Ne.symm hb)).trans ((Heap.get?_update_other _ _ (Ne.symm hb)).trans (o2 b o hb e))
  have nS : ∀ {b}, b < z → b ≠ S := fun hb => Nat.ne_of_lt (Nat.lt_trans hb hz0)
  refine wpAny_pure ⟨plainId_quiet PySem.F.plain_extend_loop _, ?_⟩
  refine z_loop (A := A.in1) (s₀ := s) (h₀ := s.heap) ap (du _ (by exact hh)) (dv _ (by exact hh)) hn lz lq hz0 lC lD fu fv .none (fun g tk acc c as kg hL hal hG hacc => ?_) n 0 _ _ _ #[] [] rfl (Nat.zero_le _)
    ⟨o4 _ _ (nS lC) hC, (du A hh).frame _ _ _ su fun b hb o e => o4 b o (nS (fu b hb)) e, (dv A hh).frame _ _ _ sv fun b hb o e => o4 b o (nS (fv b hb)) e, .inl ⟨o4 _ _ zS hz, x0, y0, o4 _ _ (nS lD) hD⟩⟩ (fun b o n1 n2 n3 n4 n5 e => o4 b o n1 e) hS4 rfl rfl ⟨(fun a ha => nomatch ha), fun j a hj => by simp at hj⟩
  exact ⟨rfl, hQ g tk acc c as (fun b o n2 n3 n4 n5 e => kg b o (by rw [← hSS]; exact Nat.ne_of_lt (Heap.lt_size e)) n2 n3 n4 n5 e) hL hal hG hacc⟩
end
theorem ap5 (m a1 : Nat) (h : a1 < m) : ZipSep2 (m + 4) (m + 2) (m + 3) m (m + 1) [m, a1] [m + 1] where
  TIz := by show (m + 2 : Nat) ≠ m + 4; omega
  TOz := by show (m + 3 : Nat) ≠ m + 4; omega
  TITO := by show (m + 2 : Nat) ≠ m + 3; omega
  TIi1 := by show (m + 2 : Nat) ≠ m; omega
  mem1 := List.mem_cons_self
  zf1 := by show ¬ (m + 4 : Nat) ∈ [m, a1]; simp; omega
  Tf1 := by show ¬ (m + 3 : Nat) ∈ [m, a1]; simp; omega
  TIi2 := by show (m + 2 : Nat) ≠ m + 1; omega
  mem2 := List.mem_cons_self
  zf2 := by show ¬ (m + 4 : Nat) ∈ [m + 1]; simp
  Tf2 := by show ¬ (m + 3 : Nat) ∈ [m + 1]; simp
  sep1_2 := by show ¬ (m : Nat) ∈ [m + 1]; simp
  sep2_1 := by show ¬ (m + 1 : Nat) ∈ [m, a1]; simp; omega
theorem fp5 (m a1 : Nat) (h : a1 < m) : ∀ b ∈ ([m, a1] : List Nat), b < m + 4 := by intro b hb; simp at hb; omega
theorem fq5 (m : Nat) : ∀ b ∈ ([m + 1] : List Nat), b < m + 4 := by intro b hb; simp at hb; omega
end MZ
namespace MP
open PySem L2 PySem.Spec PyProof.Rows

/-! dict(zip(a, b)) of two tuples -/
theorem RP.zip {B : Bd} {μ ex : List Addr} {H : Hp} : ∀ {l m : List W} {xs ys : List V}, RA B μ ex H l xs → RA B μ ex H m ys → RP B μ ex H (l.zip m) (xs.zip ys)
  | [], _, xs, ys, h, _ => by rw [show xs = [] from h]; exact .nil
  | _ :: _, [], xs, ys, _, h => by rw [show ys = [] from h, List.zip_nil_right, List.zip_nil_right]; exact .nil
  | a :: l, b :: m, _, _, ⟨x, xs, rfl, r1, r2⟩, ⟨y, ys, rfl, r3, r4⟩ => .cons r1 r3 (RP.zip r2 r4)
theorem zipK {P : Program} {w : World} : ∀ {xs ys : List V} {us vs : List Value} {new : List (Key × V)}, Vals xs us → Vals ys vs → xs.zip ys = new.map (fun kv => (kV kv.1, kv.2)) →
    ∃ prs : List (Key × Value), KV new prs ∧ prs.length = min us.length vs.length ∧ ∀ (i : Nat) key v, us[i]? = some key ∧ vs[i]? = some v → ∃ k, prs[i]? = some (k, v) ∧ (mixKind P w).is k key = true
  | [], ys, _, vs, new, .nil, _, e => by
    obtain rfl : new = [] := by simpa using e.symm
    exact ⟨[], .nil, by simp, fun i key v h => by simp at h⟩
  | _ :: _, [], _, _, new, _, .nil, e => by
    obtain rfl : new = [] := by simpa using e.symm
    exact ⟨[], .nil, by simp, fun i key v h => by simp at h⟩
  | x :: xs, y :: ys, u :: us, v :: vs, new, .cons r1 r2, .cons r3 r4, e => by
    cases new with
    | nil => simp at e
    | cons n new =>
      rw [List.zip_cons_cons, List.map_cons] at e
      obtain ⟨e1, e2⟩ := List.cons.inj e
      obtain ⟨e3, e4⟩ := Prod.mk.inj e1
      subst e3 e4
      obtain ⟨prs, h1, h2, h3⟩ := zipK (P := P) (w := w) r2 r4 e2
      refine ⟨(n.1, v) :: prs, .cons ⟨rfl, r3⟩ h1, by simp [h2], fun i key z h => ?_⟩
      cases i with
      | zero =>
        obtain ⟨a1, a2⟩ := h
        cases a1
        cases a2
        exact ⟨n.1, rfl, kV_is r1⟩
      | succ i => exact h3 i key z (by simpa using h)
theorem zipT : ∀ {xs ys : List V} {us vs : List Value} {new : List (List Key × Addr × V)}, Vals xs us → Vals ys vs → xs.zip ys = new.map (fun x => (.ref x.2.1, x.2.2)) →
    ∃ prs : List (List Key × Addr × Value), EnT new prs ∧ prs.length = min us.length vs.length ∧ ∀ (i : Nat) key v, us[i]? = some key ∧ vs[i]? = some v → ∃ k b, prs[i]? = some (k, b, v) ∧ key = .ref b
  | [], ys, _, vs, new, .nil, _, e => by
    obtain rfl : new = [] := by simpa using e.symm
    exact ⟨[], .nil, by simp, fun i key v h => by simp at h⟩
  | _ :: _, [], _, _, new, _, .nil, e => by
    obtain rfl : new = [] := by simpa using e.symm
    exact ⟨[], .nil, by simp, fun i key v h => by simp at h⟩
  | x :: xs, y :: ys, u :: us, v :: vs, new, .cons r1 r2, .cons r3 r4, e => by
    cases new with
    | nil => simp at e
    | cons n new =>
      rw [List.zip_cons_cons, List.map_cons] at e
      obtain ⟨e1, e2⟩ := List.cons.inj e
      obtain ⟨e3, e4⟩ := Prod.mk.inj e1
      subst e3 e4
      obtain ⟨prs, h1, h2, h3⟩ := zipT r2 r4 e2
      refine ⟨(n.1, n.2.1, v) :: prs, .cons ⟨rfl, rfl, r3⟩ h1, by simp [h2], fun i key z h => ?_⟩
      cases i with
      | zero =>
        obtain ⟨a1, a2⟩ := h
        cases a1
        cases a2
        exact ⟨n.1, n.2.1, rfl, r1⟩
      | succ i => exact h3 i key z (by simpa using h)
theorem EnT.back {xs : List (List Key × Addr × V)} {vs : List (List Key × Addr × Value)} (h : EnT xs vs) : ∀ q ∈ vs, ∃ p ∈ xs, p.1 = q.1 ∧ p.2.1 = q.2.1 := EnT.mem h
section
variable {c : Cfg} {fa : Str → Option Addr} {X : Cx} {sc : Scope} {k : Nat} {r : Rec}
theorem paired_at {α β : Type} {F : α → β → Prop} : ∀ {l : List α} {m : List β} {i : Nat} {a : α}, Paired F l m → l[i]? = some a → ∃ b, m[i]? = some b ∧ F a b
  | _, _, i, a, .nil, e => by simp at e
  | _ :: _, y :: _, 0, a, .cons h _, e => by simp at e; subst e; exact ⟨y, rfl, h⟩
  | _ :: _, _ :: _, i + 1, a, .cons _ t, e => by
    obtain ⟨b, h1, h2⟩ := paired_at t (by simpa using e)
    exact ⟨b, by simpa using h1, h2⟩
theorem specOf_inv {f : Str} {es : List Expr} {sp : Spec} (h : specOf f es = some sp) (hnl : ∀ ps b s, sp ≠ .lam ps b s) :
    (∃ a p pos, es = [.Call (.Name "set" p) [a] [] pos] ∧ f = "sorted" ∧ sp = .sset a) ∨ (∃ a b p pos, es = [.Call (.Name "zip" p) [a, b] [] pos] ∧ f = "dict" ∧ sp = .zip a b) ∨
    (∃ e ap pos, es = [.Call (.Attribute e "values" ap) [] [] pos] ∧ f = "list" ∧ sp = .vals e ∧ (ap.endLine == pos.line) = true ∧ baseOk e = true) ∨
    (∃ a b p p2 pos pos2, es = [.Call (.Name "list" p) [.Call (.Name "zip" p2) [a, b] [] pos2] [] pos] ∧ f = "dict" ∧ sp = .zipl a b) := by
  match es, h with
  | [e], h =>
    cases e with
    | Lambda ps body scope lp =>
      exfalso
      change (if lamP ps = true then some (Spec.lam ps body scope) else none) = _ at h
      split at h
      · cases h; exact hnl _ _ _ rfl
      · cases h
    | Call fn args kws pos =>
    cases fn <;> first | (cases h; done) | skip
    · next e2 m ap =>
      match args, kws, h with
      | [], [], h =>
        change (if f = "list" ∧ m = "values" ∧ (ap.endLine == pos.line) = true ∧ baseOk e2 = true then some (Spec.vals e2) else none) = _ at h
        split at h
        · next hz => cases h; obtain ⟨rfl, rfl, h1, h2⟩ := hz; exact .inr (.inr (.inl ⟨_, _, _, rfl, rfl, rfl, h1, h2⟩))
        · cases h
    · next g p =>
      match args, kws, h with
      | [a'], [], h =>
        change (if f = "sorted" ∧ g = "set" then some (Spec.sset a') else if f = "dict" ∧ g = "list" then zipIn a' else none) = _ at h
        split at h
        · next hz => cases h; obtain ⟨rfl, rfl⟩ := hz; exact .inl ⟨_, _, _, rfl, rfl, rfl⟩
        split at h
        · next hz =>
          obtain ⟨rfl, rfl⟩ := hz
          cases a' <;> first | (cases h; done) | skip
          next fn2 args2 kws2 pos2 =>
          cases fn2 <;> first | (cases h; done) | skip
          next g2 p2 =>
          match args2, kws2, h with
          | [a2, b2], [], h =>
            change (if g2 = "zip" then some (Spec.zipl a2 b2) else none) = _ at h
            split at h
            · next hz => cases h; subst hz; exact .inr (.inr (.inr ⟨_, _, _, _, _, _, rfl, rfl, rfl⟩))
            · cases h
        · cases h
      | [a', b'], [], h =>
        change (if f = "dict" ∧ g = "zip" then some (Spec.zip a' b') else none) = _ at h
        split at h
        · next hz => cases h; obtain ⟨rfl, rfl⟩ := hz; exact .inr (.inl ⟨_, _, _, _, rfl, rfl, rfl⟩)
        · cases h
    | _ => cases h
theorem base_ok {o : Expr} {m : Str} {env : Env} {whole : Sem Value} (h : baseOk o = true) : attributeBase o m env whole = whole := by
  cases o with
  | Call f es ks p =>
    cases f with
    | Name id p2 =>
      cases es with
      | cons _ _ => rfl
      | nil =>
        cases ks with
        | cons _ _ => rfl
        | nil =>
          have : (id != ("super" : Str)) = true := by simpa [baseOk] using h
          unfold attributeBase
          dsimp only
          rw [this]
          rfl
    | _ => rfl
  | _ => rfl
theorem ok_zip (ro : RecOk c fa k r) (ok : Ok c fa X sc k) (f : Str) (p : Pos) (es : List Expr) (pos : Pos) {a b : Expr} (hz : specOf f es = some (.zip a b)) : PE X (.Call (.Name f p) es [] pos) (tW (bd fa X) (evE c r sc (.Call (.Name f p) es [] pos))) := by
  obtain ⟨_, _, _, _, _, h0⟩ | ⟨a', b', p2, pos2, rfl, rfl, h0⟩ | ⟨_, _, _, _, _, h0, _⟩ | ⟨_, _, _, _, _, _, _, _, h0⟩ := specOf_inv hz (fun _ _ _ h => nomatch h) <;> first | (cases h0; done) | skip
  cases h0
  refine ⟨fun pins s σ H Q I ⟨ρ, st, μ, ex, w, st', er, hs, e, q⟩ => ?_⟩
  simp only [evE, hz] at e
  split at e
  case isFalse => cases e
  next hc =>
  obtain ⟨g1, b1, g2, b2⟩ := hc
  obtain ⟨⟨ws, st1⟩, e1, e2⟩ := Option.bind_eq_some_iff.mp e
  have hst : noStars [a, b] = true := stars_of e1
  simp only [noStars, Bool.and_eq_true, Bool.not_eq_true'] at hst
  refine Call_ (ld_blt I (gl_ok ok g1) (ok.bs _ b1) boot_dict (callWith_type1 (T := "dict") ?_ rfl rfl))
  show wpAny _ _ (spliced [(false, eval (.Call (.Name "zip" p2) [a, b] [] pos2) X.env)]) _ _ s
  have arg := (ok_list (ro X sc ok).1 [a, b]).run pos2 pins s σ H (fun xs H1 => ∃ μ1, Ext μ H μ1 H1 ∧ S (bd fa X) μ1 ex H1 st1 ∧ RA (bd fa X) μ1 ex H1 ws xs) I ⟨ρ, st, μ, ex, ws, st1, er, hs, e1, fun μ1 H1 xs x1 s1 r1 => ⟨μ1, x1, s1, r1⟩⟩
  refine Calls.spliced_cons (Call_ (ld_blt I (gl_ok ok g2) (ok.bs _ b2) PyProof.Rows.boot_zip (callWith_type1 (T := "zip") (thn arg ?_) (star_no hst.1) (plain_of (by simp [noStars, hst.2])))))
  rintro us s1 ⟨xs, H1, I1, rV, μ1, x1, sS, r1⟩
  dsimp only at e2
  split at e2
  case h_2 => cases e2
  next l m =>
  obtain ⟨w', e3, e4⟩ := Option.map_eq_some_iff.mp e2
  cases e4
  obtain ⟨v1, v2, rfl, q1, q2⟩ := RA.two_inv r1
  obtain ⟨a1, xs1, rfl, f1, ra⟩ := q1
  obtain ⟨a2, xs2, rfl, f2, rb⟩ := q2
  obtain ⟨u1, u2, rfl, z1, z2⟩ := vals2 rV
  cases (show u1 = Value.ref a1 from z1)
  cases (show u2 = Value.ref a2 from z2)
  obtain ⟨its1, rv1, p1, l1⟩ := I1.tuple f1.sq
  obtain ⟨its2, rv2, p2, l2⟩ := I1.tuple f2.sq
  obtain ⟨o1, ho1, _⟩ := id p1
  obtain ⟨o2, ho2, _⟩ := id p2
  refine RZ.call_zipT (show s1.heap.IsTuple a1 its1.toArray from p1) (show s1.heap.IsTuple a2 its2.toArray from p2) fun g hz hTI hTO h1 h2 hsz hk => Calls.spliced_nil ?_
  have ap := PySem.W.ktu_apart s1.heap.objs.size a1 a2 (Heap.lt_size ho1) (Heap.lt_size ho2)
  have zk : MZ.ZOk (s1.heap.objs.size + 4) (s1.heap.objs.size + 2) (s1.heap.objs.size + 3) s1.heap.objs.size (s1.heap.objs.size + 1) a1 a2 its1.toArray its2.toArray g :=
    ⟨hz, hTI, ⟨_, _, hTO⟩, h1, h2, Heap.IsTuple.at p1 fun o e => hk _ o e, Heap.IsTuple.at p2 fun o e => hk _ o e⟩
  have hle : s1.heap.objs.size ≤ g.objs.size := by rw [hsz]; exact Nat.le_add_right _ _
  have hm : (g.objs.size == sysModules) = false := beq_eq_false_iff_ne.mpr (Nat.ne_of_gt (Nat.lt_of_lt_of_le I1.big hle))
  have hn := I1.hok.fresh hle
  have e1 : its1.toArray.size = xs1.length := by rw [rv1.length]; simp
  have e2 : its2.toArray.size = xs2.length := by rw [rv2.length]; simp
  have hmin : min its1.toArray.size its2.toArray.size ≤ sizeLine := by omega
  have keep : ∀ {h' : Heap}, (∀ b o, b ∉ [s1.heap.objs.size + 4, s1.heap.objs.size + 3, s1.heap.objs.size, s1.heap.objs.size + 1] → g.get? b = some o → h'.get? b = some o) → ∀ b o, s1.heap.get? b = some o → h'.get? b = some o := fun k b o e => by
    refine k b o (fun z => ?_) (hk b o e)
    have lb := Heap.lt_size e
    simp only [List.mem_cons, List.not_mem_nil, or_false] at z
    rcases z with z | z | z | z
    all_goals
      rw [z] at lb
      exact absurd lb (Nat.not_lt.mpr (by first | exact Nat.le_refl _ | exact Nat.le_add_right _ _))
  have rp := RP.zip ra rb
  unfold dispW at e3
  cases hdk : dispK (l.zip m) [] [] with
  | some w1 =>
    rw [hdk] at e3
    cases e3
    obtain ⟨new, e5, ks', ws', rfl, e6, e7⟩ := dispK_ok (kvs := []) (ws := []) rp rfl rfl hdk
    obtain ⟨prs, kv, len, hv⟩ := zipK (P := X.prog) (w := X.w) rv1 rv2 e5
    refine PySem.call_dict_pairs (s := { s1 with heap := g }) (knd := mixKind X.prog X.w) (kvs := prs) (MZ.zarg ap) (I1.ok.hd ok.calm) zk ⟨by simpa using len, fun i key v h => hv i key v (by simpa using h)⟩ hmin fun h' tk hd' k' => ?_
    have hlen : (mergeK [] new).length ≤ sizeLine := by
      have h1 := length_mergeK new []
      have h2 := kv.length
      simp at h1 len hmin
      omega
    exact ⟨.ref g.objs.size, _, I1.laid (t' := tk) (keep k') hle (show ObjOk X.prog X.w _ _ _ (.dK (mergeK [] new)) from ⟨hlen, hm, merged [] prs, KV.merge kv .nil, hd'⟩), rfl, q.f μ1 H1 _ _ _ rfl x1 sS ⟨_, rfl, e6, e7⟩ hn⟩
  | none =>
    rw [hdk] at e3
    obtain ⟨new, e5, kn, ks', ws', rfl, e6, e7, e8⟩ := dispT_ok (kvs := []) (ws := []) rp rfl rfl (fun _ h => by simp at h) e3
    obtain ⟨prs, kv, len, hv⟩ := zipT rv1 rv2 e5
    have hu := units1 ok
    have hu2 : X.A.in1.units + 1 < cLine := by
      have := units_ok ok
      show X.A.units + 1 + 1 < cLine
      omega
    refine PySem.call_dict_pairsH (s := { s1 with heap := g }) (knd := tupleKind (mixKind X.prog X.w)) (ps := prs) (MZ.zarg ap) (I1.ok.hd ok.calm) (tupleKind_room_in1 hu2) zk ⟨by simpa using len, fun i key v h => hv i key v (by simpa using h)⟩ ?_ hmin fun h' tk hd' k' => ?_
    · intro h' kp x hx
      obtain ⟨y, hy, y1, y2⟩ := EnT.mem kv x hx
      obtain ⟨o, its, n, i1, i2, i3, i4⟩ := key_sq I1 (kn y hy).sq
      rw [← y1, ← y2]
      have lb := Heap.lt_size i1
      refine ⟨o, its, n, kp _ o (Nat.ne_of_lt (Nat.lt_of_lt_of_le lb hle)) (fun z => ?_) (hk _ o i1), i2, i3, i4⟩
      simp only [List.mem_cons, List.not_mem_nil, or_false] at z
      rcases z with z | z | z | z
      all_goals
        rw [z] at lb
        exact absurd lb (Nat.not_lt.mpr (by first | exact Nat.le_refl _ | exact Nat.le_add_right _ _))
    · have hlen : (foldE [] new).length ≤ sizeLine := by
        have h1 := foldE_len new []
        have h2 := kv.length
        simp at h1 len hmin
        omega
      obtain ⟨o, es, ep, d1, d2, d3, d4, d5, d6⟩ := hd'
      exact ⟨.ref g.objs.size, _, I1.laid (t' := tk) (keep k') hle (dtO_ok ⟨hlen, hm, _, kv.fold .nil, o, es, ep, d1, d2, d3, d4, d6⟩), rfl, q.f μ1 H1 _ _ _ rfl x1 sS ⟨_, rfl, e8, e6, e7⟩ hn⟩
theorem ok_vals (ro : RecOk c fa k r) (ok : Ok c fa X sc k) (f : Str) (p : Pos) (es : List Expr) (pos : Pos) {a : Expr} (hz : specOf f es = some (.vals a)) : PE X (.Call (.Name f p) es [] pos) (tW (bd fa X) (evE c r sc (.Call (.Name f p) es [] pos))) := by
  obtain ⟨_, _, _, _, _, h0⟩ | ⟨_, _, _, _, _, _, h0⟩ | ⟨a', ap, pos2, rfl, rfl, h0, hline, hbase⟩ | ⟨_, _, _, _, _, _, _, _, h0⟩ := specOf_inv hz (fun _ _ _ h => nomatch h) <;> first | (cases h0; done) | skip
  cases h0
  refine ⟨fun pins s σ H Q I ⟨ρ, st, μ, ex, w, st', er, hs, e, q⟩ => ?_⟩
  simp only [evE, hz] at e
  split at e
  case isFalse => cases e
  next hc =>
  obtain ⟨g1, b1⟩ := hc
  obtain ⟨⟨w0, st1⟩, e1, e2⟩ := Option.bind_eq_some_iff.mp e
  refine Call_ (ld_blt I (gl_ok ok g1) (ok.bs _ b1) boot_list (callWith_type1 (T := "list") ?_ rfl rfl))
  show wpAny _ _ (spliced [(false, eval (.Call (.Attribute a "values" ap) [] [] pos2) X.env)]) _ _ s
  have arg := ((ro X sc ok).1 a).run pins s σ H (fun x H1 => ∃ μ1, Ext μ H μ1 H1 ∧ S (bd fa X) μ1 ex H1 st1 ∧ R (bd fa X) μ1 ex H1 w0 x) I ⟨ρ, st, μ, ex, w0, st1, er, hs, e1, fun μ1 H1 x x1 s1 r1 => ⟨μ1, x1, s1, r1⟩⟩
  refine Calls.spliced_cons (wpAny_Call_method (T := "dict") (id := "dict.values") (base_ok hbase) rfl hline F.plainAttrs_dict F.slot_dict_values F.type_dict_values (thn arg ?_))
  rintro u s1 ⟨x, H1, I1, rx, μ1, x1, sS, r1⟩
  dsimp only at e2
  cases w0 <;> first | (cases e2; done) | skip
  next ks ws =>
  cases e2
  obtain ⟨d, kvs, rfl, f1, ek, r2⟩ := r1
  obtain rfl : u = Value.ref d := rx
  obtain ⟨z, lo, vs, kv, dd⟩ := dk_of I1.hok f1.1
  have dd2 := dd
  obtain ⟨o, es, ep, d1, d2, d3, d4, d5, d6⟩ := dd2
  obtain ⟨es, ep, raw, len, hval⟩ := dd.raw
  refine ⟨dd.typeIs, dd.mapOf.noDict, ?_⟩
  have hv : Heap.IsValuesView (s1.heap.push { cls := .type "dict_values", data := .fields #[.ref d] }) s1.heap.objs.size d := ⟨_, Heap.get?_push_size _ rfl, rfl, rfl⟩
  have kp : ∀ b ob, s1.heap.get? b = some ob → (s1.heap.push { cls := .type "dict_values", data := .fields #[.ref d] }).get? b = some ob := fun b ob q => Heap.get?_push_of_some _ q
  have sz : (s1.heap.push { cls := .type "dict_values", data := .fields #[.ref d] }).objs.size = s1.heap.objs.size + 1 := Heap.size_push ..
  have raw2 := raw.at (h' := s1.heap.push { cls := .type "dict_values", data := .fields #[.ref d] }) fun o e => kp _ o e
  have hn : es.size ≤ sizeLine := by rw [len, ← kv.length]; exact z
  have fin : wpAny (model X.prog X.w) X.A (spliced []) (fun vs s₂ => wpAny (model X.prog X.w) X.A (call (.type "list") (.ref s1.heap.objs.size :: vs)) (EP X pins σ Q) X.xe s₂) X.xe { s1 with heap := s1.heap.push { cls := .type "dict_values", data := .fields #[.ref d] } } := by
    refine Calls.spliced_nil ?_
    refine PySem.W.kdl_call (s := { s1 with heap := s1.heap.push { cls := .type "dict_values", data := .fields #[.ref d] } }) (KdlSrc.rawValues (r := s1.heap.objs.size) (d := d) (es := es) (ep := ep)) (I1.ok.hd ok.calm) ⟨hv, raw2⟩ hn fun g tk acc n k hD ha => ?_
    have va : Vals (kvs.map (·.2)) acc.toList := by
      refine vals_of_at ((by rw [List.length_map, kv.length, ← len, ← ha.1]; exact (Array.length_toList).symm)) fun j y u e1 e2 => ?_
      rw [Array.getElem?_toList] at e2
      obtain ⟨hi, e3⟩ := ha.2 j u e2
      rw [List.getElem?_map] at e1
      obtain ⟨kv1, e4, rfl⟩ := Option.map_eq_some_iff.mp e1
      obtain ⟨q1, e5, e6⟩ := paired_at kv e4
      have := (hval j hi q1.1 q1.2 e5).2
      rw [e3, this]
      exact e6.2
    have le : s1.heap.objs.size ≤ (s1.heap.push { cls := .type "dict_values", data := .fields #[.ref d] }).objs.size := by rw [sz]; exact Nat.le_succ _
    refine ⟨.ref _, _, I1.laid (t' := tk) (fun b u e => k b u (kp b u e)) le (show ObjOk X.prog X.w _ _ _ (.lst (kvs.map (·.2))) from ⟨by rw [List.length_map]; exact z, acc.toList, n, va, ?_⟩), rfl, q.f μ1 H1 _ _ _ rfl x1 sS ⟨_, rfl, r2⟩ (I1.hok.fresh le)⟩
    rw [Array.toArray_toList]
    exact hD
  show wpAny _ _ (callWith pos2 (.builtin "dict.values") [.ref d] [] []) _ X.xe s1
  exact method_meetsIn F.slot_dict_values F.entry_dict_values rfl (PySem.evalArgs_none ⟨rfl, dd.typeIs, F.args_dict_values_1 _, _, meets_dict_values (mixKind X.prog X.w) d lo, ⟨vs, dd⟩, fin⟩)
theorem set_fin {pins : List (Addr × Obj)} {σ : L2.St} {H : Hp} {s1 s' : Shared} {Q : VK} {h' : Heap} {tk : Nat} {ks : List Str} {p : Addr} {out : Array Value} {cc : Nat} (I1 : Inv X pins σ H s1) (few : (sortS (uniqS ks)).length < 64)
    (k1 : ∀ b o, s1.heap.get? b = some o → h'.get? b = some o) (k2 : ∀ b o, h'.get? b = some o → s'.heap.get? b = some o) (g1 : s'.gens = s1.gens) (o1 : s'.os = s1.os) (hz : s1.heap.objs.size ≤ p)
    (hp : s'.heap.get? p = some (seqObj "list" out cc)) (hs : PyProof.Rows.StrsAre out.toList (sortS (uniqS ks))) (q : ∀ p, H p = none → Q (.ref p) (upd H p (.lst ((sortS (uniqS ks)).map V.str)))) : EP X pins σ Q (.ref p) s' := by
  have kk : ∀ b o, s1.heap.get? b = some o → s'.heap.get? b = some o := fun b o e => k2 b o (k1 b o e)
  have nH : H p = none := I1.hok.fresh hz
  have len : ((sortS (uniqS ks)).map V.str).length ≤ sizeLine := by rw [List.length_map, sizeLine_eq]; omega
  have J : Inv X pins σ (upd H p (.lst ((sortS (uniqS ks)).map V.str))) { s1 with heap := s'.heap, gens := s'.gens, drawn := s'.drawn, toks := s'.toks } := I1.call (ch := []) (Un.laid kk hz nH) (I1.hok.laid kk hz (show ObjOk X.prog X.w _ _ _ (.lst ((sortS (uniqS ks)).map V.str)) from ⟨len, out.toList, cc, vals_of_strs hs, hp⟩)) (by rw [g1]; exact I1.bare) (fun _ z => nomatch z)
  obtain ⟨hh, gg, dd, tt, oo⟩ := s'
  obtain rfl : oo = s1.os := o1
  exact ⟨.ref p, _, J, rfl, q p nH⟩
theorem ins_len (x : Str) (l : List Str) : (insS x l).length = l.length + 1 := by simpa using (ins_perm x l).length_eq
theorem uniq_len : ∀ l : List Str, (uniqS l).length ≤ l.length
  | [] => Nat.le_refl _
  | y :: ys => by
    have := uniq_len ys
    unfold uniqS
    split <;> simp only [List.length_cons] <;> omega
theorem ok_sset (ro : RecOk c fa k r) (ok : Ok c fa X sc k) (f : Str) (p : Pos) (es : List Expr) (pos : Pos) {a : Expr} (hz : specOf f es = some (.sset a)) : PE X (.Call (.Name f p) es [] pos) (tW (bd fa X) (evE c r sc (.Call (.Name f p) es [] pos))) := by
  obtain ⟨a', p2, pos2, rfl, rfl, h0⟩ | ⟨_, _, _, _, _, _, h0⟩ | ⟨_, _, _, _, _, h0, _⟩ | ⟨_, _, _, _, _, _, _, _, h0⟩ := specOf_inv hz (fun _ _ _ h => nomatch h) <;> first | (cases h0; done) | skip
  cases h0
  refine ⟨fun pins s σ H Q I ⟨ρ, st, μ, ex, w, st', er, hs, e, q⟩ => ?_⟩
  simp only [evE, hz] at e
  split at e
  case isFalse => cases e
  next hc =>
  obtain ⟨g1, b1, g2, b2, hst⟩ := hc
  obtain ⟨⟨w0, st1⟩, e1, e2⟩ := Option.bind_eq_some_iff.mp e
  obtain ⟨ks, e3, e4⟩ := Option.bind_eq_some_iff.mp e2
  dsimp only at e4
  split at e4
  case isFalse => cases e4
  next h64 =>
  cases e4
  have few : (sortS (uniqS ks)).length < 64 := by rw [(sort_perm _).length_eq]; have := uniq_len ks; omega
  refine Call_ (ld_blt I (gl_ok ok g1) (ok.bs _ b1) PyProof.Rows.boot_sorted (PyProof.Rows.callWith_builtin1 ?_ rfl rfl))
  show wpAny _ _ (spliced [(false, eval (.Call (.Name "set" p2) [a] [] pos2) X.env)]) _ _ s
  have ev1 : evList (r.ev sc) [a] ρ st = some ([w0], st') := by simp [evList, hst, e1]
  have arg := (ok_list (ro X sc ok).1 [a]).run pos2 pins s σ H (fun xs H1 => ∃ μ1, Ext μ H μ1 H1 ∧ S (bd fa X) μ1 ex H1 st' ∧ RA (bd fa X) μ1 ex H1 [w0] xs) I ⟨ρ, st, μ, ex, [w0], st', er, hs, ev1, fun μ1 H1 xs x1 s1 r1 => ⟨μ1, x1, s1, r1⟩⟩
  refine Calls.spliced_cons (Call_ (ld_blt I (gl_ok ok g2) (ok.bs _ b2) PyProof.Rows.boot_set (callWith_type1 (T := "set") (thn arg ?_) (star_no hst) rfl)))
  rintro us s1 ⟨xs, H1, I1, rV, μ1, x1, sS, r1⟩
  obtain ⟨v0, rfl, r2⟩ := RA.one_inv r1
  obtain ⟨u0, rfl, ru⟩ := vals1 rV
  have fin := (q.ext x1)
  cases w0 <;> first | (cases e3; done) | skip
  · next l =>
    obtain ⟨la, ys, rfl, f1, ra⟩ := r2
    cases (show u0 = Value.ref la from ru)
    have := strsW_ok e3 ra
    subst this
    obtain ⟨its, rv, pl, hl⟩ := I1.tuple f1.sq
    refine set_of_tuple (P := X.prog) (w := X.w) (I1.ok.hd ok.calm) (show s1.heap.IsTuple la its.toArray from pl) (by simpa using rv.strs) (by unfold scanBound; omega) fun h' tk l' hl' hx' S' k' => Calls.spliced_nil ?_
    exact sorted_of_set (s := { s1 with heap := h', toks := tk }) S' hx' (I1.ok.hd ok.calm) (by omega) fun s' p out cc k2 g o z hp hs => set_fin (s1 := s1) (h' := h') (tk := tk) I1 few k' k2 g o (Nat.le_trans (Nat.le_of_lt (S'.lt k')) z) hp hs (Post.lst sS (strs_RA _) fin)
  · next l =>
    obtain ⟨la, ys, rfl, f1, ra⟩ := r2
    cases (show u0 = Value.ref la from ru)
    have := strsW_ok e3 ra
    subst this
    obtain ⟨its, rv, pl, hl⟩ := I1.list f1.sq
    refine set_of_list (P := X.prog) (w := X.w) (I1.ok.hd ok.calm) pl.isList (by simpa using rv.strs) (by unfold scanBound; omega) fun h' tk l' hl' hx' S' k' => Calls.spliced_nil ?_
    exact sorted_of_set (s := { s1 with heap := h', toks := tk }) S' hx' (I1.ok.hd ok.calm) (by omega) fun s' p out cc k2 g o z hp hs => set_fin (s1 := s1) (h' := h') (tk := tk) I1 few k' k2 g o (Nat.le_trans (Nat.le_of_lt (S'.lt k')) z) hp hs (Post.lst sS (strs_RA _) fin)
theorem z_prs {P : Program} {w : World} {g : Heap} : ∀ {as : List Addr} {new : List (Key × V)}, as.length = new.length → (∀ (j : Nat) (a : Addr) (n : Key × V), as[j]? = some a → new[j]? = some n → ∃ x y, RelV (kV n.1) x ∧ RelV n.2 y ∧ PySem.IsPair g a x y) →
    ∃ prs : List (Key × Value), KV new prs ∧ prs.length = as.length ∧ ∀ (j : Nat) (q : Key × Value), prs[j]? = some q → ∃ (b : Addr) (u : Value), (as.map Value.ref)[j]? = some (.ref b) ∧ PyProof.Rows.IsTup g b #[u, q.2] ∧ keyIs q.1 u = true
  | [], [], _, _ => ⟨[], .nil, rfl, fun j q e => by simp at e⟩
  | [], _ :: _, h, _ => by simp at h
  | _ :: _, [], h, _ => by simp at h
  | a :: as, n :: new, h, k => by
    obtain ⟨prs, h1, h2, h3⟩ := z_prs (P := P) (w := w) (g := g) (as := as) (new := new) (by simpa using h) fun j b m e1 e2 => k (j + 1) b m (by simpa using e1) (by simpa using e2)
    obtain ⟨x, y, r1, r2, hp⟩ := k 0 a n rfl rfl
    refine ⟨(n.1, y) :: prs, .cons ⟨rfl, r2⟩ h1, by simp [h2], fun j q e => ?_⟩
    cases j with
    | zero =>
      cases e
      exact ⟨a, x, rfl, ⟨_, hp, rfl, _, rfl⟩, by have := kV_is (P := P) (w := w) r1; exact this⟩
    | succ j => exact h3 j q (by simpa using e)
theorem ok_zipl (ro : RecOk c fa k r) (ok : Ok c fa X sc k) (f : Str) (p : Pos) (es : List Expr) (pos : Pos) {a b : Expr} (hz : specOf f es = some (.zipl a b)) : PE X (.Call (.Name f p) es [] pos) (tW (bd fa X) (evE c r sc (.Call (.Name f p) es [] pos))) := by
  obtain ⟨_, _, _, _, _, h0⟩ | ⟨_, _, _, _, _, _, h0⟩ | ⟨_, _, _, _, _, h0, _⟩ | ⟨a', b', p1, p2, pos1, pos2, rfl, rfl, h0⟩ := specOf_inv hz (fun _ _ _ h => nomatch h) <;> first | (cases h0; done) | skip
  cases h0
  refine ⟨fun pins s σ H Q I ⟨ρ, st, μ, ex, w, st', er, hs, e, q⟩ => ?_⟩
  simp only [evE, hz] at e
  split at e
  case isFalse => cases e
  next hc =>
  obtain ⟨g1, b1, g2, b2, g3, b3⟩ := hc
  obtain ⟨⟨ws, st1⟩, e1, e2⟩ := Option.bind_eq_some_iff.mp e
  have hst : noStars [a, b] = true := stars_of e1
  simp only [noStars, Bool.and_eq_true, Bool.not_eq_true'] at hst
  refine Call_ (ld_blt I (gl_ok ok g1) (ok.bs _ b1) boot_dict (callWith_type1 (T := "dict") ?_ rfl rfl))
  show wpAny _ _ (spliced [(false, eval (.Call (.Name "list" p1) [.Call (.Name "zip" p2) [a, b] [] pos2] [] pos1) X.env)]) _ _ s
  refine Calls.spliced_cons (Call_ (ld_blt I (gl_ok ok g2) (ok.bs _ b2) boot_list (callWith_type1 (T := "list") ?_ rfl rfl)))
  show wpAny _ _ (spliced [(false, eval (.Call (.Name "zip" p2) [a, b] [] pos2) X.env)]) _ _ s
  have arg := (ok_list (ro X sc ok).1 [a, b]).run pos2 pins s σ H (fun xs H1 => ∃ μ1, Ext μ H μ1 H1 ∧ S (bd fa X) μ1 ex H1 st1 ∧ RA (bd fa X) μ1 ex H1 ws xs) I ⟨ρ, st, μ, ex, ws, st1, er, hs, e1, fun μ1 H1 xs x1 s1 r1 => ⟨μ1, x1, s1, r1⟩⟩
  refine Calls.spliced_cons (Call_ (ld_blt I (gl_ok ok g3) (ok.bs _ b3) PyProof.Rows.boot_zip (callWith_type1 (T := "zip") (thn arg ?_) (star_no hst.1) (plain_of (by simp [noStars, hst.2])))))
  rintro us s1 ⟨xs, H1, I1, rV, μ1, x1, sS, r1⟩
  dsimp only at e2
  split at e2
  case h_2 => cases e2
  next l t =>
  split at e2
  case isFalse => cases e2
  next hlen =>
  obtain ⟨w', e3, e4⟩ := Option.map_eq_some_iff.mp e2
  cases e4
  obtain ⟨v1, v2, rfl, q1, q2⟩ := RA.two_inv r1
  obtain ⟨a1, xs1, rfl, f1, ra⟩ := q1
  cases q2
  obtain ⟨u1, u2, rfl, z1, z2⟩ := vals2 rV
  cases (show u1 = Value.ref a1 from z1)
  obtain ⟨tok, rfl⟩ := (show ∃ tk, u2 = Value.str t tk from z2)
  obtain ⟨its1, rv1, pl, hl⟩ := I1.list f1.sq
  have il : s1.heap.IsList a1 its1.toArray := pl.isList
  have la : a1 < s1.heap.objs.size := by obtain ⟨o, ho, _⟩ := il; exact Heap.lt_size ho
  have e5 : its1.toArray.size = t.cps.size := by rw [← hlen, ra.length, rv1.length]; simp
  have hnn : t.cps.size ≤ sizeLine := by rw [← hlen, ra.length]; exact hl
  refine zip_begins2 (begins_list a1 its1.toArray) (begins_text t tok) il trivial fun g hz hC hD h1 h2 hsz hk => Calls.spliced_nil ?_
  have il' : g.IsList a1 its1.toArray := il.at fun o e => hk _ o e
  have ap := MZ.ap5 s1.heap.objs.size a1 la
  have hh : X.A.handled = none := I1.ok.hd ok.calm
  refine MZ.z_list (s := { s1 with heap := g }) (n := t.cps.size) ap (fun A' h => e5 ▸ Draws.list h s1.heap.objs.size a1 (Nat.ne_of_lt la) its1.toArray) (fun A' h => Draws.text h (s1.heap.objs.size + 1) t tok) hh hnn (Nat.lt_add_of_pos_right (by decide)) (Nat.add_lt_add_left (by decide) _) (Nat.add_lt_add_left (by decide) _) (Nat.add_lt_add_left (by decide) _) (MZ.fp5 _ _ la) (MZ.fq5 _) hz hC hD ⟨⟨_, h1, rfl, rfl⟩, il'⟩ ⟨_, h2, rfl, rfl⟩ fun g2 tk acc cc as k2 hL hal hG hacc => Calls.spliced_nil ?_
  dsimp only at k2 hL hG ⊢
  have hle : s1.heap.objs.size ≤ g2.objs.size := by
    have h3 : g.objs.size < g2.objs.size := Heap.lt_size hL
    exact Nat.le_trans (by rw [hsz]; exact Nat.le_add_right _ _) (Nat.le_of_lt h3)
  have keep : ∀ b o, s1.heap.get? b = some o → g2.get? b = some o := fun b o e => by
    have lb := Heap.lt_size e
    exact k2 b o (Nat.ne_of_lt (Nat.lt_add_right 4 lb)) (Nat.ne_of_lt (Nat.lt_add_right 3 lb)) (Nat.ne_of_lt lb) (Nat.ne_of_lt (Nat.lt_add_right 1 lb)) (hk b o e)
  have hm : (g2.objs.size == sysModules) = false := beq_eq_false_iff_ne.mpr (Nat.ne_of_gt (Nat.lt_of_lt_of_le I1.big hle))
  have hn := I1.hok.fresh hle
  have rp := RP.zip ra (signs_RA (B := bd fa X) (μ := μ1) (ex := ex) (H := H1) t)
  obtain ⟨new, e6, ks', ws', rfl, e7, e8⟩ := dispK_ok (kvs := []) (ws := []) rp rfl rfl e3
  have nl : new.length = t.cps.size := by
    have h3 := congrArg List.length e6
    rw [List.length_zip, List.length_map, List.length_map, ← ra.length, hlen] at h3
    simpa using h3.symm
  obtain ⟨prs, kv, plen, hv⟩ := z_prs (P := X.prog) (w := X.w) (g := g2) (as := as) (new := new) (hal.trans nl.symm) fun j a2 n2 e9 e10 => by
    obtain ⟨x, y, hx, ⟨ch, tu, hc1, rfl⟩, hp⟩ := hG.at_ j a2 e9
    have e11 : (xs1.zip (t.cps.toList.map fun ch => V.str ⟨#[ch]⟩))[j]? = some (kV n2.1, n2.2) := by rw [e6, List.getElem?_map, e10]; rfl
    obtain ⟨e12, e13⟩ := List.getElem?_zip_eq_some.mp e11
    obtain ⟨x', e14, r14⟩ := paired_at rv1 e12
    rw [List.getElem?_toArray] at hx
    obtain rfl : x' = x := by rw [e14] at hx; exact Option.some.inj hx
    rw [List.getElem?_map, Array.getElem?_toList, hc1] at e13
    refine ⟨x', _, r14, ?_, hp⟩
    rw [← Option.some.inj e13]
    exact ⟨tu, rfl⟩
  refine L2.call_dict_pairs (s := { s1 with heap := g2, toks := tk }) (prs := prs) hh hL rfl rfl rfl (by rw [← Array.length_toList, hacc, List.length_map, plen]) (by rw [plen, hal]; exact hnn) (fun j q' e => ?_) fun h' tk2 hd' k' => ?_
  · obtain ⟨b2, u2, h3, h4, h5⟩ := hv j q' e
    exact ⟨b2, u2, by rw [← Array.getElem?_toList, hacc]; exact h3, h4, h5⟩
  · have hlen2 : (mergeK [] new).length ≤ sizeLine := by
      refine Nat.le_trans (length_mergeK new []) ?_
      rw [List.length_nil, Nat.zero_add, nl]
      exact hnn
    exact ⟨.ref g2.objs.size, _, I1.laid (t' := tk2) (fun b o e => k' b o (keep b o e)) hle (show ObjOk X.prog X.w _ _ _ (.dK (mergeK [] new)) from ⟨hlen2, hm, merged [] prs, KV.merge kv .nil, hd'⟩), rfl, q.f μ1 H1 _ _ _ rfl x1 sS ⟨_, rfl, e7, e8⟩ hn⟩
theorem specOf_lam {f : Str} {es : List Expr} {ps : Arguments} {body : Expr} {scope : Scope} (h : specOf f es = some (.lam ps body scope)) : ∃ lp, es = [.Lambda ps body scope lp] ∧ lamP ps = true := by
  match es, h with
  | [e], h =>
    cases e with
    | Lambda ps' body' scope' lp =>
      change (if lamP ps' = true then some (Spec.lam ps' body' scope') else none) = _ at h
      split at h
      · next hp => cases h; exact ⟨_, rfl, hp⟩
      · cases h
    | Call fn args kws pos =>
      exfalso
      have key : ∀ sp, specOf f [.Call fn args kws pos] = some sp → ∀ ps b s, sp ≠ .lam ps b s := by
        intro sp hh ps b s e
        subst e
        cases fn <;> first | (cases hh; done) | skip
        · next e2 m ap =>
          match args, kws, hh with
          | [], [], hh =>
            change (if f = "list" ∧ m = "values" ∧ (ap.endLine == pos.line) = true ∧ baseOk e2 = true then some (Spec.vals e2) else none) = _ at hh
            split at hh <;> cases hh
        · next g p =>
          match args, kws, hh with
          | [a'], [], hh =>
            change (if f = "sorted" ∧ g = "set" then some (Spec.sset a') else if f = "dict" ∧ g = "list" then zipIn a' else none) = _ at hh
            split at hh
            · cases hh
            split at hh
            · cases a' <;> first | (cases hh; done) | skip
              next fn2 args2 kws2 pos2 =>
              cases fn2 <;> first | (cases hh; done) | skip
              next g2 p2 =>
              match args2, kws2, hh with
              | [a2, b2], [], hh =>
                change (if g2 = "zip" then some (Spec.zipl a2 b2) else none) = _ at hh
                split at hh <;> cases hh
            · cases hh
          | [a', b'], [], hh =>
            change (if f = "dict" ∧ g = "zip" then some (Spec.zip a' b') else none) = _ at hh
            split at hh <;> cases hh
      exact key _ h _ _ _ rfl
    | _ => cases h
theorem ok_Call (ro : RecOk c fa k r) (rl : RecL c fa k r) (ok : Ok c fa X sc k) (f : Str) (p : Pos) (es : List Expr) (pos : Pos) : PE X (.Call (.Name f p) es [] pos) (tW (bd fa X) (evE c r sc (.Call (.Name f p) es [] pos))) := by
  cases h : specOf f es with
  | none => exact ok_Call0 ro ok f p es pos h
  | some sp =>
    cases sp with
    | zip a b => exact ok_zip ro ok f p es pos h
    | vals a => exact ok_vals ro ok f p es pos h
    | sset a => exact ok_sset ro ok f p es pos h
    | zipl a b => exact ok_zipl ro ok f p es pos h
    | lam ps body scope =>
      obtain ⟨lp, rfl, hp⟩ := specOf_lam h
      exact ok_lam rl ok f p lp pos ps body scope hp
end
end MP
namespace MP
open PySem L2 PySem.Spec PyProof.Rows

/-! methods of texts, lists, tuples -/
section
variable {X : Cx}
theorem count_strs (x : Str) : ∀ {ys : List Str} {us : List Value}, Vals (ys.map V.str) us → us.countP (eqU (.str x)) = ys.count x
  | [], _, .nil => rfl
  | y :: ys, u :: us, .cons r t => by
    rw [List.countP_cons, List.count_cons, count_strs x t, eqU_of r rfl]
    rfl
theorem flats (ys : List Str) : (ys.map V.str).all flatV = true := by
  rw [List.all_map]
  exact List.all_eq_true.mpr fun _ _ => rfl
theorem mt_lcountS : MtR X "list.count" (fun x xs H Q => ∃ (p : Addr) (ys : List Str) (z : Str), x = .ref p ∧ xs = [.str z] ∧ SqL X.K H p (ys.map V.str) ∧ Q (.int (ys.count z : Nat)) H) := by
  rintro pins s σ H x xs v us Q I rx rs ⟨p, ys, z, rfl, rfl, hq, q⟩
  cases rx
  obtain ⟨u, rfl, t, rfl⟩ := vals1 rs
  obtain ⟨its, rv, ⟨⟨c1, d1, e1, f1⟩, n, ho, hc, _, hd⟩, _⟩ := I.list hq
  simp only at hc hd
  subst hc hd
  refine call_meets PySem.F.slot_list_count ⟨_, ho, rfl⟩ PySem.F.entry_list_count (PySem.F.args_list_count_2 _ _) (SeqAt.list_countAt p its.toArray n d1 f1 (.str z t) (eqU (.str z)))
    ⟨ho, fun y hy => mem_eqAt (x := .str z) ⟨t, rfl⟩ rfl rv (flats ys) y (by simpa using hy), ⟨.int (ys.count z : Nat), H, I.tok _, ⟨s.toks, ?_⟩, q⟩⟩
  rw [← count_strs z rv]
/-! get -/
theorem getK_no {κ : Type} [DecidableEq κ] {μ ex : List Addr} {H : Hp} {B : Bd} : ∀ {kvs : List (κ × V)} {vs : List W} {x : κ}, RA B μ ex H vs (kvs.map (·.2)) → getK (kvs.map (·.1)) vs x = none → valV kvs x = none
  | [], _, _, _, _ => rfl
  | p :: r, [], _, h, _ => by cases (show _ = [] from h)
  | p :: r, v :: vs, x, h, e => by
    obtain ⟨y, ys, e1, r1, r2⟩ := h
    rw [List.map_cons] at e1
    cases e1
    rw [List.map_cons] at e
    unfold getK at e
    by_cases hx : p.1 = x
    · rw [if_pos hx] at e; cases e
    · rw [if_neg hx] at e
      rw [valV_neg hx]
      exact getK_no r2 e
theorem getK_D {κ : Type} [DecidableEq κ] {μ ex : List Addr} {H : Hp} {B : Bd} {kvs : List (κ × V)} {vs : List W} {x : κ} {d : W} {z : V} (h : RA B μ ex H vs (kvs.map (·.2))) (rd : R B μ ex H d z) : R B μ ex H ((getK (kvs.map (·.1)) vs x).getD d) ((valV kvs x).getD z) := by
  cases e : getK (kvs.map (·.1)) vs x with
  | none => rw [getK_no h e]; exact rd
  | some w =>
    obtain ⟨y, h1, h2⟩ := getK_ok h e
    rw [h1]
    exact h2
theorem DL.got {P : Program} {w : World} (z : Str) : ∀ {ks : List Str} {xs : List V} {es : List DictEntry}, DL w.params ks xs es → ∃ vs : List (Key × Value), vs.map (·.1) = ks.map Sum.inr ∧ Pairs (mixKind P w) es vs ∧ (∀ e ∈ es, ∃ k, (mixKind P w).is k e.key = true ∧ e.hash = (mixKind P w).hash k) ∧
    ((∃ u y, valueAt vs (.inr z) = some u ∧ RelV y u ∧ ∀ {B : Bd} {μ ex : List Addr} {H : Hp} (ws : List W), RA B μ ex H ws xs → ∃ w', getK ks ws z = some w' ∧ R B μ ex H w' y) ∨ (valueAt vs (.inr z) = none ∧ ∀ ws : List W, getK ks ws z = none))
  | [], _, _, ⟨_, e⟩ => ⟨[], rfl, by rw [e]; exact .nil, by rw [e]; exact fun _ h => by simp at h, .inr ⟨rfl, fun ws => by cases ws <;> rfl⟩⟩
  | k :: ks, _, _, ⟨x, xr, e, er, e1, e2, ⟨t, h1⟩, h2, h3, h4⟩ => by
    obtain ⟨vs, g1, g2, g3, g4⟩ := DL.got (P := P) z h4
    subst e1 e2
    have is : (mixKind P w).is (.inr k) e.key = true := by rw [h1]; exact mixKind_str P w k t
    refine ⟨(.inr k, e.val) :: vs, by rw [List.map_cons, g1]; rfl, .cons is rfl g2, fun e' he => ?_, ?_⟩
    · rcases List.mem_cons.mp he with rfl | he
      · exact ⟨.inr k, is, h2⟩
      · exact g3 e' he
    by_cases hz : k = z
    · subst hz
      refine .inl ⟨e.val, x, ?_, h3, fun ws hr => ?_⟩
      · show (((Sum.inr k, e.val) :: vs).find? fun kv => decide (kv.1 = (Sum.inr k : Key))).map (·.2) = _
        rw [List.find?_cons, decide_eq_true rfl]
        rfl
      · cases ws with
        | nil => cases (show _ = [] from hr)
        | cons u us =>
          obtain ⟨y, ys, e3, r1, r2⟩ := hr
          cases e3
          exact ⟨u, by unfold getK; rw [if_pos rfl], r1⟩
    · have hv : valueAt ((Sum.inr k, e.val) :: vs) (.inr z) = valueAt vs (.inr z : Key) := by
        show (((Sum.inr k, e.val) :: vs).find? fun kv => decide (kv.1 = (Sum.inr z : Key))).map (·.2) = _
        rw [List.find?_cons, decide_eq_false (by intro c; exact hz (Sum.inr.inj c))]
        rfl
      rcases g4 with ⟨u, y, q1, q2, q3⟩ | ⟨q1, q2⟩
      · refine .inl ⟨u, y, hv.trans q1, q2, fun ws hr => ?_⟩
        cases ws with
        | nil => cases (show _ = [] from hr)
        | cons u us =>
          obtain ⟨y', ys, e3, r1, r2⟩ := hr
          cases e3
          obtain ⟨w', a1, a2⟩ := q3 us r2
          exact ⟨w', by unfold getK; rw [if_neg hz]; exact a1, a2⟩
      · refine .inr ⟨hv.trans q1, fun ws => ?_⟩
        cases ws with
        | nil => rfl
        | cons u us => unfold getK; rw [if_neg hz]; exact q2 us
theorem kd_gets {pins : List (Addr × Obj)} {σ : L2.St} {H : Hp} {s : Shared} (I : Inv X pins σ H s) {a : Addr} {ks : List Str} {xs : List V} (f : WrD X.K X.w.params a ks xs) (z : Str) :
    (a == sysModules) = false ∧ ∃ vs : List (Key × Value), s.heap.DictOf (mixKind X.prog X.w) a vs ∧
      ((∃ u y, valueAt vs (.inr z) = some u ∧ RelV y u ∧ ∀ {B : Bd} {μ ex : List Addr} {H : Hp} (ws : List W), RA B μ ex H ws xs → ∃ w', getK ks ws z = some w' ∧ R B μ ex H w' y) ∨ (valueAt vs (.inr z) = none ∧ ∀ ws : List W, getK ks ws z = none)) := by
  obtain ⟨es, n, h1, h2, h3, h4, h5⟩ := f
  obtain ⟨vs, g1, g2, g3, g4⟩ := h2.got (P := X.prog) z
  exact ⟨h4, vs, ⟨_, es, n, I.kIn _ _ h1, ⟨rfl, rfl, rfl⟩, rfl, fun e he => g3 e (Array.mem_toList_iff.mpr he), g2, by rw [g1]; exact inr_nodup h3⟩, g4⟩
/-- what stands there -/
def dOk (X : Cx) (x : V) (H : Hp) : Prop := ∃ a, x = .ref a ∧ (IsD H a ∨ ∃ ks xs, WrD X.K X.w.params a ks xs)
theorem dOk_at {pins : List (Addr × Obj)} {σ : L2.St} {H : Hp} {s : Shared} {x : V} {v : Value} (I : Inv X pins σ H s) (r : RelV x v) (d : dOk X x H) : s.TypeIs v "dict" ∧ ∀ a, v = .ref a → ∃ ob, s.heap.get? a = some ob ∧ ob.dict = none := by
  obtain ⟨a, rfl, h⟩ := d
  cases r
  rcases h with h | ⟨ks, xs, f⟩
  · exact ⟨(isD_at I h).1, (isD_at I h).2.1⟩
  · obtain ⟨lo, vs, _, dd⟩ := f.dict I
    refine ⟨dd.typeIs, fun b e => ?_⟩
    cases e
    obtain ⟨ob, _, _, h1, h2, _⟩ := dd
    exact ⟨ob, h1, h2.2.1⟩
theorem pe_bmD {T id : String} {nm : Str} {ap cp : Pos} {o e : Expr} {es : List Expr} {rr : V → List V → Hp → VK → Prop} {ty : V → Hp → Prop} {to : TE} {t : TA} (pa : PlainAttrs T) (slot : Slot T nm id) (hty : typeOf (.builtin id) = pure (.type "method_descriptor")) (hm : MtR X id rr) (ho : PE X o to) (ha : PA X (e :: es) t)
    (hT : ∀ {pins : List (Addr × Obj)} {σ : L2.St} {H : Hp} {s : Shared} {x : V} {v : Value}, Inv X pins σ H s → RelV x v → ty x H → s.TypeIs v T ∧ ∀ a, v = .ref a → ∃ ob, s.heap.get? a = some ob ∧ ob.dict = none)
    (hb : attributeBase o nm X.env (eval o X.env) = eval o X.env)
    (hf : ((backTo cp (starEach (e :: es) X.env)).all (fun x => !x.1) && (backToKw cp (keywordEach [] X.env)).all (fun x => x.1.isSome)
      && decide ((e :: es).length + ([] : List Keyword).length + (if ([] : List Keyword).isEmpty then 0 else 1) < 30)) = true)
    (hl : (ap.endLine == cp.line) = true) (hs : starEach (e :: es) X.env = (false, eval e X.env) :: starEach es X.env) (hp : (backTo cp (starEach es X.env)).any (·.1) = false) :
    PE X (.Call (.Attribute o nm ap) (e :: es) [] cp) (fun σ H Q => to σ H fun x H1 => ty x H1 ∧ t σ H1 fun xs H2 => rr x xs H2 Q) := by
  refine ⟨fun pins s σ H Q I h => wpAny_Call_method_late hb hf hl rfl (thn (ho.run pins s σ H _ I h) fun v s1 ⟨x, H1, I1, r1, tx, q1⟩ => ?_)⟩
  obtain ⟨h1, h2⟩ := hT I1 r1 tx
  have hA := ha.run cp pins s1 σ H1 _ I1 q1
  rw [hs] at hA
  refine ⟨T, id, pa, slot, hty, h1, h2, ?_⟩
  rw [hs]
  refine Calls.callWith_builtin (by show (false || (backTo cp (starEach es X.env)).any (·.1)) = false; rw [hp] <;> rfl) (Calls.evalArgs_plain ?_)
  exact thn hA fun us s2 ⟨vs, H2, I2, r2, q2⟩ => hm pins s2 σ H2 x vs v us Q I2 r1 r2 q2
/-- d.get of what stands in H -/
def rGet (X : Cx) (x : V) (xs : List V) (H : Hp) (Q : VK) : Prop := ∃ (a : Addr), x = .ref a ∧ (
    (∃ y o, DGet H a y o ∧ ((xs = [y] ∧ Q (o.getD .non) H) ∨ ∃ d, xs = [y, d] ∧ Q (o.getD d) H)) ∨
    ∃ ks zs z, WrD X.K X.w.params a ks zs ∧ ((xs = [.str z] ∧ ∀ y, ((∀ {B : Bd} {μ ex : List Addr} {H : Hp} (ws : List W), RA B μ ex H ws zs → ∃ w', getK ks ws z = some w' ∧ R B μ ex H w' y) ∨ (y = .non ∧ ∀ ws : List W, getK ks ws z = none)) → Q y H) ∨
      ∃ d, xs = [.str z, d] ∧ ∀ y, ((∀ {B : Bd} {μ ex : List Addr} {H : Hp} (ws : List W), RA B μ ex H ws zs → ∃ w', getK ks ws z = some w' ∧ R B μ ex H w' y) ∨ (y = d ∧ ∀ ws : List W, getK ks ws z = none)) → Q y H))
theorem mt_get (hu : X.A.units + 1 < cLine) : MtR X "dict.get" (rGet X) := by
  rintro pins s σ H x xs v us Q I rx rs ⟨a, rfl, ⟨y, o, g, ⟨rfl, q⟩ | ⟨d, rfl, q⟩⟩ | ⟨ks, zs, z, f, ⟨rfl, q⟩ | ⟨d, rfl, q⟩⟩⟩
  · cases rx
    obtain ⟨u, rfl, r1⟩ := vals1 rs
    exact d_get1 hu I g r1 fun w' s' I' r' => ⟨_, H, I', r', q⟩
  · cases rx
    obtain ⟨u, u2, rfl, r1, r2⟩ := vals2 rs
    exact d_get2 hu I g r1 r2 fun w' s' I' r' => ⟨_, H, I', r', q⟩
  · cases rx
    obtain ⟨u, rfl, t, rfl⟩ := vals1 rs
    obtain ⟨lo, vs, dd, hv⟩ := kd_gets I f z
    refine call_meetsIn PySem.F.slot_dict_get dd.typeIs PySem.F.entry_dict_get (PySem.F.args_dict_get_2 _ _) (meets_dict_get (mixKind X.prog X.w) a (k := .inr z) (mixKind_str X.prog X.w z t) lo) ⟨_, dd.mapOf, ?_⟩
    rcases hv with ⟨u, y, h1, h2, h3⟩ | ⟨h1, h3⟩
    · rw [h1]; exact ⟨y, H, I.tok _, h2, q y (.inl h3)⟩
    · rw [h1]; exact ⟨.non, H, I.tok _, rfl, q .non (.inr ⟨rfl, h3⟩)⟩
  · cases rx
    obtain ⟨u, u2, rfl, r1, r2⟩ := vals2 rs
    obtain ⟨t, rfl⟩ := r1
    obtain ⟨lo, vs, dd, hv⟩ := kd_gets I f z
    refine call_meetsIn PySem.F.slot_dict_get dd.typeIs PySem.F.entry_dict_get (PySem.F.args_dict_get_3 _ _ _) (meets_dict_get_default (mixKind X.prog X.w) a (k := .inr z) (mixKind_str X.prog X.w z t) lo u2) ⟨_, dd.mapOf, ?_⟩
    rcases hv with ⟨u, y, h1, h2, h3⟩ | ⟨h1, h3⟩
    · rw [h1]; exact ⟨y, H, I.tok _, h2, q y (.inl h3)⟩
    · rw [h1]; exact ⟨d, H, I.tok _, r2, q d (.inr ⟨rfl, h3⟩)⟩
end
section
variable {c : Cfg} {fa : Str → Option Addr} {X : Cx} {sc : Scope} {k : Nat} {r : Rec}
theorem few_of {env : PySem.Env} {cpos : Pos} {es : List Expr} (h : noStars es = true) (hl : es.length < 20) : ((backTo cpos (starEach es env)).all (fun x => !x.1) && (backToKw cpos (keywordEach [] env)).all (fun x => x.1.isSome)
      && decide (es.length + ([] : List Keyword).length + (if ([] : List Keyword).isEmpty then 0 else 1) < 30)) = true := by
  have h1 := plain_of (env := env) (pos := cpos) h
  have h2 : (backTo cpos (starEach es env)).all (fun x => !x.1) = true := by
    rw [List.all_eq_true]
    intro x hx
    rw [List.any_eq_false] at h1
    simpa using h1 x hx
  rw [h2]
  have h3 : decide (es.length + ([] : List Keyword).length + (if ([] : List Keyword).isEmpty then 0 else 1) < 30) = true := decide_eq_true (by show es.length + 0 + 0 < 30; omega)
  rw [h3]
  rfl
/-- the call of a method, by its type and its rule -/
theorem meth_run {T : String} {id : String} {m : Str} {ap cp : Pos} {e0 a : Expr} {es : List Expr} {rr : V → List V → Hp → VK → Prop} (ro : RecOk c fa k r) (ok : Ok c fa X sc k) (pa : PlainAttrs T) (slot : Slot T m id) (hty : typeOf (.builtin id) = pure (.type "method_descriptor")) (hm : MtR X id rr)
    {pins : List (Addr × Obj)} {s : Shared} {σ : L2.St} {H : Hp} {Q : VK} {ρ : Rho} {st st1 st2 : Sto} {μ ex : List Addr} {w v : W} {ws : List W} (I : Inv X pins σ H s) (er : EnvR (bd fa X) μ ex H ρ σ) (hs : S (bd fa X) μ ex H st)
    (hb : baseOk e0 = true) (hline : (ap.endLine == cp.line) = true) (hl : (a :: es).length < 20) (e1 : r.ev sc e0 ρ st = some (w, st1)) (e2 : evList (r.ev sc) (a :: es) ρ st1 = some (ws, st2)) (q : Post (bd fa X) μ ex H v st2 Q)
    (ty : ∀ μ' H' x, S (bd fa X) μ' ex H' st1 → R (bd fa X) μ' ex H' w x → tyV X.K T x H')
    (rd : ∀ μ' H' x xs, S (bd fa X) μ' ex H' st2 → R (bd fa X) μ' ex H' w x → RA (bd fa X) μ' ex H' ws xs → Post (bd fa X) μ' ex H' v st2 Q → rr x xs H' Q) :
    wpAny (model X.prog X.w) X.A (eval (.Call (.Attribute e0 m ap) (a :: es) [] cp) X.env) (EP X pins σ Q) X.xe s := by
  have hst := stars_of e2
  have hst' := hst
  simp only [noStars, Bool.and_eq_true, Bool.not_eq_true'] at hst'
  refine (pe_bm (cpos := cp) pa slot hty hm ((ro X sc ok).1 e0) (ok_list (ro X sc ok).1 (a :: es)) (base_ok hb) (few_of hst hl) hline (star_no hst'.1) (plain_of hst'.2)).run pins s σ H Q I ?_
  refine ⟨ρ, st, μ, ex, w, st1, er, hs, e1, fun μ1 H1 x x1 s1 r1 => ⟨ty μ1 H1 x s1 r1, ?_⟩⟩
  exact ⟨ρ, st1, μ1, ex, ws, st2, er.ext x1, s1, e2, fun μ2 H2 xs x2 s2 r2 => rd μ2 H2 x xs s2 (r1.ext x2) r2 (q.ext (x1.trans x2))⟩
theorem get_run {ap cp : Pos} {e0 a : Expr} {es : List Expr} (ro : RecOk c fa k r) (ok : Ok c fa X sc k)
    {pins : List (Addr × Obj)} {s : Shared} {σ : L2.St} {H : Hp} {Q : VK} {ρ : Rho} {st st1 st2 : Sto} {μ ex : List Addr} {w v : W} {ws : List W} (I : Inv X pins σ H s) (er : EnvR (bd fa X) μ ex H ρ σ) (hs : S (bd fa X) μ ex H st)
    (hb : baseOk e0 = true) (hline : (ap.endLine == cp.line) = true) (hl : (a :: es).length < 20) (e1 : r.ev sc e0 ρ st = some (w, st1)) (e2 : evList (r.ev sc) (a :: es) ρ st1 = some (ws, st2)) (q : Post (bd fa X) μ ex H v st2 Q)
    (ty : ∀ μ' H' x, S (bd fa X) μ' ex H' st1 → R (bd fa X) μ' ex H' w x → dOk X x H')
    (rd : ∀ μ' H' x xs, S (bd fa X) μ' ex H' st2 → R (bd fa X) μ' ex H' w x → RA (bd fa X) μ' ex H' ws xs → Post (bd fa X) μ' ex H' v st2 Q → rGet X x xs H' Q) :
    wpAny (model X.prog X.w) X.A (eval (.Call (.Attribute e0 "get" ap) (a :: es) [] cp) X.env) (EP X pins σ Q) X.xe s := by
  have hst := stars_of e2
  have hst' := hst
  simp only [noStars, Bool.and_eq_true, Bool.not_eq_true'] at hst'
  refine (pe_bmD (cp := cp) PySem.F.plainAttrs_dict PySem.F.slot_dict_get PySem.F.type_dict_get (mt_get (by have := ok.room.un; omega)) ((ro X sc ok).1 e0) (ok_list (ro X sc ok).1 (a :: es)) (ty := dOk X) dOk_at (base_ok hb) (few_of hst hl) hline (star_no hst'.1) (plain_of hst'.2)).run pins s σ H Q I ?_
  refine ⟨ρ, st, μ, ex, w, st1, er, hs, e1, fun μ1 H1 x x1 s1 r1 => ⟨ty μ1 H1 x s1 r1, ?_⟩⟩
  exact ⟨ρ, st1, μ1, ex, ws, st2, er.ext x1, s1, e2, fun μ2 H2 xs x2 s2 r2 => rd μ2 H2 x xs s2 (r1.ext x2) r2 (q.ext (x1.trans x2))⟩
/-! a new tuple's count -/
def tyF (x : V) (H : Hp) : Prop := ∃ a o xs, x = .ref a ∧ H a = some (.frz o (.tup xs)) ∧ o.dict = none
theorem tyF_at {pins : List (Addr × Obj)} {σ : L2.St} {H : Hp} {s : Shared} {x : V} {v : Value} (I : Inv X pins σ H s) (r : RelV x v) (d : tyF x H) : s.TypeIs v "tuple" ∧ ∀ a, v = .ref a → ∃ ob, s.heap.get? a = some ob ∧ ob.dict = none := by
  obtain ⟨a, o, xs, rfl, h, hd⟩ := d
  cases r
  obtain ⟨ho, hz, its, rv, o', ho', hc, n, hdd⟩ := (show ObjOk X.prog X.w H s.heap a (.frz o (.tup xs)) from I.hok a _ h)
  rw [ho] at ho'
  cases ho'
  exact ⟨⟨o, ho, hc⟩, fun b e => by cases e; exact ⟨o, ho, hd⟩⟩
def rTC (x : V) (xs : List V) (H : Hp) (Q : VK) : Prop := ∃ (a : Addr) (o : Obj) (ys : List Str) (z : Str), x = .ref a ∧ xs = [.str z] ∧ H a = some (.frz o (.tup (ys.map V.str))) ∧ Q (.int (ys.count z : Nat)) H
theorem mt_tcount : MtR X "tuple.count" rTC := by
  rintro pins s σ H x xs v us Q I rx rs ⟨a, o, ys, z, rfl, rfl, hq, q⟩
  cases rx
  obtain ⟨u, rfl, t, rfl⟩ := vals1 rs
  obtain ⟨ho, hz, its, rv, o', ho', hc, n, hdd⟩ := (show ObjOk X.prog X.w H s.heap a (.frz o (.tup (ys.map V.str))) from I.hok a _ hq)
  rw [ho] at ho'
  cases ho'
  obtain ⟨c1, d1, e1, f1⟩ := o
  simp only at hc hdd
  subst hc hdd
  refine call_meets PySem.F.slot_tuple_count ⟨_, ho, rfl⟩ PySem.F.entry_tuple_count (PySem.F.args_tuple_count_2 _ _) (SeqAt.tuple_countAt a its.toArray n d1 f1 (.str z t) (eqU (.str z)))
    ⟨ho, fun y hy => mem_eqAt (x := .str z) ⟨t, rfl⟩ rfl rv (flats ys) y (by simpa using hy), ⟨.int (ys.count z : Nat), H, I.tok _, ⟨s.toks, ?_⟩, q⟩⟩
  rw [← count_strs z rv]
theorem tupD_inv {g : Gam} {m f : Str} {d : Fn} {as : List Expr} {e0 : Expr} (h : tupD g sc m e0 = some (f, d, as)) : ∃ b0 bs p pos, as = b0 :: bs ∧ e0 = .Call (.Name f p) (b0 :: bs) [] pos ∧ m = "count" ∧ glB sc f = true ∧ okName f = true ∧ specOf f (b0 :: bs) = none ∧ g.fns.lookup f = some d ∧ tupOk g d = true := by
  unfold tupD at h
  split at h
  · split at h
    · next hc =>
      obtain ⟨d', h1, h2⟩ := Option.bind_eq_some_iff.mp h
      split at h2
      · next ht =>
        cases h2
        exact ⟨_, _, _, _, rfl, rfl, hc.1, hc.2.1, hc.2.2.1, hc.2.2.2, h1, ht⟩
      · cases h2
    · cases h
  · cases h
theorem tup_run {f m : Str} {d : Fn} {as es : List Expr} {e0 a : Expr} {ap cp : Pos} (ro : RecOk c fa k r) (ok : Ok c fa X sc k) (ht : tupD c.g sc m e0 = some (f, d, as))
    {pins : List (Addr × Obj)} {s : Shared} {σ : L2.St} {H : Hp} {Q : VK} {ρ : Rho} {st st1 st2 st3 : Sto} {μ ex : List Addr} {w v : W} {ws vs : List W} (I : Inv X pins σ H s) (er : EnvR (bd fa X) μ ex H ρ σ) (hs : S (bd fa X) μ ex H st)
    (hb : baseOk e0 = true) (hline : (ap.endLine == cp.line) = true) (hl : (a :: es).length < 20) (e1 : evList (r.ev sc) as ρ st = some (ws, st1)) (hn : ws.length = d.ps.length) (e2 : c.call f ws st1 = some (w, st2)) (e3 : evList (r.ev sc) (a :: es) ρ st2 = some (vs, st3)) (e4 : methT w vs = some v) (q : Post (bd fa X) μ ex H v st3 Q) :
    wpAny (model X.prog X.w) X.A (eval (.Call (.Attribute e0 m ap) (a :: es) [] cp) X.env) (EP X pins σ Q) X.xe s := by
  obtain ⟨b0, bs, p, pos, rfl, rfl, rfl, hg, hok, hz, hf, hte⟩ := tupD_inv ht
  obtain ⟨h1, h2, h3⟩ := okName_ok hok
  obtain ⟨fa', fd, g1, g2, kp, b, _, _, F⟩ := ok.fns f d hf
  have hst := stars_of e3
  have hst' := hst
  simp only [noStars, Bool.and_eq_true, Bool.not_eq_true'] at hst'
  have hsa := stars_of e1
  simp only [noStars, Bool.and_eq_true, Bool.not_eq_true'] at hsa
  unfold methT at e4
  split at e4
  case h_2 => cases e4
  next l x =>
  obtain ⟨ys, e7, rfl⟩ := Option.map_eq_some_iff.mp e4
  refine (pe_bmD (cp := cp) PySem.F.plainAttrs_tuple PySem.F.slot_tuple_count PySem.F.type_tuple_count mt_tcount (pe_call (F hte) ok.room (gl_ok ok hg) g2 kp b .nil pass0 (ok_list (ro X sc ok).1 (b0 :: bs)) h1 (star_no hsa.1) (plain_of hsa.2)) (ok_list (ro X sc ok).1 (a :: es)) (ty := tyF) tyF_at (base_ok hb) (few_of hst hl) hline (star_no hst'.1) (plain_of hst'.2)).run pins s σ H Q I ?_
  refine ⟨ρ, st, μ, ex, ws, st1, er, hs, e1, fun μ1 H1 xs x1 s1 r1 => ?_⟩
  show spT (bd fa X) c.call f d.ps.length (xs ++ []) H1 _ E0
  rw [List.append_nil]
  refine ⟨ws, st1, μ1, ex, l, st2, hn, r1, s1, e2, fun μ2 H2 a2 o xs2 x2 s2 h2 hd hm r2 => ⟨⟨a2, o, xs2, rfl, h2, hd⟩, ρ, st2, μ2, ex, _, st3, er.ext (x1.trans x2), s2, e3, fun μ3 H3 zs x3 s3 r3 => ?_⟩⟩
  obtain ⟨y, rfl, rfl⟩ := RA.one_inv r3
  have := strsW_ok e7 r2
  subst this
  exact ⟨a2, o, ys, x, rfl, rfl, (x3.kept a2 _ hm h2 fun ps => by simp).1, (q.ext ((x1.trans x2).trans x3)).now s3 rfl⟩
theorem ok_Meth0 (ro : RecOk c fa k r) (ok : Ok c fa X sc k) (e0 : Expr) (m : Str) (ap cp : Pos) : PE X (.Call (.Attribute e0 m ap) [] [] cp) (tW (bd fa X) (evE c r sc (.Call (.Attribute e0 m ap) [] [] cp))) := by
  by_cases hc : baseOk e0 = true ∧ (ap.endLine == cp.line) = true
  case neg => exact pe_false fun σ H Q ⟨ρ, st, μ, ex, w, st', er, s, e, q⟩ => by simp only [evE] at e; rw [if_neg hc] at e; cases e
  by_cases hm : m = "upper"
  case neg =>
   exact pe_false fun σ H Q ⟨ρ, st, μ, ex, w, st', er, s, e, q⟩ => by
    simp only [evE] at e
    rw [if_pos hc] at e
    obtain ⟨⟨w1, st1⟩, e1, e2⟩ := Option.bind_eq_some_iff.mp e
    obtain ⟨v, e3, _⟩ := Option.map_eq_some_iff.mp e2
    unfold methB0 at e3
    rw [if_neg hm] at e3
    cases e3
  subst hm
  refine pe_mono (pe_upper ((ro X sc ok).1 e0) (base_ok hc.1) hc.2) fun σ H Q ⟨ρ, st, μ, ex, w, st', er, s, e, q⟩ => ?_
  simp only [evE] at e
  rw [if_pos hc] at e
  obtain ⟨⟨w1, st1⟩, e1, e2⟩ := Option.bind_eq_some_iff.mp e
  obtain ⟨v, e3, e4⟩ := Option.map_eq_some_iff.mp e2
  cases e4
  unfold methB0 at e3
  rw [if_pos rfl] at e3
  dsimp only at e3
  split at e3
  case h_2 => cases e3
  next a =>
  split at e3
  case isFalse => cases e3
  next hz =>
  cases e3
  refine ⟨ρ, st, μ, ex, _, _, er, s, e1, fun μ1 H1 x x1 s1 r1 => ?_⟩
  obtain rfl : x = V.str a := r1
  exact ⟨⟨a, rfl⟩, a, rfl, rfl, hz, q μ1 H1 _ x1 s1 rfl⟩
theorem ok_Meth (ro : RecOk c fa k r) (ok : Ok c fa X sc k) (e0 : Expr) (m : Str) (ap cp : Pos) (es : List Expr) : PE X (.Call (.Attribute e0 m ap) es [] cp) (tW (bd fa X) (evE c r sc (.Call (.Attribute e0 m ap) es [] cp))) := by
  refine ⟨fun pins s σ H Q I ⟨ρ, st, μ, ex, w, st', er, hs, e, q⟩ => ?_⟩
  cases es with
  | nil => exact (ok_Meth0 ro ok e0 m ap cp).run pins s σ H Q I ⟨ρ, st, μ, ex, w, st', er, hs, e, q⟩
  | cons a es =>
  simp only [evE] at e
  split at e
  case isFalse => cases e
  next hc =>
  obtain ⟨hb, hline, hne, hl⟩ := hc
  split at e
  · next f d as ht =>
    obtain ⟨⟨ws, st1⟩, e1, e2⟩ := Option.bind_eq_some_iff.mp e
    dsimp only at e2
    split at e2
    case isFalse => cases e2
    next hn =>
    obtain ⟨⟨w, st2⟩, e3, e4⟩ := Option.bind_eq_some_iff.mp e2
    obtain ⟨⟨vs, st3⟩, e5, e6⟩ := Option.bind_eq_some_iff.mp e4
    obtain ⟨v, e7, e8⟩ := Option.map_eq_some_iff.mp e6
    cases e8
    exact tup_run ro ok ht I er hs hb hline hl e1 hn e3 e5 e7 q
  obtain ⟨⟨w0, st1⟩, e1, e2⟩ := Option.bind_eq_some_iff.mp e
  obtain ⟨⟨ws, st2⟩, e3, e4⟩ := Option.bind_eq_some_iff.mp e2
  obtain ⟨v, e5, e6⟩ := Option.map_eq_some_iff.mp e4
  cases e6
  dsimp only at e3 e5
  unfold methB at e5
  split at e5
  · next hm =>
    subst hm
    split at e5
    case h_2 => cases e5
    next l x =>
    obtain ⟨ys, e7, rfl⟩ := Option.map_eq_some_iff.mp e5
    refine meth_run ro ok PySem.F.plainAttrs_list PySem.F.slot_list_count PySem.F.type_list_count mt_lcountS I er hs hb hline hl e1 e3 q (fun μ' H' z s1 r1 => ?_) fun μ' H' z zs s2 r1 r2 q' => ?_
    · obtain ⟨p, xs, rfl, f, _⟩ := r1
      exact .inl ⟨rfl, xs, f.sq⟩
    · obtain ⟨p, xs, rfl, f, ra⟩ := r1
      obtain ⟨y, rfl, rfl⟩ := RA.one_inv r2
      have := strsW_ok e7 ra
      subst this
      exact ⟨p, ys, x, rfl, rfl, f.sq, q'.now s2 rfl⟩
  split at e5
  · next hm =>
    subst hm
    split at e5
    case h_2 => cases e5
    next l x =>
    obtain ⟨ys, e7, e8⟩ := Option.bind_eq_some_iff.mp e5
    obtain ⟨j, e9, rfl⟩ := Option.map_eq_some_iff.mp e8
    refine meth_run ro ok PySem.F.plainAttrs_list PySem.F.slot_list_index PySem.F.type_list_index mt_index I er hs hb hline hl e1 e3 q (fun μ' H' z s1 r1 => ?_) fun μ' H' z zs s2 r1 r2 q' => ?_
    · obtain ⟨p, xs, rfl, f, _⟩ := r1
      exact .inl ⟨rfl, xs, f.sq⟩
    · obtain ⟨p, xs, rfl, f, ra⟩ := r1
      obtain ⟨y, rfl, rfl⟩ := RA.one_inv r2
      have := strsW_ok e7 ra
      subst this
      obtain ⟨hj, p1, p2⟩ := List.findIdx?_eq_some_iff_getElem.mp e9
      refine ⟨p, ys.map V.str, .str x, j, .str ys[j], rfl, rfl, f.sq, rfl, flats ys, by rw [List.getElem?_map, List.getElem?_eq_getElem hj]; rfl, ?_, fun m z' hm hz => ?_, q'.now s2 rfl⟩
      · show (ys[j] == x) = true
        simpa using p1
      · rw [List.getElem?_map] at hz
        obtain ⟨y', hy', rfl⟩ := Option.map_eq_some_iff.mp hz
        obtain ⟨hml, rfl⟩ := List.getElem?_eq_some_iff.mp hy'
        have := p2 m hm
        show (ys[m] == x) = false
        simpa using this
  split at e5
  · next hm =>
    subst hm
    split at e5
    · next a0 l =>
      obtain ⟨ys, e7, e8⟩ := Option.bind_eq_some_iff.mp e5
      split at e8
      case isFalse => cases e8
      next hz =>
      cases e8
      refine meth_run ro ok PySem.F.plainAttrs_str PySem.F.slot_str_join PySem.F.type_str_join mt_join I er hs hb hline hl e1 e3 q (fun μ' H' z s1 r1 => ?_) fun μ' H' z zs s2 r1 r2 q' => ?_
      · rw [show z = V.str a0 from r1]; rfl
      · obtain ⟨y, rfl, p, xs, rfl, f, ra⟩ := RA.one_inv r2
        have := strsW_ok e7 ra
        subst this
        exact ⟨a0, p, ys, r1, rfl, .inr f.sq, hz, q'.now s2 rfl⟩
    · next a0 l =>
      obtain ⟨ys, e7, e8⟩ := Option.bind_eq_some_iff.mp e5
      split at e8
      case isFalse => cases e8
      next hz =>
      cases e8
      refine meth_run ro ok PySem.F.plainAttrs_str PySem.F.slot_str_join PySem.F.type_str_join mt_join I er hs hb hline hl e1 e3 q (fun μ' H' z s1 r1 => ?_) fun μ' H' z zs s2 r1 r2 q' => ?_
      · rw [show z = V.str a0 from r1]; rfl
      · obtain ⟨y, rfl, p, xs, rfl, f, ra⟩ := RA.one_inv r2
        have := strsW_ok e7 ra
        subst this
        exact ⟨a0, p, ys, r1, rfl, .inl f.sq, hz, q'.now s2 rfl⟩
    · cases e5
  split at e5
  · next hm =>
    subst hm
    split at e5
    case h_2 => cases e5
    next a0 b0 =>
    split at e5
    case isFalse => cases e5
    next hz =>
    cases e5
    refine meth_run ro ok PySem.F.plainAttrs_str PySem.F.slot_str_split PySem.F.type_str_split mt_split I er hs hb hline hl e1 e3 q (fun μ' H' z s1 r1 => ?_) fun μ' H' z zs s2 r1 r2 q' => ?_
    · rw [show z = V.str a0 from r1]; rfl
    · obtain ⟨y, rfl, rfl⟩ := RA.one_inv r2
      exact ⟨a0, b0, r1, rfl, hz.1, hz.2, Post.lst s2 (strs_RA _) q'⟩
  split at e5
  · next hm =>
    subst hm
    split at e5
    case h_5 => cases e5
    · next ks vs kw =>
      obtain ⟨k1, e7, rfl⟩ := Option.map_eq_some_iff.mp e5
      refine get_run ro ok I er hs hb hline hl e1 e3 q (fun μ' H' z s1 r1 => ?_) fun μ' H' z zs s2 r1 r2 q' => ?_
      · obtain ⟨a1, kvs, rfl, f1, rfl, r3⟩ := r1
        exact ⟨a1, rfl, .inl (.inl ⟨kvs, .inl f1.1⟩)⟩
      · obtain ⟨a1, kvs, rfl, f1, rfl, r3⟩ := r1
        obtain ⟨y, rfl, r4⟩ := RA.one_inv r2
        have ek := keyOf_ok r4 e7
        subst ek
        exact ⟨a1, rfl, .inl ⟨_, _, DGet.k f1.1, .inl ⟨rfl, q'.now s2 (getK_D r3 rfl)⟩⟩⟩
    · next ks vs kw d =>
      obtain ⟨k1, e7, rfl⟩ := Option.map_eq_some_iff.mp e5
      refine get_run ro ok I er hs hb hline hl e1 e3 q (fun μ' H' z s1 r1 => ?_) fun μ' H' z zs s2 r1 r2 q' => ?_
      · obtain ⟨a1, kvs, rfl, f1, rfl, r3⟩ := r1
        exact ⟨a1, rfl, .inl (.inl ⟨kvs, .inl f1.1⟩)⟩
      · obtain ⟨a1, kvs, rfl, f1, rfl, r3⟩ := r1
        obtain ⟨y, ys, rfl, r4, r5⟩ := r2
        obtain ⟨y2, rfl, r6⟩ := RA.one_inv r5
        have ek := keyOf_ok r4 e7
        subst ek
        exact ⟨a1, rfl, .inl ⟨_, _, DGet.k f1.1, .inr ⟨_, rfl, q'.now s2 (getK_D r3 r6)⟩⟩⟩
    · next ks vs z0 =>
      cases e5
      refine get_run ro ok I er hs hb hline hl e1 e3 q (fun μ' H' z s1 r1 => ?_) fun μ' H' z zs s2 r1 r2 q' => ?_
      · obtain ⟨a1, xs, rfl, f1, r3⟩ := r1
        exact ⟨a1, rfl, .inr ⟨ks, xs, f1⟩⟩
      · obtain ⟨a1, xs, rfl, f1, r3⟩ := r1
        obtain ⟨y, rfl, rfl⟩ := RA.one_inv r2
        refine ⟨a1, rfl, .inr ⟨ks, xs, z0, f1, .inl ⟨rfl, fun y hy => q'.now s2 ?_⟩⟩⟩
        rcases hy with hy | ⟨rfl, hy⟩
        · obtain ⟨w', h1, h2⟩ := hy vs r3
          rw [h1]; exact h2
        · rw [hy vs]; rfl
    · next ks vs z0 d =>
      cases e5
      refine get_run ro ok I er hs hb hline hl e1 e3 q (fun μ' H' z s1 r1 => ?_) fun μ' H' z zs s2 r1 r2 q' => ?_
      · obtain ⟨a1, xs, rfl, f1, r3⟩ := r1
        exact ⟨a1, rfl, .inr ⟨ks, xs, f1⟩⟩
      · obtain ⟨a1, xs, rfl, f1, r3⟩ := r1
        obtain ⟨y, ys, rfl, r4, r5⟩ := r2
        obtain ⟨y2, rfl, r6⟩ := RA.one_inv r5
        cases r4
        refine ⟨a1, rfl, .inr ⟨ks, xs, z0, f1, .inr ⟨_, rfl, fun y hy => q'.now s2 ?_⟩⟩⟩
        rcases hy with hy | ⟨rfl, hy⟩
        · obtain ⟨w', h1, h2⟩ := hy vs r3
          rw [h1]; exact h2
        · rw [hy vs]; exact r6
  · cases e5
end
end MP
namespace MP
open PySem L2 PySem.Spec PyProof.Rows

/-! comprehensions with two fors -/
/-- what holds while a comprehension's list at D grows -/
structure CI (B : Bd) (μ1 ex : List Addr) (H1 : Hp) (D : Addr) (μ' : List Addr) (st : Sto) (acc : List V) (aw : List W) (H' : Hp) : Prop where
  pre : ∃ t, μ' = μ1 ++ t
  kp : ∀ a o, a ∉ μ1 → H1 a = some o → NoTbl o → H' a = some o ∧ a ∉ μ'
  cg : Chg μ1 ex H1 μ' (D :: ex) H'
  s : S B μ' (D :: ex) H' st
  hD : H' D = some (.lst acc)
  ra : RA B μ' (D :: ex) H' aw acc
section
variable {B : Bd} {μ1 ex μ' μ2 : List Addr} {H1 H' H2 : Hp} {D : Addr} {st st2 : Sto} {acc : List V} {aw : List W}
theorem CI.nD (c : CI B μ1 ex H1 D μ' st acc aw H') : D ∉ μ' := by
  have q := c.s.nd
  rw [List.nodup_append] at q
  exact fun h => q.2.2 D h D List.mem_cons_self rfl
theorem CI.ext (c : CI B μ1 ex H1 D μ' st acc aw H') (x : Ext μ' H' μ2 H2) (s2 : S B μ2 (D :: ex) H2 st2) : CI B μ1 ex H1 D μ2 st2 acc aw H2 where
  pre := by
    obtain ⟨t, h1⟩ := c.pre
    obtain ⟨t', h2⟩ := x.pre
    exact ⟨t ++ t', by rw [h2, h1, List.append_assoc]⟩
  kp := fun a o na h nt => by
    obtain ⟨h1, n1⟩ := c.kp a o na h nt
    exact x.kept a o n1 h1 nt
  cg := c.cg.trans x.chg
  s := s2
  hD := (x.kept D _ c.nD c.hD (nt_lst _)).1
  ra := c.ra.ext x
theorem CI.grow (c : CI B μ1 ex H1 D μ' st acc aw H') (nD1 : H1 D = none) {v : W} {y : V} (r : R B μ' (D :: ex) H' v y) : CI B μ1 ex H1 D μ' st (acc ++ [y]) (aw ++ [v]) (upd H' D (.lst (acc ++ [y]))) where
  pre := c.pre
  kp := fun a o na h nt => by
    obtain ⟨h4, n4⟩ := c.kp a o na h nt
    exact ⟨by rw [upd_ne (fun z => by rw [z, nD1] at h; cases h)]; exact h4, n4⟩
  cg := c.cg.trans Chg.fill
  s := c.s.fill
  hD := upd_same
  ra := RA.chg Chg.fill _ _ (c.ra.append (RA.one r))
end
section
variable {c : Cfg} {fa : Str → Option Addr} {X : Cx} {sc : Scope} {k : Nat} {r : Rec}
theorem tg_slots {N : List Str} {tg : Expr} : ∀ x ∈ tgNames tg, ∀ i, slot x N = some i → i ∈ slotsOf N tg := by
  intro x hx i hi
  cases tg <;> first | (simp [tgNames] at hx; done) | skip
  · next y pos =>
    have : x = y := by simpa [tgNames] using hx
    subst this
    show i ∈ (slot x N).toList
    rw [hi]
    simp
  · next es j pos =>
    unfold tgNames at hx
    obtain ⟨e, he, hxe⟩ := List.mem_flatMap.mp hx
    cases e <;> first | (simp [nmE] at hxe; done) | skip
    next y p =>
    have : x = y := by simpa [nmE] using hxe
    subst this
    show i ∈ es.filterMap _
    exact List.mem_filterMap.mpr ⟨_, he, hi⟩
theorem comp2_read (ok : Ok c fa X sc k) (elt tg iter tg1 iter1 : Expr) (ifs ifs1 : List Expr) (scope : Scope) (pos : Pos)
    (hb : blkC c.N sc scope (ownOf c.N scope.names) = true ∧ isSetE iter = false ∧ isSetE iter1 = false ∧ ((slotsOf c.N tg1).all fun i => ((ownOf c.N scope.names).map (·.2)).contains i) = true) (σ : L2.St) (H : Hp) (Q : VK)
    (h : tW (bd fa X) (evE c r sc (.ListComp elt [⟨tg, iter, ifs, 0⟩, ⟨tg1, iter1, ifs1, 0⟩] scope pos)) σ H Q) :
    tLc2 (tI (bd fa X) (iterW (r.ev sc) (evList (r.ev sc)) c.g sc (isTupE tg) iter)) (tG (bd fa X) c.N (celB scope) (relS scope sc) tg) (tB (bd fa X) (ifsW r (relS scope sc) ifs))
      (tI (bd fa X) (iterW (r.ev (relS scope sc)) (evList (r.ev (relS scope sc))) c.g (relS scope sc) (isTupE tg1) iter1)) (tG (bd fa X) c.N (celB scope) (relS scope sc) tg1) (tB (bd fa X) (ifsW r (relS scope sc) ifs1))
      (tW (bd fa X) (r.ev (relS scope sc) elt)) ((ownOf c.N scope.names).map (·.2)) (slotsOf c.N tg1) σ H Q := by
  obtain ⟨ρ, st, μ, ex, w, st', er, s, e, q⟩ := h
  simp only [evE, hb, and_self, if_true] at e
  obtain ⟨⟨l, st1⟩, e1, e2⟩ := Option.bind_eq_some_iff.mp e
  obtain ⟨⟨vs, st2⟩, e3, e4⟩ := Option.bind_eq_some_iff.mp e2
  dsimp only at e4
  split at e4
  case isFalse => cases e4
  next hsz =>
  cases e4
  refine ⟨ρ, st, μ, ex, l, st1, er, s, e1, fun μ1 H1 J x1 s1 wk => fun D nD => ?_⟩
  obtain ⟨G, Y, wlk, hG, hY⟩ := wk
  have e3 : compF (asgW c.N (celB scope) (relS scope sc) tg) (ifsW r (relS scope sc) ifs) (fun ρ1 st1 => (iterW (r.ev (relS scope sc)) (evList (r.ev (relS scope sc))) c.g (relS scope sc) (isTupE tg1) iter1 ρ1 st1).bind fun (l1, st2) =>
      compW (asgW c.N (celB scope) (relS scope sc) tg1) (ifsW r (relS scope sc) ifs1) (r.ev (relS scope sc) elt) (wipeR ρ1 (slotsOf c.N tg1)) l1 st2) (wipeR ρ ((ownOf c.N scope.names).map (·.2))) l st1 = some (vs, st') := by
    rw [← e3]
    congr 1
  generalize hF : (fun ρ1 st1 => (iterW (r.ev (relS scope sc)) (evList (r.ev (relS scope sc))) c.g (relS scope sc) (isTupE tg1) iter1 ρ1 st1).bind fun (l1, st2) =>
      compW (asgW c.N (celB scope) (relS scope sc) tg1) (ifsW r (relS scope sc) ifs1) (r.ev (relS scope sc) elt) (wipeR ρ1 (slotsOf c.N tg1)) l1 st2) = F at e3
  let Pv : Nat → Hp → Prop := fun i H' => ∃ μ' sti acc aw vs', CI (bd fa X) μ1 ex H1 D μ' sti acc aw H' ∧
    compF (asgW c.N (celB scope) (relS scope sc) tg) (ifsW r (relS scope sc) ifs) F (wipeR ρ ((ownOf c.N scope.names).map (·.2))) (l.drop i) sti = some (vs', st') ∧ vs = aw ++ vs'
  refine ⟨fun i m H => m = l.length - i ∧ i ≤ l.length ∧ Pv i H, ⟨l.length, by simp, Nat.zero_le _, μ1, st1, [], [], vs, ?_, by simpa using e3, rfl⟩, ?_⟩
  · exact ⟨⟨[], by simp⟩, fun a o na h _ => ⟨by rw [upd_ne (ne_of_none h nD)]; exact h, na⟩, Chg.lay nD, s1.lay nD, upd_same, rfl⟩
  rintro i m H' ⟨rfl, hi, μ', sti, acc, aw, vs', ci, e5, e6⟩
  have gH : G H' := hG _ _ _ ci.cg
  by_cases hlt : i < l.length
  case neg =>
    have : i = l.length := by omega
    subst this
    refine .inl ⟨wlk.stops H' gH, ?_⟩
    rw [List.drop_length] at e5
    unfold compF at e5
    cases e5
    rw [List.append_nil] at e6
    subst e6
    have eH : H' = upd (cutH H' D) D (.lst acc) := by
      funext b
      unfold upd cutH
      by_cases hb : b = D
      · rw [if_pos hb, hb, ci.hD]
      · rw [if_neg hb, if_neg hb]
    rw [eH]
    have q1 := (q.f).ext (x1.trans ⟨ci.pre, fun a o na h nt => ?_⟩) (μ' := μ') (H' := cutH H' D)
    · exact q1 μ' (cutH H' D) (.lst acc) D _ rfl (Ext.refl _ _) ci.s.cut ⟨acc, rfl, RA.chg Chg.cut _ _ ci.ra⟩ (by unfold cutH; rw [if_pos rfl])
    · obtain ⟨h2, n2⟩ := ci.kp a o na h nt
      exact ⟨by unfold cutH; rw [if_neg (fun z => by rw [z, nD] at h; cases h)]; exact h2, n2⟩
  refine .inr ⟨wlk.goes i H' hlt gH, Pv (i + 1), fun H2 p => ⟨l.length - (i + 1), by omega, rfl, hlt, p⟩, fun x H2 hy => ?_⟩
  obtain ⟨xe, sE, rE⟩ := hY i l[i] sti μ' (D :: ex) H' x H2 (List.getElem?_eq_getElem hlt) ci.cg ci.s (wlk.yields i H' x H2 hlt gH hy)
  rw [List.drop_eq_getElem_cons hlt] at e5
  unfold compF at e5
  obtain ⟨ρ1, f1, f2⟩ := Option.bind_eq_some_iff.mp e5
  obtain ⟨⟨b, st3⟩, f3, f4⟩ := Option.bind_eq_some_iff.mp f2
  have cg0 : Chg μ ex H μ' (D :: ex) H2 := (x1.chg.trans ci.cg).trans xe.chg
  refine ⟨wipeR ρ ((ownOf c.N scope.names).map (·.2)), sti, μ', D :: ex, l[i], ρ1, (er.chg cg0).wipe _, sE, rE, f1, fun σ1 er1 wp => ⟨?_, ?_⟩⟩
  · rw [wp _ (tg_own f1)]
    exact wipe_ext (wipe_length _ _) fun j hj => wipe_out hj
  refine ⟨ρ1, sti, μ', D :: ex, b, st3, er1, sE, f3, fun μ3 H3 x3 s3 => ?_⟩
  have ci3 := (ci.ext xe sE).ext x3 s3
  cases b with
  | false =>
    dsimp only at f4
    rw [if_neg (by decide)] at f4
    exact iteF ⟨μ3, st3, acc, aw, vs', ci3, f4, e6⟩
  | true =>
    dsimp only at f4
    rw [if_pos rfl] at f4
    refine iteT ?_
    obtain ⟨⟨us, st4⟩, g1, g2⟩ := Option.bind_eq_some_iff.mp f4
    obtain ⟨⟨us2, st5⟩, g3, g4⟩ := Option.bind_eq_some_iff.mp g2
    cases g4
    rw [← hF] at g1
    obtain ⟨⟨l1, st6⟩, g5, g6⟩ := Option.bind_eq_some_iff.mp g1
    refine ⟨ρ1, st3, μ3, D :: ex, l1, st6, er1.ext x3, s3, g5, fun μ4 H4 J1 x4 s4 wk1 => ?_⟩
    obtain ⟨G1, Y1, wlk1, hG1, hY1⟩ := wk1
    have ci4 := ci3.ext x4 s4
    have er4 := (er1.ext x3).ext x4
    refine ⟨fun j m H => m = l1.length - j ∧ j ≤ l1.length ∧ ∃ μ' sti acc aw us', CI (bd fa X) μ1 ex H1 D μ' sti acc aw H ∧ Chg μ4 (D :: ex) H4 μ' (D :: ex) H ∧
      compW (asgW c.N (celB scope) (relS scope sc) tg1) (ifsW r (relS scope sc) ifs1) (r.ev (relS scope sc) elt) (wipeR ρ1 (slotsOf c.N tg1)) (l1.drop j) sti = some (us', st4) ∧ vs = aw ++ (us' ++ us2),
      ⟨l1.length, by simp, Nat.zero_le _, μ4, st6, acc, aw, us, ci4, Ext.chg (Ext.refl _ _), by simpa using g6, e6⟩, ?_⟩
    rintro j m H5 ⟨rfl, hj, μ5, st5, acc5, aw5, us5, ci5, cg5, k5, k6⟩
    have gH1 : G1 H5 := hG1 _ _ _ cg5
    by_cases hjl : j < l1.length
    case neg =>
      have : j = l1.length := by omega
      subst this
      rw [List.drop_length] at k5
      unfold compW at k5
      cases k5
      exact .inl ⟨wlk1.stops H5 gH1, μ5, st4, acc5, aw5, us2, ci5, g3, by simpa using k6⟩
    refine .inr ⟨wlk1.goes j H5 hjl gH1, _, fun H6 p => ⟨l1.length - (j + 1), by omega, rfl, hjl, p⟩, fun y H6 hy1 => ?_⟩
    obtain ⟨xe1, sE1, rE1⟩ := hY1 j l1[j] st5 μ5 (D :: ex) H5 y H6 (List.getElem?_eq_getElem hjl) cg5 ci5.s (wlk1.yields j H5 y H6 hjl gH1 hy1)
    rw [List.drop_eq_getElem_cons hjl] at k5
    unfold compW at k5
    obtain ⟨ρ2, m1, m2⟩ := Option.bind_eq_some_iff.mp k5
    obtain ⟨⟨b1, st7⟩, m3, m4⟩ := Option.bind_eq_some_iff.mp m2
    refine ⟨wipeR ρ1 (slotsOf c.N tg1), st5, μ5, D :: ex, l1[j], ρ2, (er4.chg (cg5.trans xe1.chg)).wipe _, sE1, rE1, m1, fun σ3 er3 wp3 => ⟨?_, ?_⟩⟩
    · rw [wp3 _ tg_slots]
      exact wipe_ext (wipe_length _ _) fun j hj => wipe_out hj
    refine ⟨ρ2, st5, μ5, D :: ex, b1, st7, er3, sE1, m3, fun μ7 H7 x7 s7 => ?_⟩
    have ci7 := (ci5.ext xe1 sE1).ext x7 s7
    have cg7 := (cg5.trans xe1.chg).trans x7.chg
    cases b1 with
    | false =>
      dsimp only at m4
      rw [if_neg (by decide)] at m4
      exact iteF ⟨μ7, st7, acc5, aw5, us5, ci7, cg7, m4, k6⟩
    | true =>
      dsimp only at m4
      rw [if_pos rfl] at m4
      refine iteT ?_
      obtain ⟨⟨v, st8⟩, n1, n2⟩ := Option.bind_eq_some_iff.mp m4
      obtain ⟨⟨us8, st9⟩, n3, n4⟩ := Option.bind_eq_some_iff.mp n2
      cases n4
      refine ⟨ρ2, st7, μ7, D :: ex, v, st8, er3.ext x7, s7, n1, fun μ8 H8 y8 x8 s8 r8 => ?_⟩
      have ci8 := ci7.ext x8 s8
      refine ⟨acc5, ci8.hD, ?_, μ8, st8, acc5 ++ [y8], aw5 ++ [v], us8, ci8.grow nD r8, (cg7.trans x8.chg).trans Chg.fill, n3, by rw [k6]; simp⟩
      rw [← ci8.ra.length]
      have hl : aw5.length < vs.length := by rw [k6]; simp
      omega
theorem ok_ListComp2 (ro : RecOk c fa k r) (ok : Ok c fa X sc k) (elt tg iter tg1 iter1 : Expr) (ifs ifs1 : List Expr) (scope : Scope) (pos : Pos) :
    PE X (.ListComp elt [⟨tg, iter, ifs, 0⟩, ⟨tg1, iter1, ifs1, 0⟩] scope pos) (tW (bd fa X) (evE c r sc (.ListComp elt [⟨tg, iter, ifs, 0⟩, ⟨tg1, iter1, ifs1, 0⟩] scope pos))) := by
  by_cases hb : blkC c.N sc scope (ownOf c.N scope.names) = true ∧ isSetE iter = false ∧ isSetE iter1 = false ∧ ((slotsOf c.N tg1).all fun i => ((ownOf c.N scope.names).map (·.2)).contains i) = true
  case neg =>
    refine pe_false fun σ H Q ⟨ρ, st, μ, ex, w, st', er, s, e, q⟩ => ?_
    simp only [evE, hb, if_false] at e
    cases e
  have bo := blkOk_by hb.1
  have hb1 : BlkOk X.N X.env.scope scope (ownOf c.N scope.names) := by rw [ok.N, ok.scE]; exact bo
  exact pe_mono (pe_lc2 (own := ownOf c.N scope.names) (vs1 := slotsOf c.N tg1) ok.calm (by rw [ok.N]; exact ok.nd) (ok_iter ro ok tg iter) hb1 (fun i hi => by have := List.all_eq_true.mp hb.2.2.2 i hi; simpa using this)
    (fun s H C cl fp => ok_g (lo := celB scope) (X := X.blk s H scope (compEnvC scope cl C X.env) fp) (blk_ok ok bo.kind) (fun x h => h) tg) (fun s H C cl fp => ok_ifs (X := X.blk s H scope (compEnvC scope cl C X.env) fp) ro (blk_ok ok bo.kind) ifs)
    (fun s H C cl fp => ok_iter (X := X.blk s H scope (compEnvC scope cl C X.env) fp) ro (blk_ok ok bo.kind) tg1 iter1)
    (fun s H C cl fp => ok_g (lo := celB scope) (X := X.blk s H scope (compEnvC scope cl C X.env) fp) (blk_ok ok bo.kind) (fun x h => h) tg1) (fun s H C cl fp => ok_ifs (X := X.blk s H scope (compEnvC scope cl C X.env) fp) ro (blk_ok ok bo.kind) ifs1)
    (fun s H C cl fp => (ro (X.blk s H scope (compEnvC scope cl C X.env) fp) (relS scope sc) (blk_ok ok bo.kind)).1 elt) (fun x => by cases iter <;> first | rfl | (have := hb.2.1; cases this)) (fun env x => by cases iter1 <;> first | rfl | (have := hb.2.2.1; cases this))) fun σ H Q h => comp2_read ok elt tg iter tg1 iter1 ifs ifs1 scope pos hb σ H Q h
theorem ps_LC2 (ro : RecOk c fa k r) (ok : Ok c fa X sc k) (elt tg iter tg1 iter1 : Expr) (ifs ifs1 : List Expr) (scope : Scope) (pos : Pos) {i : Nat} {x : Str} {px ps : Pos} (hx : slot x c.N = some i) (hl : sc.names.lookup x = some .local)
    (hsw : swapsWith (.ListComp elt [⟨tg, iter, ifs, 0⟩, ⟨tg1, iter1, ifs1, 0⟩] scope pos) (some (.Name x px)) ps.line X.env = pure true) :
    PS X (.Assign [.Name x px] (.ListComp elt [⟨tg, iter, ifs, 0⟩, ⟨tg1, iter1, ifs1, 0⟩] scope pos) ps) (tAsg (tW (bd fa X) (evE c r sc (.ListComp elt [⟨tg, iter, ifs, 0⟩, ⟨tg1, iter1, ifs1, 0⟩] scope pos))) (gName i)) := by
  by_cases hb : blkC c.N sc scope (ownOf c.N scope.names) = true ∧ isSetE iter = false ∧ isSetE iter1 = false ∧ ((slotsOf c.N tg1).all fun i => ((ownOf c.N scope.names).map (·.2)).contains i) = true
  case neg =>
    refine ⟨fun pins s0 σ H D I h => ?_⟩
    obtain ⟨ρ, st, μ, ex, w, st', er, s, e, q⟩ := h
    simp only [evE, hb, if_false] at e
    cases e
  have bo := blkOk_by hb.1
  have hb1 : BlkOk X.N X.env.scope scope (ownOf c.N scope.names) := by rw [ok.N, ok.scE]; exact bo
  have m := ps_setLc2 (g := tG (bd fa X) c.N (celB scope) (relS scope sc) tg) (tt := tB (bd fa X) (ifsW r (relS scope sc) ifs)) (wi1 := tI (bd fa X) (iterW (r.ev (relS scope sc)) (evList (r.ev (relS scope sc))) c.g (relS scope sc) (isTupE tg1) iter1)) (g1 := tG (bd fa X) c.N (celB scope) (relS scope sc) tg1) (tt1 := tB (bd fa X) (ifsW r (relS scope sc) ifs1)) (te := tW (bd fa X) (r.ev (relS scope sc) elt)) (i := i) (y := x) (py := px) (spos := ps) (pos := pos) (own := ownOf c.N scope.names) (vs1 := slotsOf c.N tg1) ok.calm (by rw [ok.N]; exact ok.nd) (by rw [ok.N]; exact slot_ok hx) (by rw [ok.scE]; exact hl) hsw (ok_iter ro ok tg iter) hb1 (fun i hi => by have := List.all_eq_true.mp hb.2.2.2 i hi; simpa using this)
    (fun s H C cl fp => ok_g (lo := celB scope) (X := X.blk s H scope (compEnvC scope cl C X.env) fp) (blk_ok ok bo.kind) (fun x h => h) tg) (fun s H C cl fp => ok_ifs (X := X.blk s H scope (compEnvC scope cl C X.env) fp) ro (blk_ok ok bo.kind) ifs)
    (fun s H C cl fp => ok_iter (X := X.blk s H scope (compEnvC scope cl C X.env) fp) ro (blk_ok ok bo.kind) tg1 iter1)
    (fun s H C cl fp => ok_g (lo := celB scope) (X := X.blk s H scope (compEnvC scope cl C X.env) fp) (blk_ok ok bo.kind) (fun x h => h) tg1) (fun s H C cl fp => ok_ifs (X := X.blk s H scope (compEnvC scope cl C X.env) fp) ro (blk_ok ok bo.kind) ifs1)
    (fun s H C cl fp => (ro (X.blk s H scope (compEnvC scope cl C X.env) fp) (relS scope sc) (blk_ok ok bo.kind)).1 elt) (fun x => by cases iter <;> first | rfl | (have := hb.2.1; cases this)) (fun env x => by cases iter1 <;> first | rfl | (have := hb.2.2.1; cases this))
  exact ⟨fun pins s0 σ H D I h => m.run pins s0 σ H D I (comp2_read ok elt tg iter tg1 iter1 ifs ifs1 scope pos hb σ H _ h)⟩
end
end MP
namespace MP
open PySem L2 PySem.Spec PyProof.Rows

/-! min of tuples of texts, with default=None -/
abbrev tD (k : List Str) : PyData := .tuple (k.map .str)
theorem alikeAll_strs : ∀ a b : List Str, PySem.W.alikeAll (a.map .str) (b.map .str) = true
  | [], b => by cases b <;> simp [PySem.W.alikeAll]
  | x :: a, [] => by simp [PySem.W.alikeAll]
  | x :: a, y :: b => by simp [PySem.W.alikeAll, PySem.W.alike, alikeAll_strs a b]
theorem alike_tD (a b : List Str) : PySem.W.alike (tD a) (tD b) = true := by
  show PySem.W.alike (.tuple _) (.tuple _) = true
  simp only [PySem.W.alike]
  exact alikeAll_strs a b
theorem tD_inj : ∀ {a b : List Str}, (a.map PyData.str) = b.map PyData.str → a = b
  | [], [], _ => rfl
  | [], _ :: _, h => by cases h
  | _ :: _, [], h => by cases h
  | x :: a, y :: b, h => by
    rw [List.map_cons, List.map_cons, List.cons.injEq] at h
    rw [PyData.str.inj h.1, tD_inj h.2]
theorem minK_D : ∀ (ks : List (List Str)) (k : List Str), PySem.W.minD (tD k) (ks.map tD) = tD (minK k ks)
  | [], k => rfl
  | y :: ys, k => by
    unfold PySem.W.minD
    rw [List.map_cons, List.foldl_cons]
    unfold minK
    have ih := minK_D ys
    unfold PySem.W.minD at ih
    by_cases h : PySem.W.dataLt (tD y) (tD k) = true
    · rw [if_pos h, if_pos h]; exact ih y
    · rw [if_neg h, if_neg h]; exact ih k
theorem strD_lay : ∀ {l : List Str}, okT l = true → PyData.canLayAll0 (l.map .str) = true
  | [], _ => by simp [PyData.canLayAll0]
  | x :: l, h => by
    simp only [okT, List.all_cons, Bool.and_eq_true] at h
    simp only [List.map_cons, PyData.canLayAll0, PyData.canLay0, h.1, Bool.true_and]
    exact strD_lay h.2
theorem strD_depth : ∀ l : List Str, PyData.depthAll (l.map .str) = 0
  | [] => by simp [PyData.depthAll]
  | x :: l => by simp [PyData.depthAll, PyData.depth, strD_depth l]
theorem tD_depth : ∀ l : List (List Str), PyData.depthAll (l.map tD) ≤ 1
  | [] => by simp [PyData.depthAll]
  | x :: l => by
    have := tD_depth l
    simp only [List.map_cons, PyData.depthAll, PyData.depth, strD_depth]
    omega
section
variable {X : Cx} {fa : Str → Option Addr} {c : Cfg} {sc : Scope} {k : Nat} {r : Rec}
theorem tups_dp {B : Bd} {μ ex : List Addr} {H : Hp} : ∀ {ws : List W} {kss : List (List Str)} {xs : List V}, tupsW ws = some kss → RA B μ ex H ws xs → DpAll B.K H xs (kss.map tD) ∧ ws = kss.map fun k => .tup (k.map .str)
  | [], kss, xs, h, r => by cases h; rw [show xs = [] from r]; exact ⟨.nil, rfl⟩
  | w :: ws, kss, xs, h, r => by
    cases w <;> first | (cases h; done) | skip
    next l =>
    unfold tupsW at h
    obtain ⟨k1, e1, e2⟩ := Option.bind_eq_some_iff.mp h
    obtain ⟨ks, e3, e4⟩ := Option.bind_eq_some_iff.mp e2
    cases e4
    obtain ⟨x, ys, rfl, ⟨a, zs, rfl, f, r1⟩, r2⟩ := r
    obtain ⟨d1, d2⟩ := tups_dp e3 r2
    have e5 := strsW_ok e1 r1
    subst e5
    have lw : l = k1.map .str := strsW_eq e1
    refine ⟨.cons (.tup f.sq (strs_dp k1)) d1, ?_⟩
    rw [List.map_cons, ← lw, ← d2]
where
  strs_dp {K : PySem.W.Frag} {H : Hp} : ∀ k : List Str, DpAll K H (k.map V.str) (k.map .str)
    | [] => .nil
    | x :: k => .cons (.str x) (strs_dp k)
  strsW_eq : ∀ {l : List W} {k : List Str}, strsW l = some k → l = k.map .str
    | [], k, h => by cases h; rfl
    | w :: l, k, h => by
      cases w <;> first | (cases h; done) | skip
      unfold strsW at h
      obtain ⟨k1, e1, rfl⟩ := Option.map_eq_some_iff.mp h
      rw [strsW_eq e1]
      rfl
def rMinD (B : Bd) : List V → List V → Hp → VK → Prop := fun xs zs H Q => ∃ x w st μ ex v, xs = [x] ∧ zs = [.non] ∧ R B μ ex H w x ∧ S B μ ex H st ∧ minDW w = some v ∧ Post B μ ex H v st Q
theorem cr_minD (hc : X.calm = true) (hu : X.A.units + 65 < cLine) : CallRK X (.builtin "min") [Str.ofString "default"] (rMinD (bd fa X)) := by
  rintro pins s σ H xs zs us ws Q I rx rz ⟨x, w, st, μ, ex, v, rfl, rfl, rw0, hs, e, q⟩
  obtain ⟨u, rfl, r1⟩ := vals1 rx
  obtain ⟨u2, rfl, r2⟩ := vals1 rz
  cases (show u2 = Value.none from r2)
  unfold minDW at e
  split at e
  case h_2 => cases e
  next l =>
  obtain ⟨kss, e1, e2⟩ := Option.bind_eq_some_iff.mp e
  split at e2
  case isFalse => cases e2
  next hok =>
  obtain ⟨a, ys, rfl, f, ra⟩ := rw0
  cases (show u = Value.ref a from r1)
  obtain ⟨dp, lw⟩ := tups_dp e1 ra
  obtain ⟨its, rv, pl, hl⟩ := I.list f.sq
  have il : s.heap.IsList a its.toArray := pl.isList
  have rd : ∃ as, ReadsAll s.heap its (kss.map tD) as := DpAll.readsAll I dp rv
  obtain ⟨as, rd⟩ := rd
  have al : PySem.W.AlikeAll (kss.map tD) := by
    refine ⟨fun x hx y hy => ?_, fun x hx => ?_⟩
    · obtain ⟨a1, _, rfl⟩ := List.mem_map.mp hx
      obtain ⟨a2, _, rfl⟩ := List.mem_map.mp hy
      exact alike_tD a1 a2
    · obtain ⟨a1, _, rfl⟩ := List.mem_map.mp hx
      exact fun z => nomatch z
  show wpAny _ _ (call (.builtin "min") [.ref a] [(Str.ofString "default", .none)]) _ _ _
  refine PySem.W.min_list_default (I.ok.hd hc) il (by simpa using rd) al (by have := tD_depth kss; omega) (fun h0 h' tk kp => ?_) (fun y ys' i v' h' tk bs hy hi hr kp => ?_)
  · have : kss = [] := by simpa using h0
    subst this
    cases e2
    exact ⟨.non, H, I.kept (t' := tk) kp, rfl, q.now hs rfl⟩
  · cases kss with
    | nil => cases hy
    | cons k1 ks =>
      dsimp only at e2
      cases e2
      rw [List.map_cons, List.cons.injEq] at hy
      obtain ⟨hy1, hy2⟩ := hy
      subst hy1 hy2
      rw [minK_D] at hr
      rw [List.getElem?_toArray] at hi
      obtain ⟨xv, hx, rxv⟩ := paired_at' rv hi
      have hlen : i < ys.length := (List.getElem?_eq_some_iff.mp hx).1
      have hlw : l.length = ys.length := ra.length
      obtain ⟨wi, hwi⟩ : ∃ wi, l[i]? = some wi := ⟨_, List.getElem?_eq_getElem (by omega)⟩
      obtain ⟨xv', hx', rwi⟩ := ra.get hwi
      rw [hx] at hx'
      cases hx'
      rw [lw, List.getElem?_map] at hwi
      obtain ⟨ki, hki, rfl⟩ := Option.map_eq_some_iff.mp hwi
      have di : ∃ b, Reads s.heap v' (tD ki) b := by
        have dpi := toPy_ok (B := bd fa X) (.tup (ki.map .str)) (tD ki) xv (toPy_tD ki) rwi
        exact Dp.reads I _ _ _ dpi rxv
      obtain ⟨b, rb⟩ := di
      have kin : ki ∈ k1 :: ks := List.mem_of_getElem? hki
      have lay : ∀ k' ∈ k1 :: ks, (tD k').canLay0 = true := fun k' hk' => by
        simp only [PyData.canLay0]
        exact strD_lay (List.all_eq_true.mp hok k' hk')
      have mk : minK k1 ks ∈ k1 :: ks := minK_mem ks k1
      have o1 := PySem.SeqAt.readOf_eq (lay _ kin) (Reads.keeps kp rb)
      have o2 := PySem.SeqAt.readOf_eq (lay _ mk) hr
      rw [o1] at o2
      have : ki = minK k1 ks := tD_inj (PyData.tuple.inj o2)
      subst this
      exact ⟨xv, H, I.kept (t' := tk) kp, rxv, q.now hs rwi⟩
where
  toPy_tD (k : List Str) : toPy (.tup (k.map .str)) = some (tD k) := by
    have h : ∀ k : List Str, toPyA (k.map .str) = some (k.map .str) := fun k => by
      induction k with
      | nil => rfl
      | cons x k ih =>
        show ((toPy (.str x)).bind fun d => (toPyA (k.map .str)).bind fun ds => some (d :: ds)) = _
        rw [ih]
        rfl
    show (toPyA (k.map .str)).map PyData.tuple = _
    rw [h]
    rfl
  minK_mem : ∀ (ks : List (List Str)) (k : List Str), minK k ks ∈ k :: ks
    | [], k => List.mem_singleton.mpr rfl
    | y :: ys, k => by
      unfold minK
      split
      · exact List.mem_cons_of_mem _ (minK_mem ys y)
      · rcases List.mem_cons.mp (minK_mem ys k) with h | h
        · rw [h]; exact List.mem_cons_self
        · exact List.mem_cons_of_mem _ (List.mem_cons_of_mem _ h)
  paired_at' {xs : List V} {us : List Value} (r : Vals xs us) {i : Nat} {u : Value} (h : us[i]? = some u) : ∃ x, xs[i]? = some x ∧ RelV x u := by
    induction r generalizing i with
    | nil => simp at h
    | @cons x0 u0 xs us r0 t ih =>
      cases i with
      | zero => simp at h; subst h; exact ⟨_, rfl, r0⟩
      | succ i => obtain ⟨x, h1, h2⟩ := ih (by simpa using h); exact ⟨x, by simpa using h1, h2⟩
  DpAll.readsAll {pins : List (Addr × Obj)} {σ : L2.St} {H : Hp} {s : Shared} (I : Inv X pins σ H s) {xs : List V} {ds : List PyData} {us : List Value} (d : DpAll X.K H xs ds) (r : Vals xs us) : ∃ as, ReadsAll s.heap us ds as := by
    induction us generalizing xs ds with
    | nil => cases r; cases d; exact ⟨_, .nil⟩
    | cons u us ih =>
      cases r with
      | cons r1 r2 =>
        cases d with
        | cons d1 d2 =>
          obtain ⟨as1, h1⟩ := Dp.reads I _ _ _ d1 r1
          obtain ⟨as2, h2⟩ := ih d2 r2
          exact ⟨_, .cons h1 h2⟩
theorem ok_minD (ro : RecOk c fa k r) (ok : Ok c fa X sc k) (f : Str) (p pos kp cp : Pos) (a : Expr) (kn : Str) (j : Nat) : PE X (.Call (.Name f p) [a] [⟨some kn, .Constant .none j cp, kp⟩] pos) (tW (bd fa X) (evE c r sc (.Call (.Name f p) [a] [⟨some kn, .Constant .none j cp, kp⟩] pos))) := by
  by_cases hc : f = "min" ∧ kn = "default" ∧ glB sc f = true ∧ f ∈ c.g.bs ∧ isStar a = false
  case neg => exact pe_false fun σ H Q ⟨ρ, st, μ, ex, w, st', er, s, e, q⟩ => by simp only [evE] at e; rw [if_neg hc] at e; cases e
  obtain ⟨rfl, rfl, hg, hb, hs⟩ := id hc
  refine pe_mono (pe_callBK (cr_minD (fa := fa) ok.calm (units_ok ok)) (gl_ok ok hg) (ok.bs _ hb) (by decide +kernel) (pa_cons ((ro X sc ok).1 a) pa_nil (star_no hs)) (pk_cons pe_non pk_nil) (by decide) (by decide)
    (by rw [star_no hs]; rfl) (by rw [star_no hs]; rfl) (by rfl) (by rfl) (by rfl)) fun σ H Q ⟨ρ, st, μ, ex, w, st', er, s, e, q⟩ => ?_
  have e : (if ("min" : Str) = "min" ∧ ("default" : Str) = "default" ∧ glB sc "min" = true ∧ ("min" : Str) ∈ c.g.bs ∧ isStar a = false then (r.ev sc a ρ st).bind fun (w, st1) => (minDW w).map fun v => (v, st1) else none) = some (w, st') := e
  rw [if_pos hc] at e
  obtain ⟨⟨w1, st1⟩, e1, e2⟩ := Option.bind_eq_some_iff.mp e
  obtain ⟨v, e3, e4⟩ := Option.map_eq_some_iff.mp e2
  cases e4
  exact ⟨ρ, st, μ, ex, w1, _, er, s, e1, fun μ1 H1 x x1 s1 r1 => ⟨x, w1, _, μ1, ex, _, rfl, rfl, r1, s1, e3, q.ext x1⟩⟩
/-! f-strings -/
theorem ok_fmt (ro : RecOk c fa k r) (ok : Ok c fa X sc k) (e0 : Expr) (cv : Int) (pos : Pos) : PE X (.FormattedValue e0 cv none pos) (tW (bd fa X) (evE c r sc (.FormattedValue e0 cv none pos))) := by
  by_cases hc : cv = -1
  case neg =>
    by_cases hc2 : cv = 114
    case neg => exact pe_false fun σ H Q ⟨ρ, st, μ, ex, w, st', er, s, e, q⟩ => by simp only [evE] at e; rw [if_neg hc, if_neg hc2] at e; cases e
    subst hc2
    refine pe_mono (pe_fmtR ((ro X sc ok).1 e0)) fun σ H Q ⟨ρ, st, μ, ex, w, st', er, s, e, q⟩ => ?_
    simp only [evE] at e
    rw [if_neg hc, if_pos True.intro] at e
    obtain ⟨⟨w1, st1⟩, e1, e2⟩ := Option.bind_eq_some_iff.mp e
    cases w1 <;> first | (cases e2; done) | skip
    next y =>
    dsimp only at e2
    split at e2
    case isFalse => cases e2
    next hz =>
    cases e2
    exact ⟨ρ, st, μ, ex, _, _, er, s, e1, fun μ1 H1 x x1 s1 r1 => .inl ⟨y, r1, hz, q μ1 H1 _ x1 s1 rfl⟩⟩
  subst hc
  refine pe_mono (pe_fmt ((ro X sc ok).1 e0)) fun σ H Q ⟨ρ, st, μ, ex, w, st', er, s, e, q⟩ => ?_
  simp only [evE, if_true] at e
  obtain ⟨⟨w1, st1⟩, e1, e2⟩ := Option.bind_eq_some_iff.mp e
  cases w1 <;> first | (cases e2; done) | skip
  next y =>
  dsimp only at e2
  split at e2
  case isFalse => cases e2
  next hz =>
  cases e2
  exact ⟨ρ, st, μ, ex, _, _, er, s, e1, fun μ1 H1 x x1 s1 r1 => .inl ⟨y, r1, hz, q μ1 H1 _ x1 s1 rfl⟩⟩
theorem pj_of {f : Expr → Rho → Sto → Option (W × Sto)} (h : ∀ e, PE X e (tW (bd fa X) (f e))) : ∀ es : List Expr, PJ X es (es.map fun e => tW (bd fa X) (f e))
  | [] => .nil
  | e :: es => .cons (h e) (pj_of h es)
theorem tJ_of {f : Expr → Rho → Sto → Option (W × Sto)} {σ : L2.St} {Q : VK} : ∀ (es : List Expr) (acc : Str) {H : Hp} {ρ : Rho} {st st' : Sto} {μ ex : List Addr} {z : Str}, EnvR (bd fa X) μ ex H ρ σ → S (bd fa X) μ ex H st → evJ f acc es ρ st = some (z, st') → Post (bd fa X) μ ex H (.str z) st' Q →
    tJs (es.map fun e => tW (bd fa X) (f e)) acc σ H fun out H1 => Q (.str out) H1
  | [], acc, H, ρ, st, st', μ, ex, z, er, s, e, q => by cases e; exact q.now s rfl
  | e0 :: es, acc, H, ρ, st, st', μ, ex, z, er, s, e, q => by
    unfold evJ at e
    obtain ⟨⟨w1, st1⟩, e1, e2⟩ := Option.bind_eq_some_iff.mp e
    cases w1 <;> first | (cases e2; done) | skip
    next y =>
    dsimp only at e2
    split at e2
    case isFalse => cases e2
    next hz =>
    exact ⟨ρ, st, μ, ex, _, st1, er, s, e1, fun μ1 H1 x x1 s1 r1 => ⟨y, r1, hz, tJ_of es (acc ++ y) (er.ext x1) s1 e2 (q.ext x1)⟩⟩
theorem ok_joined (ro : RecOk c fa k r) (ok : Ok c fa X sc k) (v1 v2 : Expr) (vs : List Expr) (pos : Pos) : PE X (.JoinedStr (v1 :: v2 :: vs) pos) (tW (bd fa X) (evE c r sc (.JoinedStr (v1 :: v2 :: vs) pos))) := by
  refine pe_mono (pe_joined (pj_of (fun e => (ro X sc ok).1 e) (v1 :: v2 :: vs))) fun σ H Q ⟨ρ, st, μ, ex, w, st', er, s, e, q⟩ => ?_
  simp only [evE] at e
  obtain ⟨⟨z, st1⟩, e1, e2⟩ := Option.map_eq_some_iff.mp e
  cases e2
  exact tJ_of (v1 :: v2 :: vs) Str.empty er s e1 q
end
end MP
namespace MP
open PySem L2 PySem.Spec PyProof.Rows

section
variable {c : Cfg} {fa : Str → Option Addr} {X : Cx} {sc : Scope} {k : Nat} {r : Rec}
theorem ev_none {e0 : Expr} (h : ∀ ρ st, evE c r sc e0 ρ st = none) : PE X e0 (tW (bd fa X) (evE c r sc e0)) :=
  pe_false fun σ H Q ⟨ρ, st, μ, ex, w, st', er, s, e, q⟩ => by rw [h] at e; cases e
theorem ok_ev (ro : RecOk c fa k r) (rl : RecL c fa k r) (ok : Ok c fa X sc k) (e : Expr) : PE X e (tW (bd fa X) (evE c r sc e)) := by
  cases e with
  | Name x pos => exact ok_Name ok r x pos
  | Constant x j pos => exact ok_Const r x j pos
  | BinOp a op b pos => exact ok_BinOp ro ok a b op pos
  | Compare a ops cs pos =>
    match ops, cs with
    | [op], [b] => exact ok_Compare ro ok a b op pos
    | [], _ => exact ev_none fun _ _ => rfl
    | _ :: _ :: _, _ => exact ev_none fun _ _ => rfl
    | [_], [] => exact ev_none fun _ _ => rfl
    | [_], _ :: _ :: _ => exact ev_none fun _ _ => rfl
  | UnaryOp op a pos =>
    cases op with
    | Not => exact ok_Not ro ok a pos
    | USub => exact ok_Neg ro ok a pos
    | Invert => exact ev_none fun _ _ => rfl
    | UAdd => exact ev_none fun _ _ => rfl
  | BoolOp op es pos =>
    match es with
    | [] => exact ev_none fun _ _ => by cases op <;> rfl
    | [a] => exact ok_One ro ok op a pos
    | a :: b :: es =>
      cases op with
      | And => exact ok_And ro ok a b es pos
      | Or => exact ok_Or ro ok a b es pos
  | IfExp t a b pos => exact ok_IfExp ro ok t a b pos
  | Tuple es j pos => exact ok_Tuple ro ok es j pos
  | List es pos => exact ok_List ro ok es pos
  | Dict keys values pos => exact pe_mono (ok_DictF ro ok keys values pos) fun _ _ _ h => tWf_of h
  | Subscript a b pos =>
    by_cases hb : isSlice b = true
    · cases b <;> first | (cases hb; done) | skip
      next lo hi step p2 =>
      cases step with
      | none => exact ok_Slice ro ok a lo hi p2 pos
      | some z => exact ev_none fun _ _ => by simp [evE, isSlice]
    · exact ok_Index ro ok a b pos (by simpa using hb)
  | Call f es kws pos =>
    cases kws with
    | nil =>
      cases f with
      | Name x p => exact ok_Call ro rl ok x p es pos
      | Attribute e0 m ap => exact ok_Meth ro ok e0 m ap pos es
      | _ => exact ev_none fun _ _ => rfl
    | cons z zs =>
      by_cases hk : ∃ x p a kn j cp kp, f = .Name x p ∧ es = [a] ∧ z = ⟨some kn, .Constant .none j cp, kp⟩ ∧ zs = []
      · obtain ⟨x, p, a, kn, j, cp, kp, rfl, rfl, rfl, rfl⟩ := hk
        exact ok_minD ro ok x p pos kp cp a kn j
      · exact ev_none fun ρ st => by
          unfold evE
          split <;> first | rfl | (next h => cases h) | skip
          all_goals (next h => cases h; exact absurd ⟨_, _, _, _, _, _, _, rfl, rfl, rfl, rfl⟩ hk)
  | FormattedValue e0 cv fs pos =>
    cases fs with
    | none => exact ok_fmt ro ok e0 cv pos
    | some z => exact ev_none fun _ _ => rfl
  | JoinedStr vs pos =>
    match vs with
    | [] => exact ev_none fun _ _ => rfl
    | [v] => exact ev_none fun _ _ => rfl
    | v1 :: v2 :: vs => exact ok_joined ro ok v1 v2 vs pos
  | ListComp elt gs scope pos =>
    match gs with
    | [⟨tg, iter, ifs, 0⟩] => exact ok_ListComp ro ok elt tg iter ifs scope pos
    | [⟨tg, iter, ifs, 0⟩, ⟨tg1, iter1, ifs1, 0⟩] => exact ok_ListComp2 ro ok elt tg iter tg1 iter1 ifs ifs1 scope pos
    | [] => exact ev_none fun _ _ => rfl
    | [⟨tg, iter, ifs, .ofNat (n + 1)⟩] => exact ev_none fun _ _ => rfl
    | [⟨tg, iter, ifs, .negSucc n⟩] => exact ev_none fun _ _ => rfl
    | [⟨_, _, _, .ofNat 0⟩, ⟨_, _, _, .ofNat (n + 1)⟩] => exact ev_none fun _ _ => rfl
    | [⟨_, _, _, .ofNat 0⟩, ⟨_, _, _, .negSucc n⟩] => exact ev_none fun _ _ => rfl
    | ⟨_, _, _, .ofNat 0⟩ :: ⟨_, _, _, .ofNat 0⟩ :: _ :: _ => exact ev_none fun _ _ => rfl
    | ⟨_, _, _, .ofNat 0⟩ :: ⟨_, _, _, .ofNat (n + 1)⟩ :: _ :: _ => exact ev_none fun _ _ => rfl
    | ⟨_, _, _, .ofNat 0⟩ :: ⟨_, _, _, .negSucc n⟩ :: _ :: _ => exact ev_none fun _ _ => rfl
    | ⟨_, _, _, .ofNat (n + 1)⟩ :: _ :: _ => exact ev_none fun _ _ => rfl
    | ⟨_, _, _, .negSucc n⟩ :: _ :: _ => exact ev_none fun _ _ => rfl
  | _ => exact ev_none fun _ _ => rfl
/-! statements -/
/-- what must hold behind a statement -/
def PostO (B : Bd) (μ ex : List Addr) (H : Hp) (o : Out) (D : Ends) : Prop :=
  match o with
  | .nx ρ st => ∀ μ' H' σ', Ext μ H μ' H' → S B μ' ex H' st → EnvR B μ' ex H' ρ σ' → D.nx σ' H'
  | .bk ρ st => ∀ μ' H' σ', Ext μ H μ' H' → S B μ' ex H' st → EnvR B μ' ex H' ρ σ' → D.bk σ' H'
  | .ct ρ st => ∀ μ' H' σ', Ext μ H μ' H' → S B μ' ex H' st → EnvR B μ' ex H' ρ σ' → D.ct σ' H'
  | .rt w st => Post B μ ex H w st D.rt
theorem PostO.ext {B : Bd} {μ ex μ' : List Addr} {H H' : Hp} {o : Out} {D : Ends} (q : PostO B μ ex H o D) (x : Ext μ H μ' H') : PostO B μ' ex H' o D := by
  cases o with
  | nx ρ st => exact fun μ2 H2 σ2 x2 => q μ2 H2 σ2 (x.trans x2)
  | bk ρ st => exact fun μ2 H2 σ2 x2 => q μ2 H2 σ2 (x.trans x2)
  | ct ρ st => exact fun μ2 H2 σ2 x2 => q μ2 H2 σ2 (x.trans x2)
  | rt w st => exact Post.ext q x
def tO (B : Bd) (f : Rho → Sto → Option Out) : TS := fun D σ H => ∃ ρ st μ ex o,
  EnvR B μ ex H ρ σ ∧ S B μ ex H st ∧ f ρ st = some o ∧ PostO B μ ex H o D
theorem ps_mono {X : Cx} {s : Stmt} {t t' : TS} (h : PS X s t) (m : ∀ D σ H, t' D σ H → t D σ H) : PS X s t' := ⟨fun pins s σ H D I q => h.run pins s σ H D I (m D σ H q)⟩
theorem pss_mono {X : Cx} {s : List Stmt} {t t' : TS} (h : PSs X s t) (m : ∀ D σ H, t' D σ H → t D σ H) : PSs X s t' := ⟨fun pins s σ H D I q => h.run pins s σ H D I (m D σ H q)⟩
theorem ps_none {s0 : Stmt} {f : Rho → Sto → Option Out} (h : ∀ ρ st, f ρ st = none) : PS X s0 (tO (bd fa X) f) :=
  ⟨fun pins s σ H D I ⟨ρ, st, μ, ex, o, er, s', e, q⟩ => by rw [h] at e; cases e⟩
theorem ok_seq {f : Stmt → Rho → Sto → Option Out} (h : ∀ s, PS X s (tO (bd fa X) (f s))) : ∀ ss, PSs X ss (tO (bd fa X) (seqS f ss))
  | [] => pss_mono pss_nil fun D σ H ⟨ρ, st, μ, ex, o, er, s, e, q⟩ => by cases e; exact q μ H σ (Ext.refl _ _) s er
  | s0 :: ss => by
    refine pss_mono (pss_cons (h s0) (ok_seq h ss)) fun D σ H ⟨ρ, st, μ, ex, o, er, s, e, q⟩ => ?_
    unfold seqS at e
    obtain ⟨o1, e1, e2⟩ := Option.bind_eq_some_iff.mp e
    refine ⟨ρ, st, μ, ex, o1, er, s, e1, ?_⟩
    cases o1 with
    | nx ρ1 st1 => exact fun μ1 H1 σ1 x1 s1 er1 => ⟨ρ1, st1, μ1, ex, o, er1, s1, e2, q.ext x1⟩
    | bk ρ1 st1 => cases e2; exact q
    | ct ρ1 st1 => cases e2; exact q
    | rt w st1 => cases e2; exact q
end
end MP
namespace MP
open PySem L2 PySem.Spec PyProof.Rows

section
variable {c : Cfg} {fa : Str → Option Addr} {X : Cx} {sc : Scope} {k : Nat}
theorem sw_no {e : Expr} {tgt : Option Expr} {l : Nat} {env : PySem.Env} (h : isComp e = false) : swapsWith e tgt l env = pure false := by
  cases e <;> first | rfl | cases h
theorem isLC1_form {e : Expr} (h : isLC1 e = true) : ∃ elt tg iter ifs scope pos, e = .ListComp elt [⟨tg, iter, ifs, 0⟩] scope pos := by
  cases e <;> first | (cases h; done) | skip
  next elt gs scope pos =>
  match gs with
  | [] => cases h
  | [⟨tg, iter, ifs, .ofNat 0⟩] => exact ⟨elt, tg, iter, ifs, scope, pos, rfl⟩
  | [⟨tg, iter, ifs, .ofNat (n + 1)⟩] => cases h
  | [⟨tg, iter, ifs, .negSucc n⟩] => cases h
  | ⟨_, _, _, .ofNat 0⟩ :: _ :: _ => cases h
  | ⟨_, _, _, .ofNat (n + 1)⟩ :: _ :: _ => cases h
  | ⟨_, _, _, .negSucc n⟩ :: _ :: _ => cases h
theorem isLC2_form {e : Expr} (h : isLC2 e = true) : ∃ elt tg iter ifs tg1 iter1 ifs1 scope pos, e = .ListComp elt [⟨tg, iter, ifs, 0⟩, ⟨tg1, iter1, ifs1, 0⟩] scope pos := by
  cases e <;> first | (cases h; done) | skip
  next elt gs scope pos =>
  match gs with
  | [] => cases h
  | [⟨tg, iter, ifs, .ofNat 0⟩] => cases h
  | [⟨tg, iter, ifs, .ofNat 0⟩, ⟨tg1, iter1, ifs1, .ofNat 0⟩] => exact ⟨elt, tg, iter, ifs, tg1, iter1, ifs1, scope, pos, rfl⟩
  | [⟨tg, iter, ifs, .ofNat 0⟩, ⟨tg1, iter1, ifs1, .ofNat (n + 1)⟩] => cases h
  | [⟨tg, iter, ifs, .ofNat 0⟩, ⟨tg1, iter1, ifs1, .negSucc n⟩] => cases h
  | ⟨tg, iter, ifs, .ofNat 0⟩ :: ⟨tg1, iter1, ifs1, .ofNat 0⟩ :: _ :: _ => cases h
  | ⟨tg, iter, ifs, .ofNat 0⟩ :: ⟨tg1, iter1, ifs1, .ofNat (n + 1)⟩ :: _ :: _ => cases h
  | ⟨tg, iter, ifs, .ofNat 0⟩ :: ⟨tg1, iter1, ifs1, .negSucc n⟩ :: _ :: _ => cases h
  | ⟨tg, iter, ifs, .ofNat (n + 1)⟩ :: _ => cases h
  | ⟨tg, iter, ifs, .negSucc n⟩ :: _ => cases h
/-- x = e, whatever e -/
theorem asg_rule {r : Rec} {t : TE} (ro : RecOk c fa k r) (ok : Ok c fa X sc k) (hfn : ∀ x, X.fn x = true) {x : Str} {px pos : Pos} {e : Expr} {i : Nat} (hs : slot x c.N = some i) (ha : asB allB sc x = true)
    (he : PE X e t) (hcomp : isComp e = true → (isLC1 e = true ∧ t = tWf (bd fa X) (evE c r sc e)) ∨ (isLC2 e = true ∧ t = tW (bd fa X) (evE c r sc e))) : PS X (.Assign [.Name x px] e pos) (tAsg t (gName i)) := by
  obtain ⟨h1, h2⟩ := asB_ok ok (fun x _ => hfn x) ha
  by_cases hc : isComp e = true
  · rcases hcomp hc with ⟨hl, ht⟩ | ⟨hl, ht⟩
    · obtain ⟨elt, tg, iter, ifs, scope, p, rfl⟩ := isLC1_form hl
      by_cases hsw : X.env.blockKind = .function ∧ X.env.kindOf x = some .local ∧ (px.line == p.line) = true ∧ (scope.names.any fun (n, k) => n == x && (k == .local || k == .cell)) = false
      · rw [ht]
        have hl2 : sc.names.lookup x = some .local := by
          have := hsw.2.1
          unfold PySem.Env.kindOf at this
          rwa [ok.scE] at this
        refine ps_LC ro ok elt tg iter ifs scope p hs hl2 ?_
        exact sw_true (by rw [ok.scE]; exact ok.kind) (by rw [ok.scE]; exact hl2) hsw.2.2.1 hsw.2.2.2
      · refine ps_set (by rw [ok.N]; exact ok.nd) (by rw [ok.N]; exact slot_ok hs) h1 he ?_ h2
        show (pure (_ : Bool) : Sem Bool) = pure false
        congr 1
        cases hq : (X.env.blockKind == .function && X.env.kindOf x == some .local && px.line == p.line && !(scope.names.any fun (n, k) => n == x && (k == .local || k == .cell))) with
        | false => exact hq
        | true =>
          refine absurd ?_ hsw
          simp only [Bool.and_eq_true, Bool.not_eq_true'] at hq
          exact ⟨eq_of_beq hq.1.1.1, eq_of_beq hq.1.1.2, hq.1.2, hq.2⟩
    · obtain ⟨elt, tg, iter, ifs, tg1, iter1, ifs1, scope, p, rfl⟩ := isLC2_form hl
      by_cases hsw : X.env.blockKind = .function ∧ X.env.kindOf x = some .local ∧ (px.line == p.line) = true ∧ (scope.names.any fun (n, k) => n == x && (k == .local || k == .cell)) = false
      · rw [ht]
        have hl2 : sc.names.lookup x = some .local := by
          have := hsw.2.1
          unfold PySem.Env.kindOf at this
          rwa [ok.scE] at this
        refine ps_LC2 ro ok elt tg iter tg1 iter1 ifs ifs1 scope p hs hl2 ?_
        exact sw_true (by rw [ok.scE]; exact ok.kind) (by rw [ok.scE]; exact hl2) hsw.2.2.1 hsw.2.2.2
      · refine ps_set (by rw [ok.N]; exact ok.nd) (by rw [ok.N]; exact slot_ok hs) h1 he ?_ h2
        show (pure (_ : Bool) : Sem Bool) = pure false
        congr 1
        cases hq : (X.env.blockKind == .function && X.env.kindOf x == some .local && px.line == p.line && !(scope.names.any fun (n, k) => n == x && (k == .local || k == .cell))) with
        | false => exact hq
        | true =>
          refine absurd ?_ hsw
          simp only [Bool.and_eq_true, Bool.not_eq_true'] at hq
          exact ⟨eq_of_beq hq.1.1.1, eq_of_beq hq.1.1.2, hq.1.2, hq.2⟩
  · exact ps_set (by rw [ok.N]; exact ok.nd) (by rw [ok.N]; exact slot_ok hs) h1 he (sw_no (by simpa using hc)) h2
/-- the forms that make a new list -/
theorem ok_fresh {r : Rec} (ro : RecOk c fa k r) (ok : Ok c fa X sc k) {e : Expr} (hf : isFresh e = true) (hl : isLC1 e = true ∨ (("list" : Str) ∈ c.g.bs ∧ c.g.fns.lookup ("list" : Str) = none) ∨ isList e = true) : PE X e (tWf (bd fa X) (evE c r sc e)) := by
  by_cases h1 : isLC1 e = true
  · obtain ⟨elt, tg, iter, ifs, scope, p, rfl⟩ := isLC1_form h1
    exact ok_ListCompF ro ok elt tg iter ifs scope p
  by_cases h2 : isList e = true
  · cases e <;> first | (cases h2; done) | skip
    · exact ok_DictF ro ok _ _ _
    · exact ok_ListF ro ok _ _
  have h3 := (hl.resolve_left h1).resolve_right h2
  cases e <;> first | (cases hf; done) | (exact absurd rfl h2) | skip
  · next elt gs scope pos =>
    exfalso
    apply h1
    match gs with
    | [] => cases hf
    | [⟨tg, iter, ifs, .ofNat 0⟩] => rfl
    | [⟨tg, iter, ifs, .ofNat (n + 1)⟩] => cases hf
    | [⟨tg, iter, ifs, .negSucc n⟩] => cases hf
    | ⟨_, _, _, .ofNat 0⟩ :: _ :: _ => cases hf
    | ⟨_, _, _, .ofNat (n + 1)⟩ :: _ :: _ => cases hf
    | ⟨_, _, _, .negSucc n⟩ :: _ :: _ => cases hf
  · next f es kws pos =>
    cases kws with
    | cons z zs => cases f <;> cases es <;> cases hf
    | nil =>
      cases f <;> first | (cases es <;> cases hf; done) | skip
      next x p =>
      cases es with
      | nil => cases hf
      | cons e0 es =>
        have hf2 : (x == ("list" : Str) && (specOf x (e0 :: es)).isNone) = true := hf
        rw [Bool.and_eq_true] at hf2
        have hx : x = ("list" : Str) := eq_of_beq hf2.1
        subst hx
        have hz : specOf "list" (e0 :: es) = none := by simpa using hf2.2
        by_cases hg : glB sc "list" = true
        · exact bltn_callF ro ok h3.2 h3.1 p (e0 :: es) pos hz hg (by decide +kernel) (.inr ⟨_, by decide +kernel, cb_listF ok.calm⟩)
        · exact pe_false fun σ H Q ⟨ρ, st, μ, ex, w, st', er, s, e, q⟩ => by simp [evE, hz, hg] at e
/-- the store with one thing more: from ahead of its making -/
theorem S.grow {B : Bd} {μ ex : List Addr} {H : Hp} {st : Sto} {p : Addr} {o : O} {ho : HO} (s : S B μ ex H st) (n : H p = none) (h : OR B μ ex H o p (some ho)) :
    Chg μ ex H (μ ++ [p]) ex (upd H p ho) ∧ S B (μ ++ [p]) ex (upd H p ho) (st ++ [o]) := by
  obtain ⟨x, s', np, nx⟩ := s.new (o := ho) n
  have cg : Chg μ ex H (μ ++ [p]) ex (upd H p ho) := by
    refine ⟨fun i a h => by rw [List.getElem?_append_left (List.getElem?_eq_some_iff.mp h).1]; exact h, fun a u na nxa h _ => ?_⟩
    have hap : a ≠ p := ne_of_none h n
    refine ⟨by rw [upd_ne hap]; exact h, fun z => ?_, nxa⟩
    rcases List.mem_append.mp z with z | z
    · exact na z
    · exact hap (by simpa using z)
  refine ⟨cg, ?_⟩
  have nd := s.nd
  rw [List.nodup_append] at nd
  refine ⟨?_, by simp [s.len], fun i o' e => ?_, s'.exs, s.tab.step fun b u nb q => ⟨by rw [upd_ne (ne_of_none q n)]; exact q, fun z => (List.mem_append.mp z).elim nb.1 fun z => ne_of_none q n (by simpa using z), nb.2⟩⟩
  · rw [List.append_assoc, List.nodup_append]
    refine ⟨nd.1, List.nodup_cons.mpr ⟨nx, nd.2.1⟩, fun y hy z hz e => ?_⟩
    rcases List.mem_cons.mp hz with hz | hz
    · exact np (by rw [← hz, ← e]; exact hy)
    · exact nd.2.2 y hy z hz e
  · by_cases hl : i < st.length
    · rw [List.getElem?_append_left hl] at e
      obtain ⟨b, h1, h2⟩ := s.obj i o' e
      refine ⟨b, cg.ix i b h1, ?_⟩
      rw [upd_ne (fun z => np (by rw [← z]; exact List.mem_of_getElem? h1))]
      exact h2.chg cg
    · have hl2 : i < (st ++ [o]).length := (List.getElem?_eq_some_iff.mp e).1
      have hi : i = st.length := by simp at hl2; omega
      subst hi
      rw [List.getElem?_append_right (Nat.le_refl _), Nat.sub_self] at e
      cases e
      refine ⟨p, by rw [← s.len, List.getElem?_append_right (Nat.le_refl _), Nat.sub_self]; rfl, ?_⟩
      rw [upd_same]
      exact h.chg cg

end
end MP
namespace MP
open PySem L2 PySem.Spec PyProof.Rows

section
variable {X : Cx}
theorem pe_or2 {e : Expr} {t u : TE} (h : PE X e t) (h' : PE X e u) : PE X e fun σ H Q => t σ H Q ∨ u σ H Q := ⟨fun pins s σ H Q I q => q.elim (h.run pins s σ H Q I) (h'.run pins s σ H Q I)⟩
theorem pa_or2 {e : List Expr} {t u : TA} (h : PA X e t) (h' : PA X e u) : PA X e fun σ H Q => t σ H Q ∨ u σ H Q := ⟨fun pos pins s σ H Q I q => q.elim (h.run pos pins s σ H Q I) (h'.run pos pins s σ H Q I)⟩
theorem ps_or2 {e : Stmt} {t u : TS} (h : PS X e t) (h' : PS X e u) : PS X e fun D σ H => t D σ H ∨ u D σ H := ⟨fun pins s σ H D I q => q.elim (h.run pins s σ H D I) (h'.run pins s σ H D I)⟩
theorem pss_or2 {e : List Stmt} {t u : TS} (h : PSs X e t) (h' : PSs X e u) : PSs X e fun D σ H => t D σ H ∨ u D σ H := ⟨fun pins s σ H D I q => q.elim (h.run pins s σ H D I) (h'.run pins s σ H D I)⟩
theorem PostZ.ext {B : Bd} {μ ex μ' : List Addr} {H H' : Hp} {x : Exn} {st : Sto} {E : XK} (q : PostZ B μ ex H x st E) (e : Ext μ H μ' H') : PostZ B μ' ex H' x st E := fun μ2 H2 cls d x2 s r => q μ2 H2 cls d (e.trans x2) s r
end
section
variable {c : Cfg} {fa : Str → Option Addr} {X : Cx} {sc : Scope} {k : Nat} {r : Rec} {q0 : RecZ} {W0 : WX}
theorem z_false {e0 : Expr} {f : Rho → Sto → Option (Exn × Sto)} (h : ∀ ρ st, f ρ st = none) : PE X e0 (fun σ H _ => tZ (bd fa X) f W0 σ H) :=
  pe_false fun σ H Q ⟨ρ, st, μ, ex, w, st', er, s, e, q⟩ => by rw [h] at e; cases e
theorem ok_zlist {f : Expr → Rho → Sto → Option (W × Sto)} {z : Expr → Rho → Sto → Option (Exn × Sto)} (h : ∀ e, PE X e (tW (bd fa X) (f e))) (hz : ∀ e, PE X e (fun σ H _ => tZ (bd fa X) (z e) W0 σ H)) :
    ∀ es, PA X es (fun σ H _ => tZ (bd fa X) (rzList f z es) W0 σ H)
  | [] => ⟨fun pos pins s σ H Q I ⟨ρ, st, μ, ex, x, st', er, s', e, q⟩ => by cases e⟩
  | e :: es => by
    by_cases hs : isStar e = true
    · exact ⟨fun pos pins s σ H Q I ⟨ρ, st, μ, ex, x, st', er, s', e', q⟩ => by simp [rzList, hs] at e'⟩
    · refine pa_mono (pa_cons (pe_or2 (h e) (hz e)) (ok_zlist h hz es) (star_no (by simpa using hs))) fun σ H Q ⟨ρ, st, μ, ex, x, st', er, s, e', q⟩ => ?_
      unfold rzList at e'
      rw [if_neg hs] at e'
      split at e'
      · next y hy => cases e'; exact .inr ⟨ρ, st, μ, ex, _, _, er, s, hy, q⟩
      · next hy =>
        obtain ⟨⟨w, st1⟩, e1, e2⟩ := Option.bind_eq_some_iff.mp e'
        exact .inl ⟨ρ, st, μ, ex, w, st1, er, s, e1, fun μ1 H1 v x1 s1 r1 => ⟨ρ, st1, μ1, ex, x, st', er.ext x1, s1, e2, q.ext x1⟩⟩
/-- the second of two raises, or the first -/
theorem two_z {f : Expr → Rho → Sto → Option (W × Sto)} {z : Expr → Rho → Sto → Option (Exn × Sto)} {a b : Expr} {σ : L2.St} {H : Hp} (h : tZ (bd fa X) (rzList f z [a, b]) W0 σ H) :
    (tW (bd fa X) (f a) σ H fun _ H1 => tZ (bd fa X) (z b) W0 σ H1) ∨ tZ (bd fa X) (z a) W0 σ H := by
  obtain ⟨ρ, st, μ, ex, x, st', er, s, e, q⟩ := h
  unfold rzList at e
  split at e
  · cases e
  split at e
  · next y hy => cases e; exact .inr ⟨ρ, st, μ, ex, _, _, er, s, hy, q⟩
  · next hy =>
    obtain ⟨⟨w, st1⟩, e1, e2⟩ := Option.bind_eq_some_iff.mp e
    dsimp only at e2
    unfold rzList at e2
    split at e2
    · cases e2
    split at e2
    · next y hy => cases e2; exact .inl ⟨ρ, st, μ, ex, w, st1, er, s, e1, fun μ1 H1 v x1 s1 r1 => ⟨ρ, st1, μ1, ex, _, _, er.ext x1, s1, hy, q.ext x1⟩⟩
    · next hy2 =>
      obtain ⟨⟨w2, st2⟩, e3, e4⟩ := Option.bind_eq_some_iff.mp e2
      cases e4
def ZOk (c : Cfg) (fa : Str → Option Addr) (k : Nat) (q0 : RecZ) : Prop := ∀ X sc W0, Ok c fa X sc k → L2N.Takes X W0 → ∀ e, PE X e (fun σ H _ => tZ (bd fa X) (q0.rz sc e) W0 σ H)

/-! a key that isn't there -/
theorem getK_any {κ : Type} [DecidableEq κ] {α : Type} {z : κ} : ∀ {kvs : List (κ × α)}, ((kvs.map (·.1)).any fun j => decide (j = z)) = false → (kvs.find? fun kv => decide (kv.1 = z)) = none
  | [], _ => rfl
  | p :: ps, h => by
    rw [List.map_cons, List.any_cons, Bool.or_eq_false_iff] at h
    rw [List.find?_cons, h.1]
    exact getK_any h.2
theorem valV_no {κ : Type} [DecidableEq κ] {z : κ} : ∀ {kvs : List (κ × V)}, ((kvs.map (·.1)).any fun j => decide (j = z)) = false → valV kvs z = none
  | [], _ => rfl
  | p :: ps, h => by
    rw [List.map_cons, List.any_cons, Bool.or_eq_false_iff] at h
    rw [valV_neg (of_decide_eq_false h.1)]
    exact valV_no h.2
theorem EnT.keys {xs : List (List Key × Addr × V)} {vs : List (List Key × Addr × Value)} (h : EnT xs vs) : vs.map (·.1) = xs.map (·.1) := by
  induction h with
  | nil => rfl
  | cons r t ih => rw [List.map_cons, List.map_cons, ih, r.1]
def rMiss (B : Bd) : V → V → Hp → Prop := fun x y H => ∃ a b μ ex, R B μ ex H a x ∧ R B μ ex H b y ∧ missW a b = some .key
theorem miss_run (hc : X.calm = true) (hu : X.A.units + 1 < cLine) (tk : L2N.Takes X W0) {a b : Expr} {pins : List (Addr × Obj)} {s : Shared} {σ : L2.St} {H : Hp} {x y : V} {v u : Value} {Q : VK} (I : Inv X pins σ H s) (rx : RelV x v) (ry : RelV y u)
    (h : rMiss (bd fa X) x y H) (w : ∀ d, W0 (.type "KeyError") d σ H) (hs : PlainIx b) : wpAny (model X.prog X.w) X.A (subscriptTail a b v u) (EP X pins σ Q) X.xe s := by
  obtain ⟨wa, wb, μ, ex, ra, rb, e⟩ := h
  unfold missW at e
  split at e
  · obtain ⟨k', e1, e2⟩ := Option.bind_eq_some_iff.mp e
    split at e2
    · cases e2
    next hn =>
    obtain ⟨a1, kvs, rfl, f1, rfl, r1⟩ := ra
    have ek := keyOf_ok rb e1
    subst ek
    cases rx
    have g : DGet H a1 (kV k') none := by rw [← valV_no (z := k') ((Bool.not_eq_true _).mp hn)]; exact DGet.k f1.1
    exact tail_any (dict_typeIs I g) PySem.F.slot_dict_getitem.lookup (d_missing hu (I.ok.hd hc) I g ry fun h' e' t' ne => L2N.takes_newN (t' := t') tk I ne w) (hs _ _)
  · obtain ⟨k', e1, e2⟩ := Option.bind_eq_some_iff.mp e
    split at e2
    · cases e2
    next hn =>
    obtain ⟨a1, kvs, rfl, f1, kt, rfl, r1⟩ := ra
    obtain ⟨b1, ys, rfl, f2, r3⟩ := rb
    have ek := keysOf_ok r3 e1
    subst ek
    cases rx
    cases ry
    obtain ⟨_, hd, vs, en, dd⟩ := dt_at I f1.1 kt
    have hno : atKey vs k' = none := by
      have h := getK_any (kvs := vs) (z := k') (by rw [en.keys]; exact (Bool.not_eq_true _).mp hn)
      show (vs.find? fun kv => decide (kv.1 = k')).map (·.2) = none
      rw [h]
      rfl
    exact tail_any dd.typeIs PySem.F.slot_dict_getitem.lookup (wpAny_getItem_missing_heap (tupleKind_room_in1 hu) (key_sq I f2.sq) hd (I.ok.hd hc) dd hno fun h' e' ne => L2N.takes_newN (t' := _) tk I ne w) (hs _ _)
  · cases e
theorem pe_miss (hc : X.calm = true) (hu : X.A.units + 1 < cLine) (tk : L2N.Takes X W0) {a b : Expr} {ta tb : TE} {pos : Pos} (ha : PE X a ta) (hb : PE X b tb) (hs : PlainIx b) :
    PE X (.Subscript a b pos) (fun σ H Q => ta σ H fun x H1 => tb σ H1 fun y H2 => rMiss (bd fa X) x y H2 ∧ ∀ d, W0 (.type "KeyError") d σ H2) := by
  refine ⟨fun pins s σ H Q I h => ?_⟩
  refine Subscript_ (binT ha hb I (R := fun x y H2 => rMiss (bd fa X) x y H2 ∧ ∀ d, W0 (.type "KeyError") d σ H2) h fun v u s2 x y H2 I2 rx ry q => ?_)
  exact miss_run hc hu tk I2 rx ry q.1 q.2 hs
theorem miss_key {a b : W} {x : Exn} (h : missW a b = some x) : x = .key := by
  unfold missW at h
  split at h
  · obtain ⟨k', e1, e2⟩ := Option.bind_eq_some_iff.mp h
    split at e2 <;> cases e2
    rfl
  · obtain ⟨k', e1, e2⟩ := Option.bind_eq_some_iff.mp h
    split at e2 <;> cases e2
    rfl
  · cases h
theorem ok_zIndex (ro : RecOk c fa k r) (zo : ZOk c fa k q0) (ok : Ok c fa X sc k) (tk : L2N.Takes X W0) (a b : Expr) (pos : Pos) : PE X (.Subscript a b pos) (fun σ H _ => tZ (bd fa X) (rzE c r q0 sc (.Subscript a b pos)) W0 σ H) := by
  by_cases hb : isSlice b = true
  · exact z_false fun ρ st => by simp [rzE, hb]
  have pl : PlainIx b := plainIx (by simpa using hb)
  refine pe_mono (pe_or2 (pe_ix (ixW_ok (fa := fa) (units1 ok)) (pe_or2 ((ro X sc ok).1 a) (zo X sc W0 ok tk a)) (zo X sc W0 ok tk b) pl) (pe_miss (fa := fa) ok.calm (units1 ok) tk ((ro X sc ok).1 a) ((ro X sc ok).1 b) pl)) fun σ H Q ⟨ρ, st, μ, ex, x, st', er, s, e, q⟩ => ?_
  simp only [rzE, hb, Bool.false_eq_true, if_false] at e
  split at e
  · next y hy =>
    cases e
    exact .inl (two_z ⟨ρ, st, μ, ex, _, _, er, s, hy, q⟩)
  · obtain ⟨⟨u, st1⟩, e1, e2⟩ := Option.bind_eq_some_iff.mp e
    obtain ⟨⟨v, st2⟩, e3, e4⟩ := Option.bind_eq_some_iff.mp e2
    obtain ⟨y, e5, e6⟩ := Option.map_eq_some_iff.mp e4
    cases e6
    have := miss_key e5
    subst this
    refine .inr ⟨ρ, st, μ, ex, u, st1, er, s, e1, fun μ1 H1 vx x1 s1 r1 => ⟨ρ, st1, μ1, ex, v, st2, er.ext x1, s1, e3, fun μ2 H2 vy x2 s2 r2 => ⟨⟨u, v, μ2, ex, r1.ext x2, r2, e5⟩, fun d => ?_⟩⟩⟩
    exact q μ2 H2 _ d (x1.trans x2) s2 rfl
theorem ok_zCompare (ro : RecOk c fa k r) (zo : ZOk c fa k q0) (ok : Ok c fa X sc k) (tk : L2N.Takes X W0) (a b : Expr) (op : CmpOp) (pos : Pos) : PE X (.Compare a [op] [b] pos) (fun σ H _ => tZ (bd fa X) (rzE c r q0 sc (.Compare a [op] [b] pos)) W0 σ H) := by
  by_cases hm : behindInMarks op b = false
  · refine pe_mono (pe_cmpR (cmp_ok (fa := fa) (units_ok ok) op) (pe_or2 ((ro X sc ok).1 a) (zo X sc W0 ok tk a)) (zo X sc W0 ok tk b) hm) fun σ H Q h => two_z ?_
    obtain ⟨ρ, st, μ, ex, x, st', er, s, e, q⟩ := h
    simp only [rzE, hm, if_true] at e
    exact ⟨ρ, st, μ, ex, x, st', er, s, e, q⟩
  · exact z_false fun ρ st => by simp [rzE, hm]
theorem ok_zAnd (ro : RecOk c fa k r) (zo : ZOk c fa k q0) (ok : Ok c fa X sc k) (tk : L2N.Takes X W0) (a b : Expr) (es : List Expr) (pos : Pos) : PE X (.BoolOp .And (a :: b :: es) pos) (fun σ H _ => tZ (bd fa X) (rzE c r q0 sc (.BoolOp .And (a :: b :: es) pos)) W0 σ H) := by
  refine pe_mono (pe_and (pe_or2 ((ro X sc ok).1 a) (zo X sc W0 ok tk a)) (zo X sc W0 ok tk (.BoolOp .And (b :: es) pos))) fun σ H Q ⟨ρ, st, μ, ex, x, st', er, s, e, q⟩ => ?_
  simp only [rzE] at e
  split at e
  · next y hy => cases e; exact .inr ⟨ρ, st, μ, ex, _, _, er, s, hy, q⟩
  · obtain ⟨⟨u, st1⟩, e1, e2⟩ := Option.bind_eq_some_iff.mp e
    refine .inl ⟨ρ, st, μ, ex, u, st1, er, s, e1, fun μ1 H1 vx x1 s1 r1 => ?_⟩
    cases u <;> first | (cases e2; done) | skip
    next b0 =>
    refine ⟨b0, r1, ?_⟩
    cases b0 with
    | true =>
      rw [if_pos rfl]
      exact ⟨ρ, st1, μ1, ex, x, st', er.ext x1, s1, by simpa using e2, q.ext x1⟩
    | false => simp at e2
theorem ok_zOr (ro : RecOk c fa k r) (zo : ZOk c fa k q0) (ok : Ok c fa X sc k) (tk : L2N.Takes X W0) (a b : Expr) (es : List Expr) (pos : Pos) : PE X (.BoolOp .Or (a :: b :: es) pos) (fun σ H _ => tZ (bd fa X) (rzE c r q0 sc (.BoolOp .Or (a :: b :: es) pos)) W0 σ H) := by
  refine pe_mono (pe_or (pe_or2 ((ro X sc ok).1 a) (zo X sc W0 ok tk a)) (zo X sc W0 ok tk (.BoolOp .Or (b :: es) pos))) fun σ H Q ⟨ρ, st, μ, ex, x, st', er, s, e, q⟩ => ?_
  simp only [rzE] at e
  split at e
  · next y hy => cases e; exact .inr ⟨ρ, st, μ, ex, _, _, er, s, hy, q⟩
  · obtain ⟨⟨u, st1⟩, e1, e2⟩ := Option.bind_eq_some_iff.mp e
    refine .inl ⟨ρ, st, μ, ex, u, st1, er, s, e1, fun μ1 H1 vx x1 s1 r1 => ?_⟩
    cases u <;> first | (cases e2; done) | skip
    next b0 =>
    refine ⟨b0, r1, ?_⟩
    cases b0 with
    | false =>
      rw [if_neg (by decide)]
      exact ⟨ρ, st1, μ1, ex, x, st', er.ext x1, s1, by simpa using e2, q.ext x1⟩
    | true => simp at e2
theorem passZ (tk : L2N.Takes X W0) : ∀ σ, PassesAt (L2N.CX X.prog X.w) X σ (WE W0 σ) := fun σ => L2N.passAt tk σ
/-- a local name that holds a def, called: it may raise -/
theorem pe_callLS {CX : CXT} {i : Nat} {f : Addr} {fd : FuncData} {ps : List Str} {sp : Sp} {E : L2.St → XK} {x : Str} {p pos : Pos} {e : Expr} {es : List Expr} {t : TA} (F : FnOk X.prog X.w X.K X.mg X.base CX k f fd ps sp) (hr : Room k X.A) (hN : X.N[i]? = some x) (hv : Vis X.env.scope x) (hk : PySem.W.keepIn X.K (.ref f) = true) (hb : Binds X.K fd ps []) (hx : ∀ σ, PassesAt CX X σ (E σ)) (ha : PA X (e :: es) t)
    (hdb : (x == ("__debug__" : Str)) = false) (hcd : (x == ("__classdict__" : Str)) = false)
    (he : starEach (e :: es) X.env = (false, eval e X.env) :: starEach es X.env) (hpl : (backTo pos (starEach es X.env)).any (·.1) = false) : PE X (.Call (.Name x p) (e :: es) [] pos) (fun σ H Q => σ[i]? = some (some (.ref f)) ∧ t σ H fun vs H1 => sp vs H1 Q (E σ)) := by
  refine ⟨fun pins s σ H Q I h => ?_⟩
  obtain ⟨hs, ht⟩ := h
  refine wpAny_Call_Name_kw (thn ((pe_var (pos := p) hN hv hdb hcd).run pins s σ H (fun v H1 => v = .ref f ∧ H1 = H) I ⟨.ref f, hs, rfl, rfl⟩) fun u s1 ⟨v, H1, I1, r1, q1⟩ => ?_)
  obtain ⟨rfl, rfl⟩ := q1
  cases r1
  refine PySem.W.callWith_K (h₀ := X.base) I.ok.mod.kin hk (thn (ha.run pos pins s1 σ _ _ I1 ht) fun us s2 ⟨vs, H2, I2, r, q⟩ => ⟨I2.kIn, ?_⟩) he hpl
  exact run_fnS F hr hb (hx σ) I2 r q
theorem stars_all : ∀ {es : List Expr}, (es.all fun e => !isStar e) = true → noStars es = true
  | [], _ => rfl
  | e :: es, h => by
    rw [List.all_cons, Bool.and_eq_true] at h
    simp only [noStars, h.1, stars_all h.2, Bool.true_and]
theorem ok_zCall (ro : RecOk c fa k r) (zo : ZOk c fa k q0) (ok : Ok c fa X sc k) (tk : L2N.Takes X W0) (f : Str) (p : Pos) (es : List Expr) (pos : Pos) : PE X (.Call (.Name f p) es [] pos) (fun σ H _ => tZ (bd fa X) (rzE c r q0 sc (.Call (.Name f p) es [] pos)) W0 σ H) := by
  have fin : ∀ {f' : Str} {d : Fn} {es : List Expr} {x : Exn} {st st' : Sto} {ρ : Rho} {μ ex : List Addr} {σ : L2.St} {H : Hp} {E : XK} {Q : VK}, EnvR (bd fa X) μ ex H ρ σ → S (bd fa X) μ ex H st → PostZ (bd fa X) μ ex H x st' (WE W0 σ) →
      (match rzList (r.ev sc) (q0.rz sc) es ρ st with | some x => some x | none => (evList (r.ev sc) es ρ st).bind fun (ws, st1) => if ws.length = d.ps.length then c.callR f' ws st1 else none) = some (x, st') →
      (tAs (bd fa X) (evList (r.ev sc) es) σ H fun vs H1 => spZ (bd fa X) c.callR f' d.ps.length vs H1 Q (WE W0 σ)) ∨ tZ (bd fa X) (rzList (r.ev sc) (q0.rz sc) es) W0 σ H := by
    intro f' d es x st st' ρ μ ex σ H E Q er s q e
    split at e
    · next y hy => cases e; exact .inr ⟨ρ, st, μ, ex, _, _, er, s, hy, q⟩
    · obtain ⟨⟨ws, st1⟩, e1, e2⟩ := Option.bind_eq_some_iff.mp e
      dsimp only at e2
      split at e2
      case isFalse => cases e2
      next hl => exact .inl ⟨ρ, st, μ, ex, ws, st1, er, s, e1, fun μ1 H1 vs x1 s1 r1 => ⟨ws, st1, μ1, ex, x, st', hl, r1, s1, e2, q.ext x1⟩⟩
  refine ⟨fun pins s σ H Q I ⟨ρ, st, μ, ex, x, st', er, hs, e, q⟩ => ?_⟩
  simp only [rzE] at e
  split at e
  · next hc =>
    obtain ⟨hg, hn, hne, hst⟩ := hc
    obtain ⟨h1, h2, h3⟩ := okName_ok hn
    obtain ⟨d, e3, e4⟩ := Option.bind_eq_some_iff.mp e
    obtain ⟨a, fd, g1, g2, kp, b, _, F, _⟩ := ok.fns f d e3
    cases es with
    | nil => cases hne
    | cons e0 es =>
      have hst := stars_all hst
      have hst' := hst
      simp only [noStars, Bool.and_eq_true, Bool.not_eq_true'] at hst'
      exact (pe_callS (E := WE W0) F ok.room (gl_ok ok hg) g2 kp b (passZ tk) (pa_or2 (ok_list (ro X sc ok).1 (e0 :: es)) (ok_zlist (ro X sc ok).1 (zo X sc W0 ok tk) (e0 :: es))) h1 (star_no hst'.1) (plain_of hst'.2)).run pins s σ H Q I (fin (E := WE W0 σ) er hs q e4)
  split at e
  · next hc =>
    obtain ⟨hg, hv, hn, hne, hst⟩ := hc
    obtain ⟨h1, h2, h3⟩ := okName_ok hn
    obtain ⟨w0, e1, e2⟩ := Option.bind_eq_some_iff.mp e
    cases w0 <;> first | (cases e2; done) | skip
    next h =>
    dsimp only at e2
    obtain ⟨d, e3, e4⟩ := Option.bind_eq_some_iff.mp e2
    unfold nameW at e1
    rw [if_pos hn, if_pos hv] at e1
    obtain ⟨i, e7, e8⟩ := Option.bind_eq_some_iff.mp e1
    obtain ⟨y, e9, rfl⟩ := Option.bind_eq_some_iff.mp e8
    obtain ⟨v, q1, a, rfl, q2⟩ := er.at_ i _ e9
    obtain ⟨a', fd, g1, g2, kp, b, _, F, _⟩ := ok.fns h d e3
    have : a = a' := Option.some.inj (q2.symm.trans g1)
    subst this
    cases es with
    | nil => cases hne
    | cons e0 es =>
      have hst := stars_all hst
      have hst' := hst
      simp only [noStars, Bool.and_eq_true, Bool.not_eq_true'] at hst'
      exact (pe_callLS (i := i) (E := WE W0) F ok.room (by rw [ok.N]; exact slot_ok e7) (vis_ok ok hv) kp b (passZ tk) (pa_or2 (ok_list (ro X sc ok).1 (e0 :: es)) (ok_zlist (ro X sc ok).1 (zo X sc W0 ok tk) (e0 :: es))) h1 h2 (star_no hst'.1) (plain_of hst'.2)).run pins s σ H Q I ⟨q1, fin (E := WE W0 σ) er hs q e4⟩
  · cases e
theorem ok_z (ro : RecOk c fa k r) (zo : ZOk c fa k q0) (ok : Ok c fa X sc k) (tk : L2N.Takes X W0) (e : Expr) : PE X e (fun σ H _ => tZ (bd fa X) (rzE c r q0 sc e) W0 σ H) := by
  cases e with
  | Tuple es j pos => exact pe_mono (pe_tup (ok_zlist (ro X sc ok).1 (zo X sc W0 ok tk) es)) fun σ H Q h => h
  | Compare a ops cs pos =>
    match ops, cs with
    | [op], [b] => exact ok_zCompare ro zo ok tk a b op pos
    | [], _ => exact z_false fun _ _ => rfl
    | _ :: _ :: _, _ => exact z_false fun _ _ => rfl
    | [_], [] => exact z_false fun _ _ => rfl
    | [_], _ :: _ :: _ => exact z_false fun _ _ => rfl
  | BoolOp op es pos =>
    match es with
    | [] => exact z_false fun _ _ => by cases op <;> rfl
    | [a] => exact pe_mono (show PE X (.BoolOp op [a] pos) _ from by cases op <;> exact pe_one (zo X sc W0 ok tk a)) fun σ H Q h => by cases op <;> exact h
    | a :: b :: es =>
      cases op with
      | And => exact ok_zAnd ro zo ok tk a b es pos
      | Or => exact ok_zOr ro zo ok tk a b es pos
  | Subscript a b pos => exact ok_zIndex ro zo ok tk a b pos
  | Call f es kws pos =>
    cases kws with
    | nil =>
      cases f with
      | Name x p => exact ok_zCall ro zo ok tk x p es pos
      | _ => exact z_false fun _ _ => rfl
    | cons z zs => exact z_false fun _ _ => by cases f <;> rfl
  | _ => exact z_false fun _ _ => rfl
theorem ok_zF1 {W0 : WX} (ro : RecOk c fa k r) (ok : Ok c fa X sc k) (tk : L2.Takes X W0) (e0 : Expr) : PE X e0 (fun σ H _ => tZ (bd fa X) (rzF1 c r sc e0) W0 σ H) := by
  by_cases hc : ∃ f p es pos, e0 = .Call (.Name f p) es [] pos
  case neg =>
   exact z_false fun ρ st => by
    unfold rzF1
    split
    · exact absurd ⟨_, _, _, _, rfl⟩ hc
    · rfl
  obtain ⟨f, p, es, pos, rfl⟩ := hc
  refine ⟨fun pins s σ H Q I ⟨ρ, st, μ, ex, x, st', er, hs, e, q⟩ => ?_⟩
  unfold rzF1 at e
  dsimp only at e
  split at e
  case isFalse => cases e
  next hc =>
  obtain ⟨hg, hn, hne, hst⟩ := hc
  obtain ⟨h1, h2, h3⟩ := okName_ok hn
  obtain ⟨d, e3, e4⟩ := Option.bind_eq_some_iff.mp e
  obtain ⟨⟨ws, st1⟩, e5, e6⟩ := Option.bind_eq_some_iff.mp e4
  dsimp only at e6
  split at e6
  case isFalse => cases e6
  next hl =>
  obtain ⟨a, fd, g1, g2, kp, b, F⟩ := ok.fnsF f d e3
  cases es with
  | nil => cases hne
  | cons e0 es =>
    have hst := stars_all hst
    have hst' := hst
    simp only [noStars, Bool.and_eq_true, Bool.not_eq_true'] at hst'
    exact (pe_callS (E := WE W0) F ok.room (gl_ok ok hg) g2 kp b (fun σ => L2.passAt tk σ) (ok_list (ro X sc ok).1 (e0 :: es)) h1 (star_no hst'.1) (plain_of hst'.2)).run pins s σ H Q I
      ⟨ρ, st, μ, ex, ws, st1, er, hs, e5, fun μ1 H1 vs x1 s1 r1 => ⟨ws, st1, μ1, ex, x, st', hl, r1, s1, e6, q.ext x1⟩⟩
/-! all of it, step by step -/
theorem rec0_ok : ∀ (n : Nat) (c : Cfg), RecOk c fa k (recN0 c n) ∧ ZOk c fa k (recZ0 c n)
  | 0, c => ⟨fun X sc ok => ⟨fun e => pe_false fun σ H Q ⟨ρ, st, μ, ex, w, st', er, s, e, q⟩ => (by cases e), fun e => pt_false fun σ H Q ⟨ρ, st, μ, ex, w, st', er, s, e, q⟩ => (by cases e)⟩, fun X sc W0 ok tk e => z_false fun _ _ => rfl⟩
  | n + 1, c => by
    obtain ⟨ro, zo⟩ := rec0_ok n c
    have rl : RecL c fa k (recN0 c n) := fun X sc ok => by
      cases n with
      | zero => exact ⟨fun e => pe_false fun σ H Q ⟨ρ, st, μ, ex, w, st', er, s, e, q⟩ => (by cases e), fun W0 tk e => z_false fun _ _ => rfl⟩
      | succ n => exact ⟨fun e => pe_false fun σ H Q ⟨ρ, st, μ, ex, w, st', er, s, e, q⟩ => (by cases e), fun W0 tk e => z_false fun _ _ => rfl⟩
    exact ⟨fun X sc ok => ⟨fun e => ok_ev ro rl ok e, fun e => ok_ts ro ok e⟩, fun X sc W0 ok tk e => ok_z ro zo ok tk e⟩
theorem recL_ok (c : Cfg) : ∀ n : Nat, RecL c fa k (recN c n)
  | 0 => fun X sc ok => ⟨fun e => pe_false fun σ H Q ⟨ρ, st, μ, ex, w, st', er, s, e, q⟩ => (by cases e), fun W0 tk e => z_false fun _ _ => rfl⟩
  | n + 1 => fun X sc ok => by
    obtain ⟨ro, zo⟩ := rec0_ok (fa := fa) (k := k) n c.bare
    exact ⟨fun e => (ro X sc ok).1 e, fun W0 tk e => ok_zF1 ro ok tk e⟩
theorem rec_ok : ∀ n : Nat, RecOk c fa k (recN c n)
  | 0 => fun X sc ok => ⟨fun e => pe_false fun σ H Q ⟨ρ, st, μ, ex, w, st', er, s, e, q⟩ => (by cases e), fun e => pt_false fun σ H Q ⟨ρ, st, μ, ex, w, st', er, s, e, q⟩ => (by cases e)⟩
  | n + 1 => fun X sc ok => ⟨fun e => ok_ev (rec_ok n) (recL_ok c n) ok e, fun e => ok_ts (rec_ok n) ok e⟩
theorem z_ok : ∀ n : Nat, ZOk c fa k (recZ c n)
  | 0 => fun X sc W0 ok tk e => z_false fun _ _ => rfl
  | n + 1 => fun X sc W0 ok tk e => ok_z (rec_ok n) (z_ok n) ok tk e

/-! statements that raise -/
def tZS (B : Bd) (f : Rho → Sto → Option (Exn × Rho × Sto)) (W0 : WX) (σ : L2.St) (H : Hp) : Prop := ∃ ρ st μ ex x ρ' st',
  EnvR B μ ex H ρ σ ∧ S B μ ex H st ∧ f ρ st = some (x, ρ', st') ∧ ∀ μ' H' σ' cls d, Ext μ H μ' H' → S B μ' ex H' st' → EnvR B μ' ex H' ρ' σ' → XR B μ' ex H' x cls d → W0 cls d σ' H'
theorem tZS_of {B : Bd} {f : Rho → Sto → Option (Exn × Sto)} {σ : L2.St} {H : Hp} (h : tZS B (fun ρ st => (f ρ st).map fun (x, st1) => (x, ρ, st1)) W0 σ H) : tZ B f W0 σ H := by
  obtain ⟨ρ, st, μ, ex, x, ρ', st', er, s, e, q⟩ := h
  obtain ⟨⟨y, st1⟩, e1, e2⟩ := Option.map_eq_some_iff.mp e
  cases e2
  exact ⟨ρ, st, μ, ex, _, _, er, s, e1, fun μ1 H1 cls d x1 s1 r1 => q μ1 H1 σ cls d x1 s1 (er.ext x1) r1⟩
theorem zs_none {s0 : Stmt} {f : Rho → Sto → Option (Exn × Rho × Sto)} (h : ∀ ρ st, f ρ st = none) : PS X s0 (fun _ σ H => tZS (bd fa X) f W0 σ H) :=
  ⟨fun pins s σ H D I ⟨ρ, st, μ, ex, x, ρ', st', er, s', e, q⟩ => by rw [h] at e; cases e⟩
theorem ok_zS (ok : Ok c fa X sc k) (hfn : ∀ x, X.fn x = true) (tk : L2N.Takes X W0) (n : Nat) (s0 : Stmt) : PS X s0 (fun _ σ H => tZS (bd fa X) (rzS c sc (recZ c n) s0) W0 σ H) := by
  have zo : ZOk c fa k (recZ c n) := z_ok n
  cases s0 with
  | Return v p =>
    cases v with
    | none => exact zs_none fun _ _ => rfl
    | some e0 => exact ps_mono (ps_ret (zo X sc W0 ok tk e0)) fun D σ H h => tZS_of h
  | Expr e0 p =>
    by_cases hc : isComp e0 = true
    · exact zs_none fun ρ st => if_pos hc
    · refine ps_mono (ps_expr (zo X sc W0 ok tk e0) (sw_no (by simpa using hc))) fun D σ H ⟨ρ, st, μ, ex, x, ρ', st', er, s, e, q⟩ => tZS_of ⟨ρ, st, μ, ex, x, ρ', st', er, s, ?_, q⟩
      simp only [rzS] at e
      rw [if_neg hc] at e
      split at e
      · cases e
      · exact e
  | Assign tgs e0 p =>
    match tgs with
    | [] => exact zs_none fun _ _ => rfl
    | _ :: _ :: _ => exact zs_none fun _ _ => by first | rfl | (simp only [rzS])
    | [.Name x px] =>
      by_cases hc : isComp e0 = true
      · exact zs_none fun ρ st => if_pos hc
      · by_cases ha : asB allB sc x = true ∧ (slot x c.N).isSome = true
        · obtain ⟨i, hs⟩ := Option.isSome_iff_exists.mp ha.2
          refine ps_mono (asg_rule (px := px) (pos := p) (r := recN c 0) (rec_ok 0) ok hfn hs ha.1 (zo X sc W0 ok tk e0) (fun z => absurd z hc)) fun D σ H ⟨ρ, st, μ, ex, x, ρ', st', er, s, e, q⟩ => tZS_of ⟨ρ, st, μ, ex, x, ρ', st', er, s, ?_, q⟩
          simp only [rzS] at e
          rw [if_neg hc, if_pos ha] at e
          exact e
        · exact zs_none fun ρ st => by simp only [rzS]; rw [if_neg hc, if_neg ha]
    | [.Subscript ..] => exact zs_none fun _ _ => rfl
    | [.Tuple ..] => exact zs_none fun _ _ => rfl
    | [.BoolOp ..] => exact zs_none fun _ _ => rfl
    | [.NamedExpr ..] => exact zs_none fun _ _ => rfl
    | [.BinOp ..] => exact zs_none fun _ _ => rfl
    | [.UnaryOp ..] => exact zs_none fun _ _ => rfl
    | [.Lambda ..] => exact zs_none fun _ _ => rfl
    | [.IfExp ..] => exact zs_none fun _ _ => rfl
    | [.Dict ..] => exact zs_none fun _ _ => rfl
    | [.Set ..] => exact zs_none fun _ _ => rfl
    | [.ListComp ..] => exact zs_none fun _ _ => rfl
    | [.SetComp ..] => exact zs_none fun _ _ => rfl
    | [.DictComp ..] => exact zs_none fun _ _ => rfl
    | [.GeneratorExp ..] => exact zs_none fun _ _ => rfl
    | [.Await ..] => exact zs_none fun _ _ => rfl
    | [.Yield ..] => exact zs_none fun _ _ => rfl
    | [.YieldFrom ..] => exact zs_none fun _ _ => rfl
    | [.Compare ..] => exact zs_none fun _ _ => rfl
    | [.Call ..] => exact zs_none fun _ _ => rfl
    | [.FormattedValue ..] => exact zs_none fun _ _ => rfl
    | [.JoinedStr ..] => exact zs_none fun _ _ => rfl
    | [.Constant ..] => exact zs_none fun _ _ => rfl
    | [.Attribute ..] => exact zs_none fun _ _ => rfl
    | [.Starred ..] => exact zs_none fun _ _ => rfl
    | [.List ..] => exact zs_none fun _ _ => rfl
    | [.Slice ..] => exact zs_none fun _ _ => rfl
  | _ => exact zs_none fun _ _ => rfl
theorem ok_zQ {f : Stmt → Rho → Sto → Option Out} {z : Stmt → Rho → Sto → Option (Exn × Rho × Sto)} (h : ∀ s, PS X s (tO (bd fa X) (f s))) (hz : ∀ s, PS X s (fun _ σ H => tZS (bd fa X) (z s) W0 σ H)) : ∀ ss, PSs X ss (fun _ σ H => tZS (bd fa X) (rzQ f z ss) W0 σ H)
  | [] => ⟨fun pins s σ H D I ⟨ρ, st, μ, ex, x, ρ', st', er, s', e, q⟩ => by cases e⟩
  | s0 :: ss => by
    refine pss_mono (pss_cons (ps_or2 (h s0) (hz s0)) (ok_zQ h hz ss)) fun D σ H ⟨ρ, st, μ, ex, x, ρ', st', er, s, e, q⟩ => ?_
    unfold rzQ at e
    split at e
    · next y hy => cases e; exact .inr ⟨ρ, st, μ, ex, _, _, _, er, s, hy, q⟩
    · obtain ⟨o1, e1, e2⟩ := Option.bind_eq_some_iff.mp e
      refine .inl ⟨ρ, st, μ, ex, o1, er, s, e1, ?_⟩
      cases o1 with
      | nx ρ1 st1 => exact fun μ1 H1 σ1 x1 s1 er1 => ⟨ρ1, st1, μ1, ex, x, ρ', st', er1, s1, e2, fun μ2 H2 σ2 cls d x2 => q μ2 H2 σ2 cls d (x1.trans x2)⟩
      | bk ρ1 st1 => cases e2
      | ct ρ1 st1 => cases e2
      | rt w st1 => cases e2
end
end MP
namespace MP
open PySem L2 PySem.Spec PyProof.Rows

section
variable {c : Cfg} {fa : Str → Option Addr} {X : Cx} {sc : Scope} {k : Nat}
theorem slot_env {B : Bd} {μ ex : List Addr} {H : Hp} {ρ : Rho} {σ : L2.St} (h : EnvR B μ ex H ρ σ) : True := trivial
/-- x = e: the evaluator's way through the target -/
theorem asg_ps {r : Rec} (ro : RecOk c fa k r) (ok : Ok c fa X sc k) (hfn : ∀ x, X.fn x = true) {x : Str} {px pos : Pos} {e : Expr} (he : PE X e (tW (bd fa X) (r.ev sc e))) (hcomp : isComp e = true → (isLC1 e = true ∨ isLC2 e = true) ∧ ∃ r', RecOk c fa k r' ∧ r.ev sc e = evE c r' sc e) :
    PS X (.Assign [.Name x px] e pos) (tO (bd fa X) fun ρ st => (r.ev sc e ρ st).bind fun (w, st1) => (asgW c.N allB sc (.Name x ⟨0, 0, 0, 0⟩) w ρ).map fun ρ1 => .nx ρ1 st1) := by
  by_cases ha : asB allB sc x = true
  case neg => exact ⟨fun pins s σ H D I ⟨ρ, st, μ, ex, o, er, s', e, q⟩ => by
    obtain ⟨⟨w, st1⟩, _, e2⟩ := Option.bind_eq_some_iff.mp e
    simp [asgW, ha] at e2⟩
  cases hs : slot x c.N with
  | none => exact ⟨fun pins s σ H D I ⟨ρ, st, μ, ex, o, er, s', e, q⟩ => by
      obtain ⟨⟨w, st1⟩, _, e2⟩ := Option.bind_eq_some_iff.mp e
      simp [asgW, ha, hs] at e2⟩
  | some i =>
    have fin : ∀ D σ H, tO (bd fa X) (fun ρ st => (r.ev sc e ρ st).bind fun (w, st1) => (asgW c.N allB sc (.Name x ⟨0, 0, 0, 0⟩) w ρ).map fun ρ1 => .nx ρ1 st1) D σ H → tAsg (tW (bd fa X) (r.ev sc e)) (gName i) D σ H := by
      rintro D σ H ⟨ρ, st, μ, ex, o, er, s', e, q⟩
      obtain ⟨⟨w, st1⟩, e1, e2⟩ := Option.bind_eq_some_iff.mp e
      simp only [asgW, ha, hs, if_true, Option.map_some, Option.some.injEq] at e2
      subst e2
      exact ⟨ρ, st, μ, ex, w, st1, er, s', e1, fun μ1 H1 v x1 s1 r1 => q μ1 H1 _ x1 s1 ((er.ext x1).set i r1)⟩
    by_cases hc : isComp e = true
    · obtain ⟨hl, r', ro', hr⟩ := hcomp hc
      rcases hl with hl | hl
      · obtain ⟨elt, tg, iter, ifs, scope, p, rfl⟩ := isLC1_form hl
        have m := asg_rule (px := px) (pos := pos) (r := r') ro' ok hfn hs ha (ok_ListCompF ro' ok elt tg iter ifs scope p) (fun _ => .inl ⟨hl, rfl⟩)
        exact ps_mono m fun D σ H h => tWf_of (by rw [← hr]; exact fin D σ H h)
      · obtain ⟨elt, tg, iter, ifs, tg1, iter1, ifs1, scope, p, rfl⟩ := isLC2_form hl
        have m := asg_rule (px := px) (pos := pos) (r := r') ro' ok hfn hs ha (ok_ListComp2 ro' ok elt tg iter tg1 iter1 ifs ifs1 scope p) (fun _ => .inr ⟨hl, rfl⟩)
        exact ps_mono m fun D σ H h => by rw [← hr]; exact fin D σ H h
    · exact ps_mono (asg_rule (r := r) ro ok hfn hs ha he (fun z => absurd z hc)) fin
theorem new_ps {r : Rec} (ro : RecOk c fa k r) (ok : Ok c fa X sc k) (hfn : ∀ x, X.fn x = true) {x : Str} {px pos : Pos} {e : Expr} {i : Nat} (hs : slot x c.N = some i) (ha : asB allB sc x = true) (hf : isFresh e = true)
    (hl : isLC1 e = true ∨ (("list" : Str) ∈ c.g.bs ∧ c.g.fns.lookup ("list" : Str) = none) ∨ isList e = true) :
    PS X (.Assign [.Name x px] e pos) (tO (bd fa X) fun ρ st => (evE c r sc e ρ st).bind fun (w, st1) => (newO w).map fun o => .nx (ρ.set i (some (.obj st1.length))) (st1 ++ [o])) := by
  refine ps_mono (asg_rule (r := r) ro ok hfn hs ha (ok_fresh ro ok hf hl) (fun z => .inl ⟨?_, rfl⟩)) fun D σ H ⟨ρ, st, μ, ex, o, er, s', e, q⟩ => ?_
  · cases e <;> first | (cases z; done) | (cases hf; done) | skip
    next elt gs scope p =>
    match gs with
    | [⟨tg, iter, ifs, .ofNat 0⟩] => rfl
    | [] => cases hf
    | [⟨tg, iter, ifs, .ofNat (n + 1)⟩] => cases hf
    | [⟨tg, iter, ifs, .negSucc n⟩] => cases hf
    | ⟨_, _, _, .ofNat 0⟩ :: _ :: _ => cases hf
    | ⟨_, _, _, .ofNat (n + 1)⟩ :: _ :: _ => cases hf
    | ⟨_, _, _, .negSucc n⟩ :: _ :: _ => cases hf
  · obtain ⟨⟨w, st1⟩, e1, e2⟩ := Option.bind_eq_some_iff.mp e
    obtain ⟨o', e3, rfl⟩ := Option.map_eq_some_iff.mp e2
    refine ⟨ρ, st, μ, ex, w, st1, er, s', e1, fun μ1 H1 ho p o2 e4 x1 s1 r1 n => ?_⟩
    rw [e3] at e4
    cases e4
    obtain ⟨cg, sg⟩ := s1.grow n r1
    obtain ⟨x2, _, np, nx⟩ := s1.new (o := ho) n
    have xe : Ext μ H (μ1 ++ [p]) (upd H1 p ho) := by
      obtain ⟨t, ht⟩ := x1.pre
      refine ⟨⟨t ++ [p], by rw [ht, List.append_assoc]⟩, fun a u na h nt => ?_⟩
      obtain ⟨h1, n1⟩ := x1.kept a u na h nt
      have hap : a ≠ p := ne_of_none h1 n
      exact ⟨by rw [upd_ne hap]; exact h1, fun z => (List.mem_append.mp z).elim n1 fun z => hap (by simpa using z)⟩
    refine q _ _ _ xe sg ((er.ext xe).set i ⟨p, rfl, ?_⟩)
    rw [← s1.len, List.getElem?_append_right (Nat.le_refl _), Nat.sub_self]
    rfl
theorem ok_for {asg : W → Rho → Option Rho} {body : Rho → Sto → Option Out} {tgR : TG} {tb : TS} {B : Bd} {D : Ends}
    (hg : ∀ v σ H Q, (∃ ρ st μ ex w ρ', EnvR B μ ex H ρ σ ∧ S B μ ex H st ∧ R B μ ex H w v ∧ asg w ρ = some ρ' ∧ ∀ σ', EnvR B μ ex H ρ' σ' → Q σ' H) → tgR v σ H Q) (hb : ∀ D σ H, tO B body D σ H → tb D σ H)
    {J : It} {l : List W} {ρ : Rho} {st : Sto} {μ ex : List Addr} {σ : L2.St} {H : Hp} {o : Out} (wk : Wk B J μ ex H l) (er : EnvR B μ ex H ρ σ) (s : S B μ ex H st) (e : forW asg body l ρ st = some o) (q : PostO B μ ex H o D) :
    ∃ Wp : Nat → Nat → L2.St → Hp → Prop, (∃ m, Wp 0 m σ H) ∧ ∀ i m σ H, Wp i m σ H →
      (J.stop i H ∧ D.nx σ H) ∨ (J.go i H ∧ ∃ N : L2.St → Hp → Prop, (∀ σ' H', N σ' H' → ∃ m', m' < m ∧ Wp (i + 1) m' σ' H') ∧ ∀ x H', J.yld i H x H' → tgR x σ H' fun σ2 H2 => tb { D with nx := N, ct := N, bk := D.nx } σ2 H2) := by
  obtain ⟨G, Y, wlk, hG, hY⟩ := wk
  have base : ∃ Wp : Nat → Nat → L2.St → Hp → Prop, (∃ m, Wp 0 m σ H) ∧ ∀ i m σ H, Wp i m σ H →
      (J.stop i H ∧ D.nx σ H) ∨ (J.go i H ∧ ∃ N : L2.St → Hp → Prop, (∀ σ' H', N σ' H' → ∃ m', m' < m ∧ Wp (i + 1) m' σ' H') ∧ ∀ x H', J.yld i H x H' → tgR x σ H' fun σ2 H2 => tb { D with nx := N, ct := N, bk := D.nx } σ2 H2) := by
    refine for_it wlk (fun i σ' H' => ∃ μ' ρ' st', Ext μ H μ' H' ∧ S B μ' ex H' st' ∧ EnvR B μ' ex H' ρ' σ' ∧ forW asg body (l.drop i) ρ' st' = some o) ⟨μ, ρ, st, Ext.refl _ _, s, er, e⟩ ?_ ?_ ?_
    · rintro i σ' H' hi ⟨μ', ρ', st', x1, _⟩
      exact hG _ _ _ x1.chg
    · rintro i x σ' H' H2 hi ⟨μ', ρ', st', x1, s1, er1, e1⟩ hy
      rw [List.drop_eq_getElem_cons hi] at e1
      obtain ⟨xe, s2, r2⟩ := hY i l[i] st' μ' ex H' x H2 (List.getElem?_eq_getElem hi) x1.chg s1 hy
      unfold forW at e1
      obtain ⟨ρ1, e2, e3⟩ := Option.bind_eq_some_iff.mp e1
      obtain ⟨o1, e4, e5⟩ := Option.bind_eq_some_iff.mp e3
      have x2 : Ext μ H μ' H2 := x1.trans xe
      refine hg _ _ _ _ ⟨ρ', st', μ', ex, l[i], ρ1, er1.ext xe, s2, r2, e2, fun σ2 er2 => hb _ _ _ ⟨ρ1, st', μ', ex, o1, er2, s2, e4, ?_⟩⟩
      cases o1 with
      | nx ρ2 st2 => exact fun μ3 H3 σ3 x3 s3 er3 => ⟨μ3, ρ2, st2, x2.trans x3, s3, er3, e5⟩
      | ct ρ2 st2 => exact fun μ3 H3 σ3 x3 s3 er3 => ⟨μ3, ρ2, st2, x2.trans x3, s3, er3, e5⟩
      | bk ρ2 st2 =>
        cases e5
        exact fun μ3 H3 σ3 x3 s3 er3 => q μ3 H3 σ3 (x2.trans x3) s3 er3
      | rt w st2 =>
        cases e5
        exact Post.ext q x2
    · rintro σ' H' ⟨μ', ρ', st', x1, s1, er1, e1⟩
      rw [List.drop_length] at e1
      cases e1
      exact q μ' H' σ' x1 s1 er1
  exact base
theorem par_pure {env : PySem.Env} {x y : Str} {px py pt : Pos} {a b : Expr} {kt k2 : Nat} {pt2 : Pos} (bk : env.blockKind = .function) (k1 : env.kindOf x = some .local) (k2' : env.kindOf y = some .local) (h3 : (x == y) = false) (h4 : (px.line == py.line) = true)
  (st1 : isStar a = false) (st2 : isStar b = false) (h7 : (foldedForSure 8 a && foldedForSure 8 b) = false) (h8 : (constantsAlone 8 a && constantsAlone 8 b) = false) :
    swappedStores [.Tuple [.Name x px, .Name y py] kt pt] (.Tuple [a, b] k2 pt2) env = pure (some [x, y]) := by
  unfold swappedStores
  have h5 : (py.line == px.line) = true := by
    rw [beq_iff_eq] at h4 ⊢
    exact h4.symm
  have e2 : ∀ f : Expr → Option Str, f (.Name x px) = some x → f (.Name y py) = some y → [Expr.Name x px, .Name y py].filterMap f = [x, y] := fun f f1 f2 => by
    simp only [List.filterMap_cons, List.filterMap_nil, f1, f2]
  have f1 : (if (env.kindOf x == some NameKind.local && px.line == px.line) = true then some x else none) = some x := by rw [k1]; simp
  have f2 : (if (env.kindOf y == some NameKind.local && py.line == px.line) = true then some y else none) = some y := by rw [k2', h5]; rfl
  have nd : ([x, y] : List Str).eraseDups.length = 2 := by
    have : ¬ y = x := fun e => by rw [e] at h3; simp at h3
    simp [List.eraseDups_cons, this]
  refine Eq.trans (if_neg ?_) (Eq.trans (if_neg ?_) (Eq.trans (if_neg ?_) (Eq.trans (if_neg ?_) (Eq.trans (if_neg ?_) ?_))))
  · rw [bk]; exact Bool.false_ne_true
  · intro h
    cases a <;> first | (cases st1; done) | (cases b <;> first | (cases st2; done) | (cases h; done))
  · rw [e2 _ f1 f2, nd]; exact Bool.false_ne_true
  · show ¬ (foldedForSure 8 a && (foldedForSure 8 b && true)) = true
    rw [Bool.and_true, h7]; decide
  · show ¬ (constantsAlone 8 a && (constantsAlone 8 b && true)) = true
    rw [Bool.and_true, h8]; decide
  · show pure (some _) = pure (some [x, y])
    rw [e2 _ f1 f2]

def getLocal {sc : Scope} {x : Str} (h : locB sc x = true) : sc.names.lookup x = some .local := by
  unfold locB at h
  cases q : sc.names.lookup x with
  | none => rw [q] at h; cases h
  | some z => rw [q] at h; cases z <;> first | rfl | cases h
theorem swaps_pure {env : PySem.Env} {es vs : List Expr} {kt k2 : Nat} {pt pt2 : Pos} (h : swapsE env.scope es (.Tuple vs k2 pt2) = false) : swappedStores [.Tuple es kt pt] (.Tuple vs k2 pt2) env = pure none := by
  unfold swapsE at h
  simp only [Bool.not_eq_false'] at h
  unfold swappedStores
  dsimp only
  by_cases h1 : (!(es.length == 2 || es.length == 3) || vs.length != es.length || env.blockKind != .function) = true
  · exact if_pos h1
  · refine Eq.trans (if_neg h1) ?_
    refine (ite_eq_left_iff.mpr fun h2 => ?_)
    have h3 : (!(es.length == 2 || es.length == 3) || vs.length != es.length) = false := by
      cases q : (!(es.length == 2 || es.length == 3) || vs.length != es.length) with
      | false => rfl
      | true => rw [q] at h1; exact absurd rfl h1
    rw [h3, Bool.false_or] at h
    refine if_pos ?_
    rw [Bool.or_eq_true]
    exact .inl h
theorem ok_tupG {r : Rec} (ro : RecOk c fa k r) (ok : Ok c fa X sc k) (es : List Expr) (kt : Nat) (pt p : Pos) (e0 : Expr) (hfn : ∀ x, X.fn x = true) :
    PS X (.Assign [.Tuple es kt pt] e0 p) (tO (bd fa X) fun ρ st => if (swapsE sc es e0 || (isComp e0 && !isLC1 e0)) = true then none else
      (r.ev sc e0 ρ st).bind fun (w, st1) => (asgW c.N allB sc (.Tuple es kt pt) w ρ).map fun ρ1 => .nx ρ1 st1) := by
  by_cases h1 : (swapsE sc es e0 || (isComp e0 && !isLC1 e0)) = true
  · exact ps_none fun ρ st => if_pos h1
  · have h2 : swapsE sc es e0 = false ∧ (isComp e0 = true → isLC1 e0 = true) := by
      cases ht : swapsE sc es e0 with
      | true => rw [ht] at h1; exact absurd rfl h1
      | false =>
        refine ⟨rfl, fun hc => ?_⟩
        rw [ht, hc] at h1
        simpa using h1
    have sw : swapsWithSole [.Tuple es kt pt] e0 p.line X.env = pure false := by
      show swapsWith e0 (some (.Tuple es kt pt)) p.line X.env = pure false
      by_cases hc : isComp e0 = true
      · obtain ⟨elt, tg, iter, ifs, scope, p3, rfl⟩ := isLC1_form (h2.2 hc)
        rfl
      · exact sw_no (by simpa using hc)
    have sw2 : swappedStores [.Tuple es kt pt] e0 X.env = pure none := by
      cases e0 <;> first | rfl | skip
      exact swaps_pure (by rw [ok.scE]; exact h2.1)
    refine ps_mono (ps_asg ((ro X sc ok).1 e0) (ok_g (lo := allB) ok (fun x _ => hfn x) (.Tuple es kt pt)) sw sw2) fun D σ H ⟨ρ, st, μ, ex, o, er, s, e, q⟩ => ?_
    dsimp only at e
    rw [if_neg h1] at e
    obtain ⟨⟨w, st1⟩, e1, e2⟩ := Option.bind_eq_some_iff.mp e
    obtain ⟨ρ1, e3, rfl⟩ := Option.map_eq_some_iff.mp e2
    exact ⟨ρ, st, μ, ex, w, st1, er, s, e1, fun μ1 H1 v x1 s1 r1 => ⟨ρ, st1, μ1, ex, w, ρ1, er.ext x1, s1, r1, e3, fun σ' er' _ => q μ1 H1 σ' x1 s1 er'⟩⟩
theorem ok_par {r : Rec} (ro : RecOk c fa k r) (ok : Ok c fa X sc k) (hfn : ∀ x, X.fn x = true) (x y : Str) (px py pt pt2 pos : Pos) (a b : Expr) (kt k2 : Nat) :
    PS X (.Assign [.Tuple [.Name x px, .Name y py] kt pt] (.Tuple [a, b] k2 pt2) pos) (tO (bd fa X) fun ρ st => if parOk sc x y px py a b = true then
      (r.ev sc a ρ st).bind fun (v, st1) => (r.ev sc b ρ st1).bind fun (w, st2) => (slot x c.N).bind fun i => (slot y c.N).map fun j => .nx ((ρ.set i (some v)).set j (some w)) st2
    else if (swapsE sc [.Name x px, .Name y py] (.Tuple [a, b] k2 pt2) || (isComp (.Tuple [a, b] k2 pt2) && !isLC1 (.Tuple [a, b] k2 pt2))) = true then none else
      (r.ev sc (.Tuple [a, b] k2 pt2) ρ st).bind fun (w, st1) => (asgW c.N allB sc (.Tuple [.Name x px, .Name y py] kt pt) w ρ).map fun ρ1 => .nx ρ1 st1) := by
  by_cases hp : parOk sc x y px py a b = true
  case neg =>
    refine ps_mono (ok_tupG ro ok [.Name x px, .Name y py] kt pt pos (.Tuple [a, b] k2 pt2) hfn) fun D σ H ⟨ρ, st, μ, ex, o, er, s, e, q⟩ => ⟨ρ, st, μ, ex, o, er, s, ?_, q⟩
    dsimp only at e
    rw [if_neg hp] at e
    exact e
  have h := hp
  unfold parOk at h
  simp only [Bool.and_eq_true, Bool.not_eq_true'] at h
  obtain ⟨⟨⟨⟨⟨⟨⟨h1, h2⟩, h3⟩, h4⟩, h5⟩, h6⟩, h7⟩, h8⟩ := h
  have l1 := getLocal h1
  have l2 := getLocal h2
  have bk : X.env.blockKind = .function := by
    unfold PySem.Env.blockKind
    rw [ok.scE, ok.kind]
    rfl
  have sw := par_pure (env := X.env) (x := x) (y := y) (px := px) (py := py) (pt := pt) (a := a) (b := b) (kt := kt) (k2 := k2) (pt2 := pt2) bk (by unfold PySem.Env.kindOf; rw [ok.scE]; exact l1) (by unfold PySem.Env.kindOf; rw [ok.scE]; exact l2) h3 h4 h5 h6 h7 h8
  cases hx : slot x c.N with
  | none =>
    refine ps_none fun ρ st => ?_
    rw [if_pos hp]
    cases r.ev sc a ρ st with
    | none => rfl
    | some p => show (r.ev sc b ρ p.2).bind _ = none; cases r.ev sc b ρ p.2 <;> rfl
  | some i =>
    cases hy : slot y c.N with
    | none =>
      refine ps_none fun ρ st => ?_
      rw [if_pos hp]
      cases r.ev sc a ρ st with
      | none => rfl
      | some p => show (r.ev sc b ρ p.2).bind _ = none; cases r.ev sc b ρ p.2 <;> rfl
    | some j =>
      have hij : i ≠ j := fun e => by
        subst e
        have e1 := slot_ok hx
        rw [slot_ok hy] at e1
        cases e1
        simp at h3
      refine ps_mono (ps_par (i := i) (j := j) ok.calm (by rw [ok.N]; exact ok.nd) (by rw [ok.N]; exact slot_ok hx) (by rw [ok.N]; exact slot_ok hy) hij (by rw [ok.scE]; exact l1) (by rw [ok.scE]; exact l2)
        (pa_cons ((ro X sc ok).1 a) (pa_cons ((ro X sc ok).1 b) pa_nil (star_no h6)) (star_no h5)) sw rfl) fun D σ H ⟨ρ, st, μ, ex, o, er, s, e, q⟩ => ?_
      dsimp only at e
      rw [if_pos hp] at e
      obtain ⟨⟨v, st1⟩, e1, e2⟩ := Option.bind_eq_some_iff.mp e
      obtain ⟨⟨w, st2⟩, e3, e4⟩ := Option.bind_eq_some_iff.mp e2
      simp only [Option.bind_some, Option.map_some, Option.some.injEq] at e4
      subst e4
      refine ⟨ρ, st, μ, ex, v, st1, er, s, e1, fun μ1 H1 x1 xe1 s1 r1 => ?_⟩
      refine ⟨ρ, st1, μ1, ex, w, st2, er.ext xe1, s1, e3, fun μ2 H2 x2 xe2 s2 r2 => ?_⟩
      refine ⟨_, _, rfl, q μ2 H2 _ (xe1.trans xe2) s2 (((er.ext (xe1.trans xe2)).set i (r1.ext xe2)).set j r2)⟩
theorem ok_setItem {r : Rec} (ro : RecOk c fa k r) (ok : Ok c fa X sc k) (a i e : Expr) (tp pos : Pos) (hc : isComp e = false) (hi : isSlice i = false) :
    PS X (.Assign [.Subscript a i tp] e pos) (tO (bd fa X) fun ρ st => (r.ev sc e ρ st).bind fun (w, st1) => (r.ev sc a ρ st1).bind fun (x, st2) => (r.ev sc i ρ st2).bind fun (y, st3) => (setW st3 x y w).map fun st4 => .nx ρ st4) := by
  refine ps_mono (ps_asg ((ro X sc ok).1 e) (pg_sub ((ro X sc ok).1 a) ((ro X sc ok).1 i) (setW_ok (fa := fa) (units1 ok)) (fun v => by cases i <;> first | rfl | cases hi)) (sw_no (tgt := some (.Subscript a i tp)) (l := pos.line) (env := X.env) hc) (by cases e <;> rfl)) fun D σ H ⟨ρ, st, μ, ex, o, er, s, e0, q⟩ => ?_
  obtain ⟨⟨w, st1⟩, e1, e2⟩ := Option.bind_eq_some_iff.mp e0
  obtain ⟨⟨x, st2⟩, e3, e4⟩ := Option.bind_eq_some_iff.mp e2
  obtain ⟨⟨y, st3⟩, e5, e6⟩ := Option.bind_eq_some_iff.mp e4
  obtain ⟨st4, e7, rfl⟩ := Option.map_eq_some_iff.mp e6
  refine ⟨ρ, st, μ, ex, w, st1, er, s, e1, fun μ1 H1 vw x1 s1 r1 => ?_⟩
  refine ⟨ρ, st1, μ1, ex, x, st2, er.ext x1, s1, e3, fun μ2 H2 vx x2 s2 r2 => ?_⟩
  refine ⟨ρ, st2, μ2, ex, y, st3, er.ext (x1.trans x2), s2, e5, fun μ3 H3 vy x3 s3 r3 => ?_⟩
  exact ⟨x, y, w, st3, μ3, ex, st4, r2.ext x3, r3, r1.ext (x2.trans x3), s3, e7, fun H4 x4 s4 => q μ3 H4 σ (((x1.trans x2).trans x3).trans x4) s4 (er.ext (((x1.trans x2).trans x3).trans x4))⟩
/-- an item put at a list's end -/
theorem app_ps {B : Bd} {Y : Cx} (hB : B = bd fa Y) {x : Str} {p ap cp pos : Pos} {a : Expr} {fo : Rho → Option W} {fx : Rho → Sto → Option (W × Sto)} (hx : PE Y (.Name x p) (tW B fun ρ st => (fo ρ).map fun w => (w, st))) (ha : PE Y a (tW B fx)) (hl : (ap.endLine == cp.line) = true) (hs : isStar a = false) :
    PS Y (.Expr (.Call (.Attribute (.Name x p) "append" ap) [a] [] cp) pos) (tO B fun ρ st => (fo ρ).bind fun o => if lstB st o = true then (fx ρ st).bind fun (w, st1) => (pushW st1 o w).map fun st2 => .nx ρ st2 else none) := by
  subst hB
  have hst : noStars [a] = true := by simp [noStars, hs]
  refine ps_mono (ps_expr (pe_bm (cpos := cp) PySem.F.plainAttrs_list PySem.F.slot_list_append PySem.F.type_list_append mt_append hx (pa_cons ha pa_nil (star_no hs)) (by rfl) (few_of hst (by simp)) hl (star_no hs) (by rfl)) (sw_no rfl)) fun D σ H ⟨ρ, st, μ, ex, o, er, s, e, q⟩ => ?_
  obtain ⟨w0, e1, e2⟩ := Option.bind_eq_some_iff.mp e
  split at e2
  case isFalse => cases e2
  next hb0 =>
  obtain ⟨⟨w, st1⟩, e3, e4⟩ := Option.bind_eq_some_iff.mp e2
  obtain ⟨st2, e5, rfl⟩ := Option.map_eq_some_iff.mp e4
  unfold pushW at e5
  split at e5
  case h_2 => cases e5
  next n =>
  split at e5
  case h_2 => cases e5
  next l hl1 =>
  split at e5
  case isFalse => cases e5
  next hlen =>
  cases e5
  refine ⟨ρ, st, μ, ex, .obj n, st, er, s, by show (fo ρ).map _ = _; rw [e1]; rfl, fun μ1 H1 vo x1 s1 r1 => ?_⟩
  obtain ⟨b, rfl, h1⟩ := r1
  refine ⟨?_, ρ, st, μ1, ex, w, st1, er.ext x1, s1, e3, fun μ2 H2 vw x2 s2 r2 => ?_⟩
  · unfold lstB at hb0
    dsimp only at hb0
    split at hb0
    · next l0 hl0 =>
      obtain ⟨b', h2, xs, h4, _⟩ := s1.obj n _ hl0
      rw [h1] at h2
      cases h2
      exact .inl ⟨rfl, xs, SqL.of h4⟩
    · cases hb0
  · have h5 : μ2[n]? = some b := (x2.chg (ex := ex)).ix n b h1
    obtain ⟨b', h6, xs, h7, h8⟩ := s2.obj n _ hl1
    rw [h5] at h6
    cases h6
    refine ⟨b, xs, vw, rfl, rfl, h7, by rw [← h8.length]; exact hlen, ?_⟩
    have hb : b ∈ μ2 := List.mem_of_getElem? h5
    exact q μ2 _ σ ((x1.trans x2).trans (Ext.put hb)) (s2.put h5 ⟨_, rfl, h8.append (RA.one r2)⟩) (er.ext ((x1.trans x2).trans (Ext.put hb)))
theorem appOf_inv {e : Expr} {x : Str} {p : Pos} {a : Expr} (h : appOf e = some (x, p, a)) : ∃ ap cp, e = .Call (.Attribute (.Name x p) "append" ap) [a] [] cp ∧ (ap.endLine == cp.line) = true ∧ isStar a = false := by
  unfold appOf at h
  split at h
  · split at h
    · next hc =>
      obtain ⟨rfl, h1, h2⟩ := hc
      cases h
      exact ⟨_, _, rfl, h1, h2⟩
    · cases h
  · cases h
/-- an except suite's names -/
theorem sui_name (ok : Ok c fa X sc k) {a : Addr} {pn : List (Addr × Obj)} (x : Str) (p : Pos) (hv : visB sc x = true) : PE (X.suite a pn) (.Name x p) (tW (bd fa X) fun ρ st => (nameW c.g c.N sc x ρ).map fun w => (w, st)) := by
  by_cases hn : okName x = true
  case neg => exact pe_false fun σ H Q ⟨ρ, st, μ, ex, w, st', er, s, e, q⟩ => by simp [nameW, hn] at e
  obtain ⟨h1, h2, h3⟩ := okName_ok hn
  cases hs : slot x c.N with
  | none => exact pe_false fun σ H Q ⟨ρ, st, μ, ex, w, st', er, s, e, q⟩ => by simp [nameW, hn, hv, hs] at e
  | some i =>
    refine pe_mono (pe_var (i := i) (X := X.suite a pn) (show X.N[i]? = some x by rw [ok.N]; exact slot_ok hs) (vis_ok ok hv) h1 h2) fun σ H Q ⟨ρ, st, μ, ex, w, st', er, s, e, q⟩ => ?_
    simp only [nameW, hn, hv, hs, if_true, Option.bind_some, Option.map_eq_some_iff, Prod.mk.injEq] at e
    obtain ⟨w', e1, rfl, rfl⟩ := e
    cases e2 : ρ[i]? with
    | none => rw [e2] at e1; cases e1
    | some y =>
      rw [e2] at e1
      have e3 : y = some w' := e1
      subst e3
      obtain ⟨v, q1, q2⟩ := er.at_ i w' e2
      exact ⟨v, q1, q.now s q2⟩
theorem sui_names (ok : Ok c fa X sc k) {a : Addr} {pn : List (Addr × Obj)} : ∀ es : List Expr, PA (X.suite a pn) es (tAs (bd fa X) fun ρ st => (namesW c.g c.N sc ρ es).map fun ws => (ws, st))
  | [] => pa_mono pa_nil fun σ H Q ⟨ρ, st, μ, ex, ws, st', er, s, e, q⟩ => by cases e; exact q μ H [] (Ext.refl _ _) s rfl
  | e0 :: es => by
    by_cases hx : ∃ x p, e0 = .Name x p ∧ visB sc x = true
    case neg =>
      refine ⟨fun pos pins s σ H Q I ⟨ρ, st, μ, ex, ws, st', er, s', e, q⟩ => ?_⟩
      unfold namesW at e
      split at e
      · next h => cases h
      · next x p es' h =>
        cases h
        split at e
        · next hv => exact absurd ⟨_, _, rfl, hv⟩ hx
        · cases e
      · cases e
    obtain ⟨x, p, rfl, hv⟩ := hx
    refine pa_mono (pa_cons (sui_name ok x p hv) (sui_names ok es) (star_no rfl)) fun σ H Q ⟨ρ, st, μ, ex, ws, st', er, s, e, q⟩ => ?_
    obtain ⟨ws1, e1, e2⟩ := Option.map_eq_some_iff.mp e
    cases e2
    unfold namesW at e1
    rw [if_pos hv] at e1
    obtain ⟨w, e3, e4⟩ := Option.bind_eq_some_iff.mp e1
    obtain ⟨ws2, e5, e6⟩ := Option.bind_eq_some_iff.mp e4
    cases e6
    exact ⟨ρ, st, μ, ex, w, st, er, s, by show (nameW c.g c.N sc x ρ).map _ = _; rw [e3]; rfl, fun μ1 H1 v x1 s1 r1 => ⟨ρ, st, μ1, ex, ws2, st, er.ext x1, s1, by show (namesW c.g c.N sc ρ es).map _ = _; rw [e5]; rfl, fun μ2 H2 vs x2 s2 r2 => q μ2 H2 (v :: vs) (x1.trans x2) s2 ⟨v, vs, rfl, r1.ext x2, r2⟩⟩⟩
theorem ok_sui (ok : Ok c fa X sc k) {a : Addr} {pn : List (Addr × Obj)} (ss : List Stmt) : PSs (X.suite a pn) ss (tO (bd fa X) (suiS c sc ss)) := by
  have no : (∀ ρ st, suiS c sc ss ρ st = none) → PSs (X.suite a pn) ss (tO (bd fa X) (suiS c sc ss)) := fun h => ⟨fun pins s σ H D I ⟨ρ, st, μ, ex, o, er, s', e, q⟩ => by rw [h] at e; cases e⟩
  by_cases hform : ∃ e0 pos, ss = [.Expr e0 pos]
  case neg =>
    exact no fun ρ st => by
      unfold suiS
      split
      · next h => exact absurd ⟨_, _, rfl⟩ hform
      · rfl
  obtain ⟨e0, pos, rfl⟩ := hform
  · skip
    cases ha : appOf e0 with
    | none => exact no fun ρ st => by simp only [suiS, ha]; rfl
    | some t =>
      obtain ⟨x, p, b⟩ := t
      cases b <;> first | (exact no fun ρ st => by simp only [suiS, ha]; rfl) | skip
      next es j tp =>
      by_cases hv : visB sc x = true
      case neg => exact no fun ρ st => by simp only [suiS, ha, Option.bind_some]; exact if_neg hv
      obtain ⟨ap, cp, rfl, hl, hs⟩ := appOf_inv ha
      have tup : PE (X.suite a pn) (.Tuple es j tp) (tW (bd fa X) fun ρ st => (namesW c.g c.N sc ρ es).bind fun ws => if ws.length ≤ sizeLine then some (.tup ws, st) else none) := by
        refine pe_mono (pe_tup (sui_names ok es)) fun σ H Q ⟨ρ, st, μ, ex, w, st', er, s, e, q⟩ => ?_
        obtain ⟨ws, e1, e2⟩ := Option.bind_eq_some_iff.mp e
        split at e2
        · next hl =>
          cases e2
          exact ⟨ρ, st, μ, ex, ws, _, er, s, by show (namesW c.g c.N sc ρ es).map _ = _; rw [e1]; rfl, fun μ1 H1 xs x1 s1 r1 => ⟨by rw [← r1.length]; exact hl, Post.tup s1 r1 (q.ext x1)⟩⟩
        · cases e2
      refine pss_one (ps_mono (app_ps (fa := fa) (Y := X.suite a pn) rfl (sui_name ok x p hv) tup hl hs) fun D σ H ⟨ρ, st, μ, ex, o, er, s, e, q⟩ => ⟨ρ, st, μ, ex, o, er, s, ?_, q⟩)
      simp only [suiS, ha, Option.bind_some] at e
      rw [if_pos hv] at e
      obtain ⟨o1, e1, e2⟩ := Option.bind_eq_some_iff.mp e
      split at e2
      case isFalse => cases e2
      next hlb =>
      obtain ⟨ws, e3, e4⟩ := Option.bind_eq_some_iff.mp e2
      split at e4
      case isFalse => cases e4
      next hz =>
      refine Option.bind_eq_some_iff.mpr ⟨o1, e1, ?_⟩
      rw [if_pos hlb]
      refine Option.bind_eq_some_iff.mpr ⟨(.tup ws, st), ?_, e4⟩
      refine Option.bind_eq_some_iff.mpr ⟨ws, e3, ?_⟩
      rw [if_pos hz]
theorem okTr (ok : Ok c fa X sc k) (pn : List (Addr × Obj)) (xe : Value → Shared → Prop) : Ok c fa (X.tr pn xe) sc k := ⟨ok.N, ok.nd, ok.scE, ok.kind, ok.calm, ok.room, ok.cs, ok.bs, ok.tys, ok.fns, ok.defs, ok.cls, ok.fnsF, ok.ini, ok.lam⟩
theorem ok_S0 (n : Nat) (ok : Ok c fa X sc k) (hfn : ∀ x, X.fn x = true) (hp : PassesOwn (model X.prog X.w) X.A X.env X.xe) (mt : List Str) {rb : Stmt → Rho → Sto → Option Out} (hb : ∀ s, PS X s (tO (bd fa X) (rb s))) (hst : X.stack = X.env :: X.outer) (hfr : X.env.frame = some X.env.locals)
    (hbT : ∀ pn xe, PassesOwn (model X.prog X.w) X.A X.env xe → ∀ s, PS (X.tr pn xe) s (tO (bd fa X) (rb s))) (s0 : Stmt) :
    PS X s0 (tO (bd fa X) (exS0 c mt sc (recN c (n + 1)) rb s0)) := by
  have ro : RecOk c fa k (recN c (n + 1)) := rec_ok (n + 1)
  have ro' : RecOk c fa k (recN c n) := rec_ok n
  cases s0 with
  | Pass p => exact ps_mono ps_pass fun D σ H ⟨ρ, st, μ, ex, o, er, s, e, q⟩ => by cases e; exact q μ H σ (Ext.refl _ _) s er
  | Break p => exact ps_mono ps_break fun D σ H ⟨ρ, st, μ, ex, o, er, s, e, q⟩ => by cases e; exact q μ H σ (Ext.refl _ _) s er
  | Continue p => exact ps_mono ps_continue fun D σ H ⟨ρ, st, μ, ex, o, er, s, e, q⟩ => by cases e; exact q μ H σ (Ext.refl _ _) s er
  | Return v p =>
    cases v with
    | none => exact ps_mono ps_retN fun D σ H ⟨ρ, st, μ, ex, o, er, s, e, q⟩ => by cases e; exact Post.now q s rfl
    | some e0 =>
      refine ps_mono (ps_ret ((ro X sc ok).1 e0)) fun D σ H ⟨ρ, st, μ, ex, o, er, s, e, q⟩ => ?_
      obtain ⟨⟨w, st1⟩, e1, rfl⟩ := Option.map_eq_some_iff.mp (show ((recN c (n + 1)).ev sc e0 ρ st).map _ = some o from e)
      exact ⟨ρ, st, μ, ex, w, st1, er, s, e1, q⟩
  | Expr e0 p =>
    by_cases hd : ∃ z j p', e0 = .Constant (.str z) j p'
    · obtain ⟨z, j, p', rfl⟩ := hd
      exact ps_mono ps_doc fun D σ H ⟨ρ, st, μ, ex, o, er, s, e, q⟩ => by cases e; exact q μ H σ (Ext.refl _ _) s er
    · by_cases hc : isComp e0 = true
      · refine ps_none fun ρ st => ?_
        cases e0 <;> first | (cases hc; done) | rfl
      · cases happ : appOf e0 with
        | some t =>
          obtain ⟨x, p', a⟩ := t
          obtain ⟨ap, cp, rfl, hl, hs⟩ := appOf_inv happ
          refine ps_mono (app_ps (fa := fa) rfl (fo := fun ρ => nameW c.g c.N sc x ρ) (ok_Name ok (recN c 0) x p') ((ro X sc ok).1 a) hl hs) fun D σ H ⟨ρ, st, μ, ex, o, er, s, e, q⟩ => ⟨ρ, st, μ, ex, o, er, s, ?_, q⟩
          simp only [exS0] at e
          rw [if_neg hc, happ] at e
          exact e
        | none =>
          refine ps_mono (ps_expr ((ro X sc ok).1 e0) (sw_no (by simpa using hc))) fun D σ H ⟨ρ, st, μ, ex, o, er, s, e, q⟩ => ?_
          have e : ((recN c (n + 1)).ev sc e0 ρ st).map (fun (_, st1) => Out.nx ρ st1) = some o := by
            cases e0 with
            | Constant v j p' =>
              cases v with
              | str z => exact absurd ⟨z, j, p', rfl⟩ hd
              | _ => exact e
            | ListComp => exact absurd rfl hc
            | SetComp => exact absurd rfl hc
            | DictComp => exact absurd rfl hc
            | Call =>
              simp only [exS0] at e
              rw [if_neg hc, happ] at e
              exact e
            | _ => exact e
          obtain ⟨⟨w, st1⟩, e1, rfl⟩ := Option.map_eq_some_iff.mp e
          exact ⟨ρ, st, μ, ex, w, st1, er, s, e1, fun μ1 H1 v x1 s1 _ => q μ1 H1 σ x1 s1 (er.ext x1)⟩
  | Try body hs orelse fin p =>
    have thru : ∀ (h0 : ExceptHandler) (hs' : List ExceptHandler), PS X (.Try body (h0 :: hs') orelse [] p) (tO (bd fa X) fun ρ st => match seqS rb body ρ st with
        | some (.nx ρ1 st1) => seqS rb orelse ρ1 st1
        | o => o) := fun h0 hs' => by
      refine ps_mono (ps_try_thru (h₀ := h0) (hs := hs') (ok_seq (X := X.nox) (hbT X.pn (fun _ _ => False) PassesOwn.never) body) (ok_seq hb orelse)) fun D σ H ⟨ρ, st, μ, ex, o, er, s, e, q⟩ => ?_
      dsimp only at e
      split at e
      · next ρ1 st1 h1 => exact ⟨ρ, st, μ, ex, _, er, s, h1, fun μ1 H1 σ1 x1 s1 er1 => ⟨ρ1, st1, μ1, ex, o, er1, s1, e, q.ext x1⟩⟩
      · next hno =>
        refine ⟨ρ, st, μ, ex, o, er, s, e, ?_⟩
        cases o with
        | nx ρ1 st1 => exact (hno ρ1 st1 e).elim
        | rt w st1 => exact q
        | bk ρ1 st1 => exact q
        | ct ρ1 st1 => exact q
    cases hs with
    | nil => exact ps_none fun ρ st => rfl
    | cons h0 hs =>
    cases fin with
    | cons z zs => exact ps_none fun ρ st => by unfold exS0; split <;> first | rfl | (next h => cases h)
    | nil =>
    by_cases hform : ∃ x np suite hp', h0 = .ExceptHandler (some (.Name x np)) none suite hp' ∧ hs = []
    case neg =>
      refine ps_mono (thru h0 hs) fun D σ H ⟨ρ, st, μ, ex, o, er, s, e, q⟩ => ⟨ρ, st, μ, ex, o, er, s, ?_, q⟩
      unfold exS0 at e
      split at e <;> first | (next h => cases h; done) | skip
      · next h => cases h; exact absurd ⟨_, _, _, _, rfl, rfl⟩ hform
      · next h => cases h; exact e
      · cases e
    obtain ⟨x, np, suite, hp', rfl, rfl⟩ := hform
    by_cases hc : x = "KeyError" ∧ x ∈ c.g.tys ∧ glB sc x = true ∧ suite.isEmpty = false
    case neg =>
      refine ps_mono (thru _ _) fun D σ H ⟨ρ, st, μ, ex, o, er, s, e, q⟩ => ⟨ρ, st, μ, ex, o, er, s, ?_, q⟩
      simp only [exS0] at e
      rw [if_neg hc] at e
      exact e
    cases suite with
    | nil => exact absurd hc.2.2.2 (by decide)
    | cons b0 suite =>
    obtain ⟨rfl, ht, hg, _⟩ := id hc
    obtain ⟨m, b⟩ := ok.tys _ ht
    have nm : Names X "KeyError" (.type "KeyError") := ⟨gl_ok ok hg, by decide, .inr ⟨m, b, by decide⟩⟩
    refine ps_mono (ps_try_onlyE (tb := fun W D σ H => tO (bd fa X) (seqS rb body) D σ H ∨ tZS (bd fa X) (rzQ rb (rzS c sc (recZ c 40)) body) W σ H) (ts := fun _ _ _ D σ H => tO (bd fa X) (suiS c sc (b0 :: suite)) D σ H) (Wout := fun _ _ _ _ => False)
      (ok_seq hb orelse) hst hfr nm L2.takes0 (fun W pn xe tk po => pss_or2 (ok_seq (X := X.tr pn xe) (hbT pn xe po) body) (ok_zQ (X := X.tr pn xe) (hbT pn xe po) (fun s => ok_zS (X := X.tr pn xe) (okTr ok pn xe) hfn (takesN tk) 40 s) body)) (fun a oe cls d pn _ _ => ok_sui ok (b0 :: suite)))
      fun D σ H ⟨ρ, st, μ, ex, o, er, s, e, q⟩ => ?_
    have e2 : (match rzQ rb (rzS c sc (recZ c 40)) body ρ st with
      | some (x, ρ1, st1) => (match x with
        | .key => suiS c sc (b0 :: suite) ρ1 st1
        | _ => none)
      | none => match seqS rb body ρ st with
        | some (.nx ρ1 st1) => seqS rb orelse ρ1 st1
        | o => o) = some o := (if_pos hc).symm.trans e
    split at e2
    · next x ρ1 st1 e3 =>
      cases x with
      | own z v => cases e2
      | key =>
        refine .inr ⟨ρ, st, μ, ex, .key, ρ1, st1, er, s, e3, fun μ1 H1 σ1 cls d x1 s1 er1 r1 => ⟨true, by rw [show cls = _ from r1]; exact exm_KE, fun _ a ha => ⟨ρ1, st1, μ1, ex, o, er1, s1, e2, q.ext x1⟩, fun z => nomatch z⟩⟩
    · split at e2
      · next ρ1 st1 h1 => exact .inl ⟨ρ, st, μ, ex, _, er, s, h1, fun μ1 H1 σ1 x1 s1 er1 => ⟨ρ1, st1, μ1, ex, o, er1, s1, e2, q.ext x1⟩⟩
      · next hno =>
        refine .inl ⟨ρ, st, μ, ex, o, er, s, e2, ?_⟩
        cases o with
        | nx ρ1 st1 => exact (hno ρ1 st1 e2).elim
        | rt w st1 => exact q
        | bk ρ1 st1 => exact q
        | ct ρ1 st1 => exact q
  | If t a b p =>
    refine ps_mono (ps_if ((ro X sc ok).2 t) (ok_seq hb a) (ok_seq hb b)) fun D σ H ⟨ρ, st, μ, ex, o, er, s, e, q⟩ => ?_
    obtain ⟨⟨x, st1⟩, e1, e2⟩ := Option.bind_eq_some_iff.mp (show ((recN c (n + 1)).ts sc t ρ st).bind _ = some o from e)
    refine ⟨ρ, st, μ, ex, x, st1, er, s, e1, fun μ1 H1 x1 s1 => ?_⟩
    cases x with
    | true => exact iteT ⟨ρ, st1, μ1, ex, o, er.ext x1, s1, by simpa using e2, q.ext x1⟩
    | false => exact iteF ⟨ρ, st1, μ1, ex, o, er.ext x1, s1, by simpa using e2, q.ext x1⟩
  | For tg it body orelse p =>
    cases orelse with
    | cons z zs => exact ps_none fun ρ st => rfl
    | nil =>
      by_cases hs : isSetE it = true
      · refine ps_none fun ρ st => ?_
        cases it <;> first | (cases hs; done) | rfl
      · refine ps_mono (ps_for hp ok.calm (ok_iter ro ok tg it) (ok_g (lo := allB) ok (fun x _ => hfn x) tg) (ok_seq hb body) (fun x => by cases it <;> first | rfl | exact absurd rfl hs)) fun D σ H ⟨ρ, st, μ, ex, o, er, s, e, q⟩ => ?_
        obtain ⟨⟨l, st1⟩, e1, e2⟩ := Option.bind_eq_some_iff.mp (show (iterW _ _ _ _ _ _ ρ st).bind _ = some o from e)
        refine ⟨ρ, st, μ, ex, l, st1, er, s, e1, fun μ1 H1 J x1 s1 wk => ?_⟩
        refine ok_for (B := bd fa X) (asg := asgW c.N allB sc tg) (body := seqS rb body) ?_ (fun _ _ _ h => h) wk (er.ext x1) s1 e2 (q.ext x1)
        rintro v σ H Q ⟨ρ, st, μ, ex, w, ρ', er, s, r1, e, q⟩
        exact ⟨ρ, st, μ, ex, w, ρ', er, s, r1, e, fun σ' er' _ => q σ' er'⟩
  | Assign tgs e0 p =>
    match tgs with
    | [] => exact ps_none fun _ _ => rfl
    | _ :: _ :: _ => exact ps_none fun _ _ => by first | rfl | (simp only [exS0])
    | [.Name x px] =>
      by_cases h1 : (isComp e0 && !isLC1 e0 && !isLC2 e0) = true
      · exact ps_none fun _ _ => if_pos h1
      · by_cases h2 : x ∈ mt
        · by_cases h3 : isFresh e0 = true ∧ (isLC1 e0 = true ∨ (("list" : Str) ∈ c.g.bs ∧ c.g.fns.lookup ("list" : Str) = none) ∨ isList e0 = true) ∧ asB allB sc x = true
          · cases hs : slot x c.N with
            | none => exact ps_none fun ρ st => by simp only [exS0]; rw [if_neg h1, if_pos h2, if_pos h3, hs]; rfl
            | some i =>
              refine ps_mono (new_ps ro' ok hfn (px := px) (pos := p) hs h3.2.2 h3.1 h3.2.1) fun D σ H ⟨ρ, st, μ, ex, o, er, s, e, q⟩ => ⟨ρ, st, μ, ex, o, er, s, ?_, q⟩
              have e2 := e
              simp only [exS0] at e2
              rw [if_neg h1, if_pos h2, if_pos h3, hs] at e2
              exact e2
          · exact ps_none fun ρ st => by simp only [exS0]; rw [if_neg h1, if_pos h2, if_neg h3]
        · refine ps_mono (asg_ps ro ok hfn (px := px) (pos := p) ((ro X sc ok).1 e0) fun hc => ⟨?_, recN c n, ro', rfl⟩) fun D σ H ⟨ρ, st, μ, ex, o, er, s, e, q⟩ => ⟨ρ, st, μ, ex, o, er, s, ?_, q⟩
          · rw [hc] at h1
            cases h5 : isLC1 e0 with
            | true => exact .inl rfl
            | false => rw [h5] at h1; exact .inr (by simpa using h1)
          · have e2 := e
            simp only [exS0] at e2
            rw [if_neg h1, if_neg h2] at e2
            exact e2
    | [.Subscript a i tp] =>
      by_cases h1 : isComp e0 = true
      · exact ps_none fun ρ st => by simp only [exS0]; rw [if_pos h1]
      · by_cases h2 : isSlice i = true
        · exact ps_none fun ρ st => by simp only [exS0]; rw [if_neg h1, if_pos h2]
        · refine ps_mono (ok_setItem ro ok a i e0 tp p (by simpa using h1) (by simpa using h2)) fun D σ H ⟨ρ, st, μ, ex, o, er, s, e, q⟩ => ⟨ρ, st, μ, ex, o, er, s, ?_, q⟩
          have e2 := e
          simp only [exS0] at e2
          rw [if_neg h1, if_neg h2] at e2
          exact e2
    | [.Tuple es kt pt] =>
      by_cases hpar : ∃ x px y py a b k2 pt2, es = [.Name x px, .Name y py] ∧ e0 = .Tuple [a, b] k2 pt2
      · obtain ⟨x, px, y, py, a, b, k2, pt2, rfl, rfl⟩ := hpar
        exact ok_par ro ok hfn x y px py pt pt2 p a b kt k2
      · have eq : ∀ ρ st, exS0 c mt sc (recN c (n + 1)) rb (.Assign [.Tuple es kt pt] e0 p) ρ st = (if (swapsE sc es e0 || (isComp e0 && !isLC1 e0)) = true then none else
            ((recN c (n + 1)).ev sc e0 ρ st).bind fun (w, st1) => (asgW c.N allB sc (.Tuple es kt pt) w ρ).map fun ρ1 => .nx ρ1 st1) := by
          intro ρ st
          unfold exS0
          split
          · rename_i h; cases h
          · rename_i h; cases h
          · rename_i h; cases h
          · rename_i h; cases h
          · rename_i h; cases h
          · rename_i h; cases h
          · rename_i h; cases h
          · rename_i h; cases h
          · rename_i h; cases h
          · rename_i h; cases h
          · rename_i h; cases h
          · rename_i h; cases h
          · rename_i h; cases h
          · rename_i h; cases h; exact absurd ⟨_, _, _, _, _, _, _, _, rfl, rfl⟩ hpar
          · rename_i h; cases h; rfl
          · rename_i h; exact absurd rfl (h _ _ _ _ _)
        refine ps_mono (ok_tupG ro ok es kt pt p e0 hfn) fun D σ H ⟨ρ, st, μ, ex, o, er, s, e, q⟩ => ⟨ρ, st, μ, ex, o, er, s, ?_, q⟩
        rw [eq ρ st] at e
        exact e
    | [.BoolOp ..] => exact ps_none fun _ _ => rfl
    | [.NamedExpr ..] => exact ps_none fun _ _ => rfl
    | [.BinOp ..] => exact ps_none fun _ _ => rfl
    | [.UnaryOp ..] => exact ps_none fun _ _ => rfl
    | [.Lambda ..] => exact ps_none fun _ _ => rfl
    | [.IfExp ..] => exact ps_none fun _ _ => rfl
    | [.Dict ..] => exact ps_none fun _ _ => rfl
    | [.Set ..] => exact ps_none fun _ _ => rfl
    | [.ListComp ..] => exact ps_none fun _ _ => rfl
    | [.SetComp ..] => exact ps_none fun _ _ => rfl
    | [.DictComp ..] => exact ps_none fun _ _ => rfl
    | [.GeneratorExp ..] => exact ps_none fun _ _ => rfl
    | [.Await ..] => exact ps_none fun _ _ => rfl
    | [.Yield ..] => exact ps_none fun _ _ => rfl
    | [.YieldFrom ..] => exact ps_none fun _ _ => rfl
    | [.Compare ..] => exact ps_none fun _ _ => rfl
    | [.Call ..] => exact ps_none fun _ _ => rfl
    | [.FormattedValue ..] => exact ps_none fun _ _ => rfl
    | [.JoinedStr ..] => exact ps_none fun _ _ => rfl
    | [.Constant ..] => exact ps_none fun _ _ => rfl
    | [.Attribute ..] => exact ps_none fun _ _ => rfl
    | [.Starred ..] => exact ps_none fun _ _ => rfl
    | [.List ..] => exact ps_none fun _ _ => rfl
    | [.Slice ..] => exact ps_none fun _ _ => rfl
  | _ => exact ps_none fun _ _ => rfl
/-- [] as a thing that may change -/
theorem pe_newobj (pos : Pos) : PE X (.List [] pos) (tW (bd fa X) fun ρ st => some (.obj st.length, st ++ [.lst []])) := by
  refine pe_mono (pe_lst pa_nil) fun σ H Q ⟨ρ, st, μ, ex, w, st', er, s, e, q⟩ => ?_
  cases e
  refine ⟨Nat.zero_le _, fun p n => ?_⟩
  have ho : OR (bd fa X) μ ex H (.lst []) p (some (.lst [])) := ⟨[], rfl, rfl⟩
  obtain ⟨cg, sg⟩ := s.grow n ho
  refine q _ _ _ ⟨⟨[p], rfl⟩, fun a u na h _ => ?_⟩ sg ⟨p, rfl, ?_⟩
  · have hap : a ≠ p := ne_of_none h n
    exact ⟨by rw [upd_ne hap]; exact h, fun z => (List.mem_append.mp z).elim na fun z => hap (by simpa using z)⟩
  · rw [← s.len, List.getElem?_append_right (Nat.le_refl _), Nat.sub_self]
    rfl
theorem evList_len {f : Expr → Rho → Sto → Option (W × Sto)} {ρ : Rho} : ∀ {es : List Expr} {st st' : Sto} {ws : List W}, evList f es ρ st = some (ws, st') → ws.length = es.length
  | [], _, _, _, h => by cases h; rfl
  | e :: es, st, st', ws, h => by
    unfold evList at h
    split at h
    · cases h
    obtain ⟨⟨w, st1⟩, e1, e2⟩ := Option.bind_eq_some_iff.mp h
    obtain ⟨⟨ws', st2⟩, e3, e4⟩ := Option.bind_eq_some_iff.mp e2
    cases e4
    rw [List.length_cons, List.length_cons, evList_len e3]
theorem ok_evN {r : Rec} (ro : RecOk c fa k r) (ok : Ok c fa X sc k) (e : Expr) : PE X e (tW (bd fa X) (evN (r.ev sc) e)) := by
  by_cases h : emptyL e = true
  · cases e <;> first | (cases h; done) | skip
    next es pos =>
    cases es <;> first | (cases h; done) | skip
    exact pe_newobj pos
  · refine pe_mono ((ro X sc ok).1 e) fun σ H Q ⟨ρ, st, μ, ex, w, st', er, s, e1, q⟩ => ⟨ρ, st, μ, ex, w, st', er, s, ?_, q⟩
    unfold evN at e1
    rw [if_neg h] at e1
    exact e1
theorem par3_pure {env : PySem.Env} {x y z : Str} {px py pz pt : Pos} {a b d : Expr} {kt k2 : Nat} {pt2 : Pos} (bk : env.blockKind = .function) (k1 : env.kindOf x = some .local) (k2' : env.kindOf y = some .local) (k3 : env.kindOf z = some .local) (hxy : (x == y) = false) (hxz : (x == z) = false) (hyz : (y == z) = false)
  (h4 : (px.line == py.line) = true) (h4' : (px.line == pz.line) = true) (st1 : isStar a = false) (st2 : isStar b = false) (st3 : isStar d = false) (h7 : (foldedForSure 8 a && (foldedForSure 8 b && foldedForSure 8 d)) = false) (h8 : (constantsAlone 8 a && (constantsAlone 8 b && constantsAlone 8 d)) = false) :
    swappedStores [.Tuple [.Name x px, .Name y py, .Name z pz] kt pt] (.Tuple [a, b, d] k2 pt2) env = pure (some [x, y, z]) := by
  unfold swappedStores
  have h5 : (py.line == px.line) = true := by rw [beq_iff_eq] at h4 ⊢; exact h4.symm
  have h5' : (pz.line == px.line) = true := by rw [beq_iff_eq] at h4' ⊢; exact h4'.symm
  have e2 : ∀ f : Expr → Option Str, f (.Name x px) = some x → f (.Name y py) = some y → f (.Name z pz) = some z → [Expr.Name x px, .Name y py, .Name z pz].filterMap f = [x, y, z] := fun f f1 f2 f3 => by
    simp only [List.filterMap_cons, List.filterMap_nil, f1, f2, f3]
  have f1 : (if (env.kindOf x == some NameKind.local && px.line == px.line) = true then some x else none) = some x := by rw [k1]; simp
  have f2 : (if (env.kindOf y == some NameKind.local && py.line == px.line) = true then some y else none) = some y := by rw [k2', h5]; rfl
  have f3 : (if (env.kindOf z == some NameKind.local && pz.line == px.line) = true then some z else none) = some z := by rw [k3, h5']; rfl
  have nd : ([x, y, z] : List Str).eraseDups.length = 3 := by
    have n1 : ¬ y = x := fun e => by rw [e] at hxy; simp at hxy
    have n2 : ¬ z = x := fun e => by rw [e] at hxz; simp at hxz
    have n3 : ¬ z = y := fun e => by rw [e] at hyz; simp at hyz
    simp [List.eraseDups_cons, n1, n2, n3]
  refine Eq.trans (if_neg ?_) (Eq.trans (if_neg ?_) (Eq.trans (if_neg ?_) (Eq.trans (if_neg ?_) (Eq.trans (if_neg ?_) ?_))))
  · rw [bk]; exact Bool.false_ne_true
  · have key : ∀ f : Expr → Bool, (∀ e, isStar e = false → f e = false) → ¬ ([a, b, d].any f = true) := fun f hf z => by
      rw [List.any_cons, List.any_cons, List.any_cons, hf a st1, hf b st2, hf d st3] at z
      cases z
    exact key _ fun e he => by cases e <;> first | rfl | (cases he; done)
  · rw [e2 _ f1 f2 f3, nd]; exact Bool.false_ne_true
  · show ¬ (foldedForSure 8 a && (foldedForSure 8 b && (foldedForSure 8 d && true))) = true
    rw [Bool.and_true, h7]; decide
  · show ¬ (constantsAlone 8 a && (constantsAlone 8 b && (constantsAlone 8 d && true))) = true
    rw [Bool.and_true, h8]; decide
  · show pure (some _) = pure (some [x, y, z])
    rw [e2 _ f1 f2 f3]
theorem asg1 {x : Str} {p : Pos} {es : List Expr} {w : W} {ws : List W} {ρ ρ' : Rho} (h : asgAll c.N allB sc (.Name x p :: es) (w :: ws) ρ = some ρ') : ∃ i, slot x c.N = some i ∧ asgAll c.N allB sc es ws (ρ.set i (some w)) = some ρ' := by
  unfold asgAll at h
  split at h
  · obtain ⟨i, h1, h2⟩ := Option.bind_eq_some_iff.mp h
    exact ⟨i, h1, h2⟩
  · cases h
theorem slot_ne {x y : Str} {i j : Nat} (hx : slot x c.N = some i) (hy : slot y c.N = some j) (h : (x == y) = false) : i ≠ j := fun e => by
  subst e
  have e1 := slot_ok hx
  rw [slot_ok hy] at e1
  cases e1
  simp at h
theorem news_inv {mt : List Str} {s : Stmt} {es vs : List Expr} {kt k2 : Nat} {pt pt2 : Pos} (h : newsForm mt s = some (es, kt, pt, vs, k2, pt2)) : ∃ p, s = .Assign [.Tuple es kt pt] (.Tuple vs k2 pt2) p ∧ vs.length < 100 := by
  unfold newsForm at h
  split at h
  · split at h
    · next hc => cases h; exact ⟨_, rfl, hc.2.2⟩
    · cases h
  · cases h
theorem ok_news {r : Rec} (ro : RecOk c fa k r) (ok : Ok c fa X sc k) (hfn : ∀ x, X.fn x = true) (es vs : List Expr) (kt k2 : Nat) (pt pt2 p : Pos) (hl : vs.length < 100) (hc : parsOk sc es vs = true ∨ swapsE sc es (.Tuple vs k2 pt2) = false) :
    PS X (.Assign [.Tuple es kt pt] (.Tuple vs k2 pt2) p) (tO (bd fa X) fun ρ st => (evList (evN (r.ev sc)) vs ρ st).bind fun (ws, st1) => (asgW c.N allB sc (.Tuple es kt pt) (.tup ws) ρ).map fun ρ1 => .nx ρ1 st1) := by
  have bk : X.env.blockKind = .function := by
    unfold PySem.Env.blockKind
    rw [ok.scE, ok.kind]
    rfl
  have kd : ∀ {x : Str}, sc.names.lookup x = some .local → X.env.kindOf x = some .local := fun {x} h => by unfold PySem.Env.kindOf; rw [ok.scE]; exact h
  have pa := ok_list (fun e => ok_evN (fa := fa) ro ok e)
  rcases hc with hc | hc
  · unfold parsOk at hc
    split at hc
    · next x px y py a b =>
      unfold parOk at hc
      simp only [Bool.and_eq_true, Bool.not_eq_true'] at hc
      obtain ⟨⟨⟨⟨⟨⟨⟨h1, h2⟩, h3⟩, h4⟩, h5⟩, h6⟩, h7⟩, h8⟩ := hc
      have l1 := getLocal h1
      have l2 := getLocal h2
      have sw := par_pure (env := X.env) (x := x) (y := y) (px := px) (py := py) (pt := pt) (a := a) (b := b) (kt := kt) (k2 := k2) (pt2 := pt2) bk (kd l1) (kd l2) h3 h4 h5 h6 h7 h8
      refine ⟨fun pins s σ H D I ⟨ρ, st, μ, ex, o, er, hs, e, q⟩ => ?_⟩
      obtain ⟨⟨ws, st1⟩, e1, e2⟩ := Option.bind_eq_some_iff.mp e
      obtain ⟨ρ1, e3, rfl⟩ := Option.map_eq_some_iff.mp e2
      obtain ⟨l, hl1, e4⟩ := asgW_inv e3
      rcases hl1 with hl1 | hl1
      case inr => cases hl1
      cases hl1
      obtain ⟨z1, _⟩ := asgAll_names e4
      match ws, z1, e1, e4 with
      | [v, w], _, e1, e4 =>
      obtain ⟨i, hi, e5⟩ := asg1 e4
      obtain ⟨j, hj, e6⟩ := asg1 e5
      cases e6
      refine (ps_par (i := i) (j := j) ok.calm (by rw [ok.N]; exact ok.nd) (by rw [ok.N]; exact slot_ok hi) (by rw [ok.N]; exact slot_ok hj) (slot_ne hi hj h3) (by rw [ok.scE]; exact l1) (by rw [ok.scE]; exact l2)
        (pa [a, b]) sw rfl).run pins s σ H D I ⟨ρ, st, μ, ex, _, _, er, hs, e1, fun μ1 H1 xs x1 s1 r1 => ?_⟩
      obtain ⟨u1, us, rfl, r2, r3⟩ := r1
      obtain ⟨u2, us, rfl, r4, r5⟩ := r3
      cases (show us = [] from r5)
      exact ⟨_, _, rfl, q μ1 H1 _ x1 s1 (((er.ext x1).set i r2).set j r4)⟩
    · next x px y py z pz a b d =>
      unfold par3Ok at hc
      simp only [Bool.and_eq_true, Bool.not_eq_true'] at hc
      obtain ⟨⟨⟨⟨⟨⟨⟨⟨⟨⟨⟨⟨h1, h2⟩, h3⟩, hxy⟩, hxz⟩, hyz⟩, h4⟩, h4'⟩, h5⟩, h6⟩, h6'⟩, h7⟩, h8⟩ := hc
      have l1 := getLocal h1
      have l2 := getLocal h2
      have l3 := getLocal h3
      have sw := par3_pure (env := X.env) (x := x) (y := y) (z := z) (px := px) (py := py) (pz := pz) (pt := pt) (a := a) (b := b) (d := d) (kt := kt) (k2 := k2) (pt2 := pt2) bk (kd l1) (kd l2) (kd l3) hxy hxz hyz h4 h4' h5 h6 h6' h7 h8
      refine ⟨fun pins s σ H D I ⟨ρ, st, μ, ex, o, er, hs, e, q⟩ => ?_⟩
      obtain ⟨⟨ws, st1⟩, e1, e2⟩ := Option.bind_eq_some_iff.mp e
      obtain ⟨ρ1, e3, rfl⟩ := Option.map_eq_some_iff.mp e2
      obtain ⟨l, hl1, e4⟩ := asgW_inv e3
      rcases hl1 with hl1 | hl1
      case inr => cases hl1
      cases hl1
      obtain ⟨z1, _⟩ := asgAll_names e4
      match ws, z1, e1, e4 with
      | [v, w, t], _, e1, e4 =>
      obtain ⟨i, hi, e5⟩ := asg1 e4
      obtain ⟨j, hj, e6⟩ := asg1 e5
      obtain ⟨l, hl', e7⟩ := asg1 e6
      cases e7
      refine (ps_par3 (i := i) (j := j) (l := l) ok.calm (by rw [ok.N]; exact ok.nd) (by rw [ok.N]; exact slot_ok hi) (by rw [ok.N]; exact slot_ok hj) (by rw [ok.N]; exact slot_ok hl') (slot_ne hi hj hxy) (slot_ne hi hl' hxz) (slot_ne hj hl' hyz) (by rw [ok.scE]; exact l1) (by rw [ok.scE]; exact l2) (by rw [ok.scE]; exact l3)
        (pa [a, b, d]) sw rfl).run pins s σ H D I ⟨ρ, st, μ, ex, _, _, er, hs, e1, fun μ1 H1 xs x1 s1 r1 => ?_⟩
      obtain ⟨u1, us, rfl, r2, r3⟩ := r1
      obtain ⟨u2, us, rfl, r4, r5⟩ := r3
      obtain ⟨u3, us, rfl, r6, r7⟩ := r5
      cases (show us = [] from r7)
      exact ⟨_, _, _, rfl, q μ1 H1 _ x1 s1 ((((er.ext x1).set i r2).set j r4).set l r6)⟩
    · cases hc
  · have sw : swapsWithSole [.Tuple es kt pt] (.Tuple vs k2 pt2) p.line X.env = pure false := by
      show swapsWith (.Tuple vs k2 pt2) (some (.Tuple es kt pt)) p.line X.env = pure false
      exact sw_no rfl
    have sw2 : swappedStores [.Tuple es kt pt] (.Tuple vs k2 pt2) X.env = pure none := swaps_pure (by rw [ok.scE]; exact hc)
    have tup : PE X (.Tuple vs k2 pt2) (tW (bd fa X) fun ρ st => (evList (evN (r.ev sc)) vs ρ st).map fun (ws, st1) => (.tup ws, st1)) := by
      refine pe_mono (pe_tup (pa vs)) fun σ H Q ⟨ρ, st, μ, ex, w, st', er, s, e, q⟩ => ?_
      obtain ⟨⟨ws, st1⟩, e1, e2⟩ := Option.map_eq_some_iff.mp e
      cases e2
      refine ⟨ρ, st, μ, ex, ws, _, er, s, e1, fun μ1 H1 xs x1 s1 r1 => ⟨?_, Post.tup s1 r1 (q.ext x1)⟩⟩
      have h1 := r1.length
      have h2 : ws.length = vs.length := evList_len e1
      have h3 : 100 ≤ sizeLine := by decide
      omega
    refine ps_mono (ps_asg tup (ok_g (lo := allB) ok (fun x _ => hfn x) (.Tuple es kt pt)) sw sw2) fun D σ H ⟨ρ, st, μ, ex, o, er, s, e, q⟩ => ?_
    obtain ⟨⟨ws, st1⟩, e1, e2⟩ := Option.bind_eq_some_iff.mp e
    obtain ⟨ρ1, e3, rfl⟩ := Option.map_eq_some_iff.mp e2
    refine ⟨ρ, st, μ, ex, .tup ws, st1, er, s, by show (evList _ vs ρ st).map _ = _; rw [e1]; rfl, fun μ1 H1 v x1 s1 r1 => ⟨ρ, st1, μ1, ex, .tup ws, ρ1, er.ext x1, s1, r1, e3, fun σ' er' _ => q μ1 H1 σ' x1 s1 er'⟩⟩
theorem ok_S (n : Nat) (ok : Ok c fa X sc k) (hfn : ∀ x, X.fn x = true) (hp : PassesOwn (model X.prog X.w) X.A X.env X.xe) (mt : List Str) {rb : Stmt → Rho → Sto → Option Out} (hb : ∀ s, PS X s (tO (bd fa X) (rb s))) (hst : X.stack = X.env :: X.outer) (hfr : X.env.frame = some X.env.locals)
    (hbT : ∀ pn xe, PassesOwn (model X.prog X.w) X.A X.env xe → ∀ s, PS (X.tr pn xe) s (tO (bd fa X) (rb s))) (s0 : Stmt) :
    PS X s0 (tO (bd fa X) (exS c mt sc (recN c (n + 1)) rb s0)) := by
  cases hn : newsForm mt s0 with
  | none =>
    refine ps_mono (ok_S0 n ok hfn hp mt hb hst hfr hbT s0) fun D σ H ⟨ρ, st, μ, ex, o, er, s, e, q⟩ => ⟨ρ, st, μ, ex, o, er, s, ?_, q⟩
    unfold exS at e
    rw [hn] at e
    exact e
  | some t =>
    obtain ⟨es, kt, pt, vs, k2, pt2⟩ := t
    obtain ⟨p, rfl, hl⟩ := news_inv hn
    by_cases hc : parsOk sc es vs = true ∨ swapsE sc es (.Tuple vs k2 pt2) = false
    case neg => exact ps_none fun ρ st => by unfold exS; rw [hn]; exact if_neg hc
    refine ps_mono (ok_news (rec_ok (n + 1)) ok hfn es vs kt k2 pt pt2 p hl hc) fun D σ H ⟨ρ, st, μ, ex, o, er, s, e, q⟩ => ⟨ρ, st, μ, ex, o, er, s, ?_, q⟩
    unfold exS at e
    rw [hn] at e
    dsimp only at e
    rw [if_pos hc] at e
    exact e
end
end MP
namespace MP
open PySem L2 PySem.Spec PyProof.Rows

/-! a def that ends with a new tuple -/
section
variable {c : Cfg} {fa : Str → Option Addr} {X : Cx} {sc : Scope} {k : Nat}
def rTN (K : PySem.W.Frag) : List V → Hp → VK → Prop := fun xs H Q => ∃ p ys, xs = [.ref p] ∧ SqL K H p ys ∧ ∀ a o, H a = none → o.dict = none → Q (.ref a) (upd H a (.frz o (.tup ys)))
theorem call_tupleN : CallR X (.type "tuple") (rTN X.K) := by
  intro pins s σ H xs us Q I r h
  obtain ⟨p, ys, rfl, hq, q⟩ := h
  obtain ⟨u, rfl, rx⟩ := vals1 r
  cases rx
  obtain ⟨its, r', pl, hz⟩ := I.list hq
  have hlen := r'.length
  refine call_tuple_list pl.isList (fun h' kp => ?_) (by simp only [List.size_toArray] <;> omega)
  have I1 : Inv X pins σ H { s with heap := h' } := I.kept (t' := s.toks) kp
  have I2 : Inv X pins σ (upd H h'.objs.size (.frz { cls := .type "tuple", data := .seq its.toArray } (.tup ys))) { s with heap := h'.push { cls := .type "tuple", data := .seq its.toArray } } :=
    I1.laid (t' := s.toks) (fun b o e => Heap.get?_push_of_some _ e) (Nat.le_refl _) (show ObjOk X.prog X.w _ _ _ (.frz _ (.tup ys)) from ⟨Heap.get?_push_size _ rfl, hz, its, r', IsTup.new _ _⟩)
  exact ⟨.ref h'.objs.size, _, I2, rfl, q _ _ (I1.hok.fresh (Nat.le_refl _)) rfl⟩
theorem lc_lst {r : Rec} {a : Expr} (h : isLC1 a = true) {ρ : Rho} {st st' : Sto} {w : W} (e : evE c r sc a ρ st = some (w, st')) : ∃ l, w = .lst l := by
  obtain ⟨elt, tg, iter, ifs, scope, p, rfl⟩ := isLC1_form h
  simp only [evE] at e
  split at e
  case isFalse => cases e
  obtain ⟨⟨l, st1⟩, e1, e2⟩ := Option.bind_eq_some_iff.mp e
  obtain ⟨⟨vs, st2⟩, e3, e4⟩ := Option.bind_eq_some_iff.mp e2
  dsimp only at e4
  split at e4
  · cases e4; exact ⟨_, rfl⟩
  · cases e4
theorem tup_ev {r : Rec} {n : Nat} {a : Expr} {p pos : Pos} (h : isLC1 a = true) (hg : glB sc "tuple" = true) (hb : ("tuple" : Str) ∈ c.g.bs) (hf : c.g.fns.lookup ("tuple" : Str) = none) {ρ : Rho} {st st' : Sto} {w : W}
    (e : (recN c (n + 2)).ev sc (.Call (.Name "tuple" p) [a] [] pos) ρ st = some (w, st')) : ∃ l, (recN c (n + 1)).ev sc a ρ st = some (.lst l, st') ∧ w = .tup l := by
  have hstar : isStar a = false := by obtain ⟨elt, tg, iter, ifs, scope, p, rfl⟩ := isLC1_form h; rfl
  have hspec : specOf "tuple" [a] = none := by obtain ⟨elt, tg, iter, ifs, scope, p, rfl⟩ := isLC1_form h; rfl
  have hok : okName "tuple" = true := by decide
  have e : evE c (recN c (n + 1)) sc (.Call (.Name "tuple" p) [a] [] pos) ρ st = some (w, st') := e
  simp only [evE, hspec, hf, hg, hb, hok, and_self, if_true] at e
  obtain ⟨⟨ws, st1⟩, e3, e4⟩ := Option.bind_eq_some_iff.mp e
  simp only [evList, hstar] at e3
  obtain ⟨⟨w1, st2⟩, e5, e6⟩ := Option.bind_eq_some_iff.mp (show ((recN c (n + 1)).ev sc a ρ st).bind _ = some (ws, st1) from e3)
  cases e6
  obtain ⟨l, rfl⟩ := lc_lst h (show evE c (recN c n) sc a ρ st = some (w1, st2) from e5)
  obtain ⟨v, e7, e8⟩ := Option.map_eq_some_iff.mp e4
  cases e8
  refine ⟨l, e5, ?_⟩
  have : callB st2 "tuple" [.lst l] = some (.tup l) := rfl
  rw [this] at e7
  cases e7
  rfl
/-- what holds where such a def ends -/
def tRT (B : Bd) (f : Rho → Sto → Option Out) : TS := fun D σ H => ∃ ρ st μ ex l st', EnvR B μ ex H ρ σ ∧ S B μ ex H st ∧ f ρ st = some (.rt (.tup l) st') ∧
  ∀ μ' H' a o xs, Ext μ H μ' H' → S B μ' ex H' st' → H' a = some (.frz o (.tup xs)) → o.dict = none → a ∉ μ' → RA B μ' ex H' l xs → D.rt (.ref a) H'
theorem ok_last (mt : List Str) (n : Nat) (rb : Stmt → Rho → Sto → Option Out) (ok : Ok c fa X sc k) (a : Expr) (p pos pos2 : Pos) (h : isLC1 a = true) (hg : glB sc "tuple" = true) (hb : ("tuple" : Str) ∈ c.g.bs) (hf : c.g.fns.lookup ("tuple" : Str) = none) :
    PS X (.Return (some (.Call (.Name "tuple" p) [a] [] pos)) pos2) (tRT (bd fa X) (exS c mt sc (recN c (n + 2)) rb (.Return (some (.Call (.Name "tuple" p) [a] [] pos)) pos2))) := by
  have hstar : isStar a = false := by obtain ⟨elt, tg, iter, ifs, scope, p, rfl⟩ := isLC1_form h; rfl
  have hok : okName "tuple" = true := by decide
  obtain ⟨h1, h2, h3⟩ := okName_ok hok
  have ro : RecOk c fa k (recN c (n + 1)) := rec_ok (n + 1)
  refine ps_mono (ps_ret (pe_callTy call_tupleN (gl_ok ok hg) (ok.bs _ hb) (by rfl) (pa_cons ((ro X sc ok).1 a) pa_nil (star_no hstar)) h3 h1 (star_no hstar) (by rfl))) fun D σ H ⟨ρ, st, μ, ex, l, st', er, s, e, q⟩ => ?_
  obtain ⟨⟨w, st1⟩, e1, e2⟩ := Option.map_eq_some_iff.mp (show ((recN c (n + 2)).ev sc (.Call (.Name "tuple" p) [a] [] pos) ρ st).map (fun (w, st1) => Out.rt w st1) = some (Out.rt (.tup l) st') from e)
  cases e2
  obtain ⟨l', e3, e4⟩ := tup_ev (r := recN c 0) h hg hb hf e1
  cases e4
  refine ⟨ρ, st, μ, ex, .lst l, st', er, s, e3, fun μ1 H1 x x1 s1 r1 => ?_⟩
  obtain ⟨p1, ys, rfl, f1, r2⟩ := r1
  refine ⟨p1, ys, rfl, f1.sq, fun a1 o hn hd => ?_⟩
  obtain ⟨x2, s2, np, nx⟩ := s1.new (o := .frz o (.tup ys)) hn
  exact q μ1 _ a1 o ys (x1.trans x2) s2 (if_pos rfl) hd np (r2.ext x2)
def NxO (x : Option Out) : Prop := ∀ o, x = some o → ∃ ρ st, o = .nx ρ st
theorem nxo_no : NxO none := fun _ h => nomatch h
theorem nxo_nx (ρ : Rho) (st : Sto) : NxO (some (.nx ρ st)) := fun _ h => by cases h; exact ⟨_, _, rfl⟩
theorem nxo_bind {α : Type} {x : Option α} {f : α → Option Out} (h : ∀ a, NxO (f a)) : NxO (x.bind f) := fun o e => by
  obtain ⟨a, _, e2⟩ := Option.bind_eq_some_iff.mp e
  exact h a o e2
theorem nxo_map {α : Type} {x : Option α} {f : α → Out} (h : ∀ a, ∃ ρ st, f a = .nx ρ st) : NxO (x.map f) := fun o e => by
  obtain ⟨a, _, e2⟩ := Option.map_eq_some_iff.mp e
  rw [← e2]
  exact h a
theorem nxo_ite {c : Prop} [Decidable c] {a b : Option Out} (h1 : NxO a) (h2 : NxO b) : NxO (if c then a else b) := by
  split <;> assumption
theorem exS0_plain (mt : List Str) (r : Rec) (rb : Stmt → Rho → Sto → Option Out) {s : Stmt} (h : plainS s = true) (ρ : Rho) (st : Sto) : NxO (exS0 c mt sc r rb s ρ st) := by
  unfold exS0
  split <;> first | (cases h; done) | skip
  · exact nxo_nx _ _
  · refine nxo_ite nxo_no ?_
    split
    · exact nxo_bind fun _ => nxo_ite (nxo_bind fun _ => nxo_map fun _ => ⟨_, _, rfl⟩) nxo_no
    · exact nxo_map fun _ => ⟨_, _, rfl⟩
  · exact nxo_ite nxo_no (nxo_ite (nxo_ite (nxo_bind fun _ => nxo_bind fun _ => nxo_map fun _ => ⟨_, _, rfl⟩) nxo_no) (nxo_bind fun _ => nxo_map fun _ => ⟨_, _, rfl⟩))
  · exact nxo_ite nxo_no (nxo_ite nxo_no (nxo_bind fun _ => nxo_bind fun _ => nxo_bind fun _ => nxo_map fun _ => ⟨_, _, rfl⟩))
  · exact nxo_ite (nxo_bind fun _ => nxo_bind fun _ => nxo_bind fun _ => nxo_map fun _ => ⟨_, _, rfl⟩) (nxo_ite nxo_no (nxo_bind fun _ => nxo_map fun _ => ⟨_, _, rfl⟩))
  · exact nxo_ite nxo_no (nxo_bind fun _ => nxo_map fun _ => ⟨_, _, rfl⟩)
  · exact nxo_no
theorem exN_plain (mt : List Str) : ∀ (n : Nat) {s : Stmt}, plainS s = true → ∀ (ρ : Rho) (st : Sto), NxO (exN c mt sc n s ρ st)
  | 0, _, _, _, _ => nxo_no
  | n + 1, s, h, ρ, st => by
    show NxO (exS c mt sc (recN c 40) (exN c mt sc n) s ρ st)
    unfold exS
    split
    · exact nxo_ite (nxo_bind fun _ => nxo_map fun _ => ⟨_, _, rfl⟩) nxo_no
    · exact exS0_plain mt _ _ h ρ st
theorem ok_seqT (mt : List Str) (n : Nat) (ok : Ok c fa X sc k) (hg : glB sc "tuple" = true) (hb : ("tuple" : Str) ∈ c.g.bs) (hf : c.g.fns.lookup ("tuple" : Str) = none) (h : ∀ s, PS X s (tO (bd fa X) (exN c mt sc (n + 1) s))) : ∀ ss, tupEnd ss = true → PSs X ss (tRT (bd fa X) (seqS (exN c mt sc (n + 1)) ss))
  | [], ht => by cases ht
  | [s0], ht => by
    unfold tupEnd at ht
    split at ht
    · next f p a pos pos2 he =>
      cases he
      rw [Bool.and_eq_true, beq_iff_eq] at ht
      obtain ⟨rfl, ha⟩ := ht
      refine pss_mono (pss_one (ok_last mt 38 (exN c mt sc n) ok a p pos pos2 ha hg hb hf)) fun D σ H ⟨ρ, st, μ, ex, l, st', er, s, e, q⟩ => ⟨ρ, st, μ, ex, l, st', er, s, ?_, q⟩
      unfold seqS at e
      obtain ⟨o1, e1, e2⟩ := Option.bind_eq_some_iff.mp e
      have e1 : exS c mt sc (recN c 40) (exN c mt sc n) _ ρ st = some o1 := e1
      cases o1 with
      | nx ρ1 st1 => cases e2
      | bk ρ st => cases e2
      | ct ρ st => cases e2
      | rt w st => rw [e1]; exact e2
    · next s ss _ he =>
      cases he
      rw [Bool.and_eq_true] at ht
      cases ht.2
    · cases ht
  | s0 :: s1 :: ss, ht => by
    have ht : (plainS s0 && tupEnd (s1 :: ss)) = true := by
      unfold tupEnd at ht
      split at ht
      · next he => cases he
      · next he => cases he; exact ht
      · cases ht
    rw [Bool.and_eq_true] at ht
    refine pss_mono (pss_cons (h s0) (ok_seqT mt n ok hg hb hf h (s1 :: ss) ht.2)) fun D σ H ⟨ρ, st, μ, ex, l, st', er, s, e, q⟩ => ?_
    unfold seqS at e
    obtain ⟨o1, e1, e2⟩ := Option.bind_eq_some_iff.mp e
    obtain ⟨ρ1, st1, rfl⟩ := exN_plain mt (n + 1) ht.1 ρ st o1 e1
    refine ⟨ρ, st, μ, ex, _, er, s, e1, fun μ1 H1 σ1 x1 s1 er1 => ⟨ρ1, st1, μ1, ex, l, st', er1, s1, e2, fun μ2 H2 a o xs x2 => q μ2 H2 a o xs (x1.trans x2)⟩⟩
end
end MP
namespace MP
open PySem L2 PySem.Spec PyProof.Rows

/-! statements that raise errors of the program's own -/
section
variable {c : Cfg} {fa : Str → Option Addr} {X : Cx} {sc : Scope} {k : Nat} {W0 : WX}
/-- x(e) -/
theorem pmk_e {x : Str} {C : Addr} {e : Expr} {t : TE} {p pos : Pos} (q : PySem.W.excIn X.K C [.type "ValueError", .type "Exception", .type "BaseException", .type "object"] "ValueError.__new__" = true) (hm : X.mg x = some (.ref C)) (hk : PySem.W.keepIn X.K (.ref C) = true) (rs : Raises X (.ref C)) (hg : Gl X x)
    (he : PE X e t) (hst : isStar e = false) (hd : (x == ("__debug__" : Str)) = false) : L2H.PMk5 X (.Call (.Name x p) [e] [] pos) (fun σ H Q => t σ H fun _ H1 => Q (.ref C) none H1) := by
  intro pins s σ H Q I h
  have sh : starEach [e] X.env = (false, eval e X.env) :: starEach [] X.env := star_no hst
  refine wpAny_Call_Name_kw (ld_glob I hg hm ?_ hd)
  refine PySem.W.callWith_K (h₀ := X.base) I.ok.mod.kin hk ?_ sh (by rfl)
  rw [sh]
  show wpAny _ _ (spliced ((false, eval e X.env) :: backTo pos (starEach [] X.env))) _ _ s
  refine Calls.spliced_cons (thn (he.run pins s σ H _ I h) fun u s1 ⟨v, H1, I1, _, q1⟩ => Calls.spliced_nil ⟨I1.kIn, ?_⟩)
  show wpAny _ _ (call (.ref C) [u]) _ _ _
  obtain ⟨_, _, _, _, _, _, _, _, _, _, _, _, _, _, _, _, _, hC, hN, hni, T⟩ := exc_obj I1.kIn q
  exact wpAny_call_exc_subT PySem.F.excBase_ValueError T hC hN hni (fun h' e hm => L2H.mk_of5 I1 hm rs q1 (I1.hok.gone hm.new)) (by show 1 ≤ sizeLine; decide)
/-- x(e), x's __init__ puts it into the field index -/
theorem pmk_ini {j : Nat} {x : Str} {C fI : Addr} {fd : FuncData} {e : Expr} {t : TE} {p pos : Pos} (T : OexC X.K C) (iC : PySem.W.findIn X.K (.ref C) "__init__" = some (some (.ref fI))) (tI : PySem.W.typeIn X.K (.ref fI) = some (.type "function"))
    (F1 : FnOk X.prog X.w X.K X.mg X.base CX0 j fI fd ["self", "index"] (spIni C)) (hr : Room (j + 1) X.A) (hb : Binds X.K fd ["self", "index"] []) (hg : Gl X x) (hm : X.mg x = some (.ref C)) (he : PE X e t) (hst : isStar e = false) (hd : (x == ("__debug__" : Str)) = false) :
    L2N.PMk X (.Call (.Name x p) [e] [] pos) (fun σ H Q => t σ H fun v H1 => ∀ d, H1 d = none → Q (.ref C) (some d) (upd H1 d (.xd [("index", v)]))) := by
  intro pins s σ H Q I h
  obtain ⟨nm, q, N, bs, bm, sn, sub, ab, col, dd, k0, k1, k2, k3, k5, hC, hbm⟩ := T.cls
  have sh : starEach [e] X.env = (false, eval e X.env) :: starEach [] X.env := star_no hst
  refine wpAny_Call_Name_kw (ld_glob I hg hm ?_ hd)
  refine PySem.W.callWith_K (h₀ := X.base) I.ok.mod.kin T.kC ?_ sh (by rfl)
  rw [sh]
  show wpAny _ _ (spliced ((false, eval e X.env) :: backTo pos (starEach [] X.env))) _ _ s
  refine Calls.spliced_cons (thn (he.run pins s σ H _ I h) fun u s1 ⟨v, H1, I1, r1, q1⟩ => Calls.spliced_nil ⟨I1.kIn, ?_⟩)
  show wpAny _ _ (call (.ref C) [u]) _ _ _
  obtain ⟨hp, g, dr, tk, os⟩ := s1
  have le1 : hp.objs.size ≤ hp.objs.size + 1 := Nat.le_succ _
  have na : H1 (hp.objs.size + 1) = none := I1.hok.fresh le1
  have keep : ∀ b o, hp.get? b = some o → ((hp.push (PySem.W.kdv_tup [u])).push (PySem.HandSPX.excO C hp.objs.size)).get? b = some o := fun b o e => Heap.get?_push_of_some _ (Heap.get?_push_of_some _ e)
  have there : ((hp.push (PySem.W.kdv_tup [u])).push (PySem.HandSPX.excO C hp.objs.size)).get? (hp.objs.size + 1) = some (PySem.HandSPX.excO C hp.objs.size) := by heap_get
  have I2 : Inv X pins σ (upd H1 (hp.objs.size + 1) (exo (hp.objs.size + 1) C none)) ⟨(hp.push (PySem.W.kdv_tup [u])).push (PySem.HandSPX.excO C hp.objs.size), g, dr, tk, os⟩ := I1.laid (t' := tk) (a := hp.objs.size + 1) keep le1 (exo_ok there)
  have two : Vals [V.ref (hp.objs.size + 1), v] [Value.ref (hp.objs.size + 1), u] := .cons rfl (.cons r1 .nil)
  have prom : spIni C [V.ref (hp.objs.size + 1), v] (upd H1 (hp.objs.size + 1) (exo (hp.objs.size + 1) C none)) (fun w H2 => w = .non ∧ ∃ d, d ≠ hp.objs.size + 1 ∧ H1 d = none ∧ H2 = upd (upd (upd H1 (hp.objs.size + 1) (exo (hp.objs.size + 1) C none)) d (exd d [("index", v)])) (hp.objs.size + 1) (exo (hp.objs.size + 1) C (some d))) L2.E0 :=
    ⟨_, v, rfl, upd_same, fun d hd hne => ⟨rfl, d, hne, by rw [upd_ne hne] at hd; exact hd, rfl⟩⟩
  refine wpAny_call (PySem.HandSPX.call_own PySem.F.excBase_ValueError (fun Y => PySem.HandSPX.refsVE_contains Y bm hbm) (I1.kIn _ _ hC) (PySem.W.looks_findIn I1.kIn iC) (fun self => PySem.W.bind_fn I1.kIn self tI) (by show 1 ≤ sizeLine; decide)
    (codeAny_mono (F1.run _ X.stack _ _ ⟨[Value.ref (hp.objs.size + 1), u], []⟩ [Value.ref (hp.objs.size + 1), u] _ _ L2.E0 (hr.make C [u] []) (I2.env0.make C [u] []) (hb _ [Value.ref (hp.objs.size + 1), u] I2.kIn rfl) two prom) fun r s' hq => ?_))
  cases r with
  | error er => exact (show False from hq).elim
  | ok fl =>
    cases fl with
    | ret u2 =>
      obtain ⟨v2, H2, os2, bare2, un2, hok2, rv, rfl, d, hne, hd1, rfl⟩ := hq
      obtain ⟨h2, g2, d2, t2, os'⟩ := s'
      have ea : upd (upd (upd H1 (hp.objs.size + 1) (exo (hp.objs.size + 1) C none)) d (exd d [("index", v)])) (hp.objs.size + 1) (exo (hp.objs.size + 1) C (some d)) (hp.objs.size + 1) = some (exo (hp.objs.size + 1) C (some d)) := upd_same
      have ed : upd (upd (upd H1 (hp.objs.size + 1) (exo (hp.objs.size + 1) C none)) d (exd d [("index", v)])) (hp.objs.size + 1) (exo (hp.objs.size + 1) C (some d)) d = some (exd d [("index", v)]) := by rw [upd_ne hne, upd_same]
      obtain ⟨t0, G, J, kG, ge, hoe, nd⟩ := mk_end0 (d2 := d2) (t2 := t2) I1 le1 keep un2 hok2 os2 bare2 ea ed hd1
      have hH : upd (del (upd (upd (upd H1 (hp.objs.size + 1) (exo (hp.objs.size + 1) C none)) d (exd d [("index", v)])) (hp.objs.size + 1) (exo (hp.objs.size + 1) C (some d))) (hp.objs.size + 1)) d (.xd [("index", v)]) = upd H1 d (.xd [("index", v)]) := by
        funext b
        by_cases hb1 : b = d
        · rw [hb1, upd_same, upd_same]
        · rw [upd_ne hb1, upd_ne hb1]
          by_cases hb2 : b = hp.objs.size + 1
          · rw [hb2, del_same, na]
          · rw [del_ne hb2, upd_ne hb2, upd_ne hb1, upd_ne hb2]
      refine ⟨rv, ⟨hp.objs.size + 1, _, _, ⟨G, g2, d2, t2, os'⟩, _, .ref C, some d, rfl, J, kG, ge, hoe, ⟨rfl, rfl, fun vs e => by cases e; rfl⟩, rfl, rfl, nd, rfl, bare2, raises_own T.exC T.tyC, ?_⟩⟩
      rw [hH]
      exact q1 d hd1
    | next => exact False.elim hq
    | brk => exact False.elim hq
    | cont => exact False.elim hq
theorem ok_raise {r : Rec} (ro : RecOk c fa k r) (ok : Ok c fa X sc k) (h2 : Room (k + 2) X.A) (tk : L2N.Takes X W0) (e : Expr) (pos : Pos) : PS X (.Raise (some e) none pos) (fun _ σ H => tZS (bd fa X) (fun ρ st => (raiseW c sc r e ρ st).map fun (x, st1) => (x, ρ, st1)) W0 σ H) := by
  refine ⟨fun pins s σ H D I h => ?_⟩
  obtain ⟨ρ, st, μ, ex, x0, ρ', st', er, s', e0, q⟩ := h
  obtain ⟨⟨x1, st1⟩, e1, e2⟩ := Option.map_eq_some_iff.mp e0
  cases e2
  unfold raiseW at e1
  split at e1
  case h_2 => cases e1
  next x p a p2 =>
  split at e1
  case isFalse => cases e1
  next hc =>
  obtain ⟨hg, hn, hst, hcl⟩ := hc
  obtain ⟨h1, _, _⟩ := okName_ok hn
  obtain ⟨l, hl⟩ := Option.isSome_iff_exists.mp hcl
  obtain ⟨C, KC⟩ := ok.cls x l hl
  obtain ⟨⟨w, st2⟩, e3, e4⟩ := Option.bind_eq_some_iff.mp e1
  dsimp only at e4
  by_cases hi : x ∈ c.g.ini
  · rw [if_pos hi] at e4
    cases e4
    obtain ⟨C', fI, fd, g1, g2, T, iC, tI, b, F⟩ := (ok.ini x hi).ex
    have : C' = C := Option.some.inj (g1.symm.trans KC.atF)
    subst this
    refine (L2N.ps_raise ok.calm tk (pmk_ini T iC tI F (h2.mono (by omega)) b (gl_ok ok hg) g2 ((ro X sc ok).1 a) hst h1)).run pins s σ H D I ⟨ρ, st, μ, ex, w, _, er, s', e3, fun μ1 H1 v xe s1 r1 d hd => ?_⟩
    obtain ⟨y1, y2, y3, y4⟩ := s1.new (o := .xd [("index", v)]) hd
    exact q μ1 _ σ _ _ (xe.trans y1) y2 (er.ext (xe.trans y1)) ⟨C', d, v, KC.atF, rfl, rfl, upd_same, y3, y4, r1.ext y1⟩
  · rw [if_neg hi] at e4
    cases e4
    refine (L2N.ps_raise ok.calm tk (L2H.PMk5.pmk (pmk_e (KC.xp hi) KC.atG KC.kp (raises_own KC.ec.hs KC.ty) (gl_ok ok hg) ((ro X sc ok).1 a) hst h1))).run pins s σ H D I ⟨ρ, st, μ, ex, w, _, er, s', e3, fun μ1 H1 v xe s1 r1 => ?_⟩
    exact q μ1 H1 σ _ _ xe s1 (er.ext xe) ⟨rfl, C, KC.atF, rfl⟩
theorem ok_forZ {asg : W → Rho → Option Rho} {body : Rho → Sto → Option Out} {zb : Rho → Sto → Option (Exn × Rho × Sto)} {tgR : TG} {tb : TS} {B : Bd} {D : Ends} {x0 : Exn} {ρ0 : Rho} {st0 : Sto}
    (hg : ∀ v σ H Q, (∃ ρ st μ ex w ρ', EnvR B μ ex H ρ σ ∧ S B μ ex H st ∧ R B μ ex H w v ∧ asg w ρ = some ρ' ∧ ∀ σ', EnvR B μ ex H ρ' σ' → Q σ' H) → tgR v σ H Q) (hb : ∀ D σ H, (tO B body D σ H ∨ tZS B zb W0 σ H) → tb D σ H)
    {J : It} {l : List W} {ρ : Rho} {st : Sto} {μ ex : List Addr} {σ : L2.St} {H : Hp} (wk : Wk B J μ ex H l) (er : EnvR B μ ex H ρ σ) (s : S B μ ex H st) (e : forZ asg body zb l ρ st = some (x0, ρ0, st0))
    (q : ∀ μ' H' σ' cls d, Ext μ H μ' H' → S B μ' ex H' st0 → EnvR B μ' ex H' ρ0 σ' → XR B μ' ex H' x0 cls d → W0 cls d σ' H') :
    ∃ Wp : Nat → Nat → L2.St → Hp → Prop, (∃ m, Wp 0 m σ H) ∧ ∀ i m σ H, Wp i m σ H →
      (J.stop i H ∧ D.nx σ H) ∨ (J.go i H ∧ ∃ N : L2.St → Hp → Prop, (∀ σ' H', N σ' H' → ∃ m', m' < m ∧ Wp (i + 1) m' σ' H') ∧ ∀ x H', J.yld i H x H' → tgR x σ H' fun σ2 H2 => tb { D with nx := N, ct := N, bk := D.nx } σ2 H2) := by
  obtain ⟨G, Y, wlk, hG, hY⟩ := wk
  refine for_it wlk (fun i σ' H' => ∃ μ' ρ' st', Ext μ H μ' H' ∧ S B μ' ex H' st' ∧ EnvR B μ' ex H' ρ' σ' ∧ forZ asg body zb (l.drop i) ρ' st' = some (x0, ρ0, st0)) ⟨μ, ρ, st, Ext.refl _ _, s, er, e⟩ ?_ ?_ ?_
  · rintro i σ' H' hi ⟨μ', ρ', st', x1, _⟩
    exact hG _ _ _ x1.chg
  · rintro i x σ' H' H2 hi ⟨μ', ρ', st', x1, s1, er1, e1⟩ hy
    rw [List.drop_eq_getElem_cons hi] at e1
    obtain ⟨xe, s2, r2⟩ := hY i l[i] st' μ' ex H' x H2 (List.getElem?_eq_getElem hi) x1.chg s1 hy
    unfold forZ at e1
    obtain ⟨ρ1, e2, e3⟩ := Option.bind_eq_some_iff.mp e1
    have x2 : Ext μ H μ' H2 := x1.trans xe
    refine hg _ _ _ _ ⟨ρ', st', μ', ex, l[i], ρ1, er1.ext xe, s2, r2, e2, fun σ2 er2 => hb _ _ _ ?_⟩
    split at e3
    · next y hy =>
      cases e3
      exact .inr ⟨ρ1, st', μ', ex, x0, ρ0, st0, er2, s2, hy, fun μ3 H3 σ3 cls d x3 => q μ3 H3 σ3 cls d (x2.trans x3)⟩
    · obtain ⟨o1, e4, e5⟩ := Option.bind_eq_some_iff.mp e3
      refine .inl ⟨ρ1, st', μ', ex, o1, er2, s2, e4, ?_⟩
      cases o1 with
      | nx ρ2 st2 => exact fun μ3 H3 σ3 x3 s3 er3 => ⟨μ3, ρ2, st2, x2.trans x3, s3, er3, e5⟩
      | ct ρ2 st2 => exact fun μ3 H3 σ3 x3 s3 er3 => ⟨μ3, ρ2, st2, x2.trans x3, s3, er3, e5⟩
      | bk ρ2 st2 => cases e5
      | rt w st2 => cases e5
  · rintro σ' H' ⟨μ', ρ', st', x1, s1, er1, e1⟩
    rw [List.drop_length] at e1
    cases e1
theorem rzT_other {r : Rec} {z : RecZ} {rb : Stmt → Rho → Sto → Option Out} {zb : Stmt → Rho → Sto → Option (Exn × Rho × Sto)} {s0 : Stmt} (h1 : ∀ e p, s0 ≠ .Raise (some e) none p) (h2 : ∀ t a b p, s0 ≠ .If t a b p) (h3 : ∀ t i b p, s0 ≠ .For t i b [] p) (h4 : ∀ es kt pt e p, s0 ≠ .Assign [.Tuple es kt pt] e p) (ρ : Rho) (st : Sto) : rzT c sc r z rb zb s0 ρ st = rzS c sc z s0 ρ st := by
  unfold rzT
  split
  · exact absurd rfl (h1 _ _)
  · exact absurd rfl (h2 _ _ _ _)
  · exact absurd rfl (h3 _ _ _ _)
  · exact absurd rfl (h4 _ _ _ _ _)
  · rfl
theorem ok_zT {rb : Stmt → Rho → Sto → Option Out} {zb : Stmt → Rho → Sto → Option (Exn × Rho × Sto)} (ok : Ok c fa X sc k) (h2 : Room (k + 2) X.A) (hfn : ∀ x, X.fn x = true) (hp : PassesOwn (model X.prog X.w) X.A X.env X.xe) (tk : L2N.Takes X W0) (n : Nat)
    (hb : ∀ s, PS X s (tO (bd fa X) (rb s))) (hz : ∀ s, PS X s (fun _ σ H => tZS (bd fa X) (zb s) W0 σ H)) (s0 : Stmt) : PS X s0 (fun _ σ H => tZS (bd fa X) (rzT c sc (recN c n) (recZ c n) rb zb s0) W0 σ H) := by
  have ro : RecOk c fa k (recN c n) := rec_ok n
  have zo : ZOk c fa k (recZ c n) := z_ok n
  by_cases c1 : ∃ e p, s0 = .Raise (some e) none p
  · obtain ⟨e, p, rfl⟩ := c1
    exact ok_raise ro ok h2 tk e p
  by_cases c2 : ∃ t a b p, s0 = .If t a b p
  · obtain ⟨t, a, b, p, rfl⟩ := c2
    refine ps_mono (ps_if ((ro X sc ok).2 t) (ok_zQ hb hz a) (ok_zQ hb hz b)) fun D σ H ⟨ρ, st, μ, ex, x, ρ', st', er, s, e, q⟩ => ?_
    obtain ⟨⟨kk, st1⟩, e1, e2⟩ := Option.bind_eq_some_iff.mp (show ((recN c n).ts sc t ρ st).bind _ = some (x, ρ', st') from e)
    refine ⟨ρ, st, μ, ex, kk, st1, er, s, e1, fun μ1 H1 x1 s1 => ?_⟩
    cases kk with
    | true =>
      rw [if_pos rfl]
      exact ⟨ρ, st1, μ1, ex, x, ρ', st', er.ext x1, s1, by simpa using e2, fun μ2 H2 σ2 cls d x2 => q μ2 H2 σ2 cls d (x1.trans x2)⟩
    | false =>
      rw [if_neg (by decide)]
      exact ⟨ρ, st1, μ1, ex, x, ρ', st', er.ext x1, s1, by simpa using e2, fun μ2 H2 σ2 cls d x2 => q μ2 H2 σ2 cls d (x1.trans x2)⟩
  by_cases c3 : ∃ t i b p, s0 = .For t i b [] p
  · obtain ⟨tg, it, body, p, rfl⟩ := c3
    by_cases hs : isSetE it = true
    · exact zs_none fun ρ st => if_pos hs
    · refine ps_mono (ps_for hp ok.calm (ok_iter ro ok tg it) (ok_g (lo := allB) ok (fun x _ => hfn x) tg) (pss_or2 (ok_seq hb body) (ok_zQ hb hz body)) (fun x => by cases it <;> first | rfl | exact absurd rfl hs)) fun D σ H ⟨ρ, st, μ, ex, x, ρ', st', er, s, e, q⟩ => ?_
      have e : (if isSetE it = true then none else (iterW ((recN c n).ev sc) (evList ((recN c n).ev sc)) c.g sc (isTupE tg) it ρ st).bind fun (l, st1) => forZ (asgW c.N allB sc tg) (seqS rb body) (rzQ rb zb body) l ρ st1) = some (x, ρ', st') := e
      rw [if_neg hs] at e
      obtain ⟨⟨l, st1⟩, e1, e2⟩ := Option.bind_eq_some_iff.mp e
      refine ⟨ρ, st, μ, ex, l, st1, er, s, e1, fun μ1 H1 J x1 s1 wk => ?_⟩
      refine ok_forZ (W0 := W0) (B := bd fa X) (asg := asgW c.N allB sc tg) (body := seqS rb body) (zb := rzQ rb zb body) ?_ (fun _ _ _ h => h) wk (er.ext x1) s1 e2 (fun μ2 H2 σ2 cls d x2 => q μ2 H2 σ2 cls d (x1.trans x2))
      rintro v σ H Q ⟨ρ, st, μ, ex, w, ρ', er, s, r1, e, q⟩
      exact ⟨ρ, st, μ, ex, w, ρ', er, s, r1, e, fun σ' er' _ => q σ' er'⟩
  by_cases c4 : ∃ es kt pt e p, s0 = .Assign [.Tuple es kt pt] e p
  · obtain ⟨es, kt, pt, e0, p, rfl⟩ := c4
    by_cases hc : isTupE e0 = true ∨ isComp e0 = true
    · exact zs_none fun ρ st => if_pos hc
    · have hnc : isComp e0 = false := by
        cases h : isComp e0 with
        | false => rfl
        | true => exact absurd (.inr h) hc
      have sw2 : swappedStores [.Tuple es kt pt] e0 X.env = pure none := by
        cases e0 <;> first | rfl | exact absurd (.inl rfl) hc
      refine ps_mono (ps_asg (zo X sc W0 ok tk e0) (ok_g (lo := allB) ok (fun x _ => hfn x) (.Tuple es kt pt)) (show swapsWith e0 (some (.Tuple es kt pt)) p.line X.env = pure false from sw_no hnc) sw2) fun D σ H h => tZS_of ?_
      obtain ⟨ρ, st, μ, ex, x, ρ', st', er, s, e, q⟩ := h
      refine ⟨ρ, st, μ, ex, x, ρ', st', er, s, ?_, q⟩
      have e : (if isTupE e0 = true ∨ isComp e0 = true then none else ((recZ c n).rz sc e0 ρ st).map fun (x, st1) => (x, ρ, st1)) = some (x, ρ', st') := e
      rw [if_neg hc] at e
      exact e
  refine ps_mono (ok_zS ok hfn tk n s0) fun D σ H ⟨ρ, st, μ, ex, x, ρ', st', er, s, e, q⟩ => ⟨ρ, st, μ, ex, x, ρ', st', er, s, ?_, q⟩
  rw [rzT_other (fun e p h => c1 ⟨e, p, h⟩) (fun t a b p h => c2 ⟨t, a, b, p, h⟩) (fun t i b p h => c3 ⟨t, i, b, p, h⟩) (fun es kt pt e p h => c4 ⟨es, kt, pt, e, p, h⟩)] at e
  exact e
end
section
variable {c : Cfg} {fa : Str → Option Addr} {sc : Scope} {k : Nat}
theorem ok_zN (mt : List Str) : ∀ (n : Nat) (X : Cx) (W0 : WX), Ok c fa X sc k → Room (k + 2) X.A → (∀ x, X.fn x = true) → PassesOwn (model X.prog X.w) X.A X.env X.xe → L2N.Takes X W0 → (∀ (m : Nat) (s : Stmt), PS X s (tO (bd fa X) (exN c mt sc m s))) → ∀ s : Stmt, PS X s (fun _ σ H => tZS (bd fa X) (rzN c mt sc n s) W0 σ H)
  | 0, X, W0, ok, h2, hfn, hp, tk, hb, s => zs_none fun _ _ => rfl
  | n + 1, X, W0, ok, h2, hfn, hp, tk, hb, s => ok_zT ok h2 hfn hp tk 40 (hb n) (ok_zN mt n X W0 ok h2 hfn hp tk hb) s
end
end MP
namespace MP
open PySem L2 PySem.Spec PyProof.Rows

/-! try: .. except X: raise Y("..") from None, in a def's own suite -/
section
variable {c : Cfg} {fa : Str → Option Addr} {X : Cx} {sc : Scope} {k : Nat} {W0 : WX}
theorem fromW_inv {g : Gam} {sc : Scope} {su : List Stmt} {y : Str} (h : fromW g sc su = some y) : ∃ py z jz pz pc jn pn' pr, su = [.Raise (some (.Call (.Name y py) [.Constant (.str z) jz pz] [] pc)) (some (.Constant .none jn pn')) pr] ∧
    glB sc y = true ∧ okName y = true ∧ (g.cls.lookup y).isSome = true ∧ y ∉ g.ini := by
  unfold fromW at h
  split at h
  · split at h
    · next hc => cases h; exact ⟨_, _, _, _, _, _, _, _, rfl, hc⟩
    · cases h
  · cases h
theorem ok_zF {rb : Stmt → Rho → Sto → Option Out} {zb : Stmt → Rho → Sto → Option (Exn × Rho × Sto)} (ok : Ok c fa X sc k) (hs : X.stack = X.env :: X.outer) (hf : X.env.frame = some X.env.locals)
    (hpa : ∀ hd : Option Value, PassesOwnAt (model X.prog X.w) (X.A.mark hd) X.A X.env X.xe) (hp : PassesOwn (model X.prog X.w) X.A X.env X.xe) (tk : L2.Takes X W0)
    (hb : ∀ (pn : List (Addr × Obj)) (xe : Value → Shared → Prop), PassesOwn (model X.prog X.w) X.A X.env xe → ∀ s, PS (X.tr pn xe) s (tO (bd fa X) (rb s)))
    (hz : ∀ s, PS X s (fun _ σ H => tZS (bd fa X) (zb s) W0 σ H))
    (hzT : ∀ (W : WX) (pn : List (Addr × Obj)) (xe : Value → Shared → Prop), PassesOwn (model X.prog X.w) X.A X.env xe → L2N.Takes (X.tr pn xe) W → ∀ s, PS (X.tr pn xe) s (fun _ σ H => tZS (bd fa X) (zb s) W σ H)) (s0 : Stmt) :
    PS X s0 (fun _ σ H => tZS (bd fa X) (rzF c sc rb zb s0) W0 σ H) := by
  by_cases hc : ∃ body x np suite pos' pos, s0 = .Try body [.ExceptHandler (some (.Name x np)) none suite pos'] [] [] pos
  case neg =>
    refine ps_mono (hz s0) fun D σ H h => ?_
    have : rzF c sc rb zb s0 = zb s0 := by
      funext ρ st
      unfold rzF
      split
      · exact absurd ⟨_, _, _, _, _, _, rfl⟩ hc
      · rfl
    rw [this] at h
    exact h
  obtain ⟨body, x, np, suite, pos', pos, rfl⟩ := hc
  have red : ∀ ρ st, rzF c sc rb zb (.Try body [.ExceptHandler (some (.Name x np)) none suite pos'] [] [] pos) ρ st = (if glB sc x = true ∧ okName x = true ∧ (c.g.cls.lookup x).isSome = true then
      (fromW c.g sc suite).bind fun y => (rzQ rb zb body ρ st).bind fun (e, ρ1, st1) => (hitW c.g x y e).map fun e1 => (e1, ρ1, st1) else none) := fun _ _ => rfl
  by_cases h1 : glB sc x = true ∧ okName x = true ∧ (c.g.cls.lookup x).isSome = true
  case neg => exact zs_none fun ρ st => by rw [red, if_neg h1]
  cases h2 : fromW c.g sc suite with
  | none => exact zs_none fun ρ st => by rw [red, if_pos h1, h2]; rfl
  | some y =>
  obtain ⟨py, z, jz, pz, pc, jn, pn', pr, rfl, h3⟩ := fromW_inv h2
  obtain ⟨hg, hn, hcl⟩ := id h1
  obtain ⟨yg, yn, ycl, yni⟩ := id h3
  obtain ⟨x1, x2, x3⟩ := okName_ok hn
  obtain ⟨y1, y2, y3⟩ := okName_ok yn
  obtain ⟨lx, hlx⟩ := Option.isSome_iff_exists.mp hcl
  obtain ⟨ly, hly⟩ := Option.isSome_iff_exists.mp ycl
  obtain ⟨Cx0, KX⟩ := ok.cls x lx hlx
  obtain ⟨Cy, KY⟩ := ok.cls y ly hly
  have glx : Gl X x := gl_ok ok hg
  have gly : Gl X y := gl_ok ok yg
  refine ps_mono (L2H.ps_try_onlyX (c := .ref Cx0) (np := np) (pos := pos) (pos' := pos') (suite := []) (b₀ := .Raise (some (.Call (.Name y py) [.Constant (.str z) jz pz] [] pc)) (some (.Constant .none jn pn')) pr)
    (tb := fun W _ σ H => tZS (bd fa X) (rzQ rb zb body) W σ H) (ts := fun _ _ _ _ σ H => W0 (.ref Cy) none σ H) (Wout := W0) hs hf ⟨glx, x1, .inl KX.atG⟩ hpa tk (fun W pn xe tkn _ po => ok_zQ (X := X.tr pn xe) (hb pn xe po) (hzT W pn xe po tkn) body)
    (fun a oe cls d pn hzz hff tks hot => ?_)) fun D σ H h => ?_
  · refine pss_one (ps_mono (L2H.ps_raiseHN hot tks (pmk_e (X := L2H.suiteX X a ((a, oe) :: pn)) (KY.xp yni) KY.atG KY.kp (raises_own KY.ec.hs KY.ty) gly pe_str (by rfl) y1)) fun D σ H h => ?_)
    exact h
  · obtain ⟨ρ, st, μ, ex, x0, ρ', st', er, s, e, q⟩ := h
    rw [red, if_pos h1] at e
    rw [h2] at e
    obtain ⟨⟨e1, ρ1, st1⟩, e2, e3⟩ := Option.bind_eq_some_iff.mp (show (rzQ rb zb body ρ st).bind _ = _ from e)
    obtain ⟨e4, e5, e6⟩ := Option.map_eq_some_iff.mp e3
    cases e6
    refine ⟨ρ, st, μ, ex, e1, ρ', st', er, s, e2, fun μ1 H1 σ1 cls d x1 s1 er1 r1 => ?_⟩
    cases e1 with
    | key => cases e5
    | own cn v =>
      obtain ⟨l, e7, e8⟩ := Option.bind_eq_some_iff.mp (show ((c.g.cls.lookup cn).bind fun l => if l.contains x = true then some (Exn.own y none) else none) = some _ from e5)
      split at e8
      case isFalse => cases e8
      next hin =>
      cases e8
      have hcls : ∃ C, fa cn = some C ∧ cls = .ref C := by
        cases v with
        | none => obtain ⟨_, C, h1, h2⟩ := r1; exact ⟨C, h1, h2⟩
        | some w => obtain ⟨C, _, _, h1, h2, _⟩ := r1; exact ⟨C, h1, h2⟩
      obtain ⟨C, hC, rfl⟩ := hcls
      obtain ⟨C', KC⟩ := ok.cls cn l e7
      have : C' = C := Option.some.inj (KC.atF.symm.trans hC)
      subst this
      obtain ⟨D', f1, f2, _⟩ := KC.exm x lx hlx
      have : D' = Cx0 := Option.some.inj (f1.symm.trans KX.atF)
      subst this
      refine ⟨l.contains x, f2, fun _ ax _ => q μ1 H1 σ1 _ _ x1 s1 er1 ⟨rfl, Cy, KY.atF, rfl⟩, fun hno => ?_⟩
      rw [hin] at hno
      cases hno
end
end MP
namespace MP
open PySem L2 PySem.Spec PyProof.Rows PySem.W

/-! the __init__ of an own error class: super().__init__("..."); self.index = index -/
/-- what the written part says of it -/
structure IniIn (P : Program) (K : PySem.W.Frag) (C fI : Addr) (qual : Str) (params : Arguments) (body : List Stmt) (scope : Scope) : Prop where
  ex : ∃ (oc dV kV doc pm ct : Value) (od an : Option Addr) (osl : Array (Option Value)) (cda cc : Addr) (ccl cl : Value) (cdd cld : Option Addr) (vs : Array Value) (ccs csl : Array (Option Value)) (file : Str) (tf : Tok),
    K.lookup fI = some ⟨oc, od, .func (fnX "__init__" qual params body scope [("__class__", cc)] dV kV doc pm an (.ref cda) ct), osl⟩ ∧ codeIn K (.ref cda) qual = true ∧
    K.lookup cda = some ⟨ccl, cdd, .fields vs, ccs⟩ ∧ vs[2]? = some (.str file tf) ∧ ((P.main.file : Str) == file) = true ∧ K.lookup cc = some ⟨cl, cld, .cell (some (.ref C)), csl⟩
  oex : OexC K C
  mro : mroIn K C (.ref C) = some true
  sup : ks_superIn K C C "__init__" = some (some (.builtin "ValueError.__init__"))
  sub : subIn K (.ref C) (.type "ValueError") = some true
  opq : nsIn K cStatics "thirdparty.any" = some none
  no : findIn K (.ref C) "index" = some none
  top : (P.main.scope.names.lookup ("super" : Str)).isSome = false
theorem ini_fn {P : Program} {w : World} {K : PySem.W.Frag} {mg : Str → Option Value} {base : Heap} {C fI : Addr} {qual : Str} {params : Arguments} {scope : Scope} {z : Str} {j : Nat} {p0 p1 p2 p3 p4 p5 p6 p7 p8 p9 : Pos}
    (T : IniIn P K C fI qual params [.Expr (.Call (.Attribute (.Call (.Name "super" p0) [] [] p1) "__init__" p2) [.Constant (.str z) j p3] [] p4) p5, .Assign [.Attribute (.Name "self" p6) "index" p7] (.Name "index" p8) p9] scope)
    (hsup : mg "super" = none) (hp : ∃ ar, (params.posonlyargs ++ params.args).head? = some ar ∧ ar.arg = "self")
    (hks : scope.names.lookup ("super" : Str) = some .globalImplicit) (hkc : scope.names.lookup ("__class__" : Str) = some .free) (hsf : scope.names.lookup ("self" : Str) = some .local) (hix : scope.names.lookup ("index" : Str) = some .local)
    (hev : ∀ env : Env, ∃ pl : Sem Bool, eval (.Call (.Attribute (.Call (.Name "super" p0) [] [] p1) "__init__" p2) [.Constant (.str z) j p3] [] p4) env = (do
      let ov ← attributeBase (.Call (.Name "super" p0) [] [] p1) "__init__" env (eval (.Call (.Name "super" p0) [] [] p1) env)
      standAt p2.atName
      let (f, first) ← holding [ov] (getMethod ov "__init__" pl)
      callWith p4 f first (backTo p4 (starEach [.Constant (.str z) j p3] env)) []))
    (hcell : ∀ x ∈ scope.names, x.2 ≠ .cell) (hco : scope.isCoroutine = false) (hgen : scope.isGenerator = false) (hk : scope.kind = .function) :
    ∀ fd, (∃ oc od osl, K.lookup fI = some ⟨oc, od, .func fd, osl⟩) → FnOk P w K mg base CX0 1 fI fd ["self", "index"] (spIni C) := by
  rintro fd ⟨oc0, od0, osl0, hfd⟩
  refine ⟨fun vs H Q E ⟨a, v, e, _⟩ => by subst e; rfl, fun A outer s H args us vs Q E hr e0 hb r ⟨a, v, e, ea, q⟩ => ?_⟩
  subst e
  obtain ⟨oc, dV, kV, doc, pm, ct, od, an, osl, cda, cc, ccl, cl, cdd, cld, vs, ccs, csl, file, tf, lk, hcd, hcode, hvs, hfile, hcc⟩ := T.ex
  rw [lk] at hfd
  cases hfd
  cases r with
  | @cons _ ua _ ur ra rr =>
  cases rr with
  | @cons _ u _ ur2 ru rn =>
  cases rn
  obtain rfl : ua = Value.ref a := ra
  obtain ⟨t1, ho⟩ := exo_at e0.hok ea
  obtain ⟨nm, qn, N, bs, bm, sn, sub, ab, col, dd, k0, k1, k2, k3, k5, hC, hbm⟩ := T.oex.cls
  have hcl : PySem.W.clsIn K C = some { name := nm, bases := bs, mro := .ref C :: bm, ns := N, qualname := qn, hasDict := true, slotNames := sn, subclasses := sub, abstract := ab, collection := col, hasDel := false } := by unfold PySem.W.clsIn; rw [hC] <;> rfl
  have KX : K.In s.heap := e0.mod.kin.keeps fun b o e => (e0.bs b o e).1
  have lim : s.heap.NoLimit := e0.mod.nolimit.keeps fun b o e => (e0.bs b o e).1
  obtain ⟨mb, hb1, hb2⟩ := e0.mod.blt
  obtain ⟨ar, har, har2⟩ := hp
  have hnd : ∀ {b : Addr} {o : Obj}, K.lookup b = some o → b ≠ a := fun {b o} h z => by
    subst z
    have := (e0.bs b o (e0.mod.kin _ _ h)).2
    rw [ea] at this
    cases this
  have haC : a ≠ C := fun z => hnd hC z.symm
  obtain ⟨hp, g, d, t, os⟩ := s
  refine ks_codeAny_call_defAt (fd := fnX "__init__" qual params _ scope [("__class__", cc)] dV kV doc pm an (.ref cda) ct) (binds := (["self", "index"] : List Str).zip [Value.ref a, u]) hr.depth (KX _ _ lk) rfl lim (codeRec_of KX hcd) rfl hb hcell ?_ (fun h1 hns kp1 => ?_) hco hgen hk
  · intro y hy
    rcases List.mem_cons.mp hy with rfl | hy
    · exact hsf
    · rcases List.mem_cons.mp hy with rfl | hy
      · exact hix
      · cases hy
  have K1 : K.In h1 := KX.keeps kp1
  have ho1 := kp1 _ _ ho
  obtain ⟨pl, hev⟩ := hev (callEnv (fnX "__init__" qual params [.Expr (.Call (.Attribute (.Call (.Name "super" p0) [] [] p1) "__init__" p2) [.Constant (.str z) j p3] [] p4) p5, .Assign [.Attribute (.Name "self" p6) "index" p7] (.Name "index" p8) p9] scope [("__class__", cc)] dV kV doc pm an (.ref cda) ct) hp.objs.size fI)
  refine ks_wpAt_execs_cons (ks_wpAt_Expr_any (ks_wpAt_MethodCall (pl := pl) ?_ hev) (by simp [interactive, callEnv, newEnv, hk]))
  refine ks_wpAt_super_base (env := callEnv (fnX "__init__" qual params _ scope [("__class__", cc)] dV kV doc pm an (.ref cda) ct) hp.objs.size fI) hks hkc (by decide) rfl (K1 _ _ lk) rfl har rfl (K1 _ _ hcode) rfl hvs hfile T.top ?_
  have G1 : h1.Ns mainGlobals mg := (e0.mod.glob.keeps fun b o e => (e0.bs b o e).1).keeps kp1
  have B1 : h1.Ns builtinsNs mb := (hb1.keeps fun b o e => (e0.bs b o e).1).keeps kp1
  refine ks_loadName_global hk hks (Calls.loadGlobal_builtin G1 hsup B1 ((hb2 _ (by decide)).trans Boot.«super») ⟨rfl, ?_⟩)
  refine wpAny_loadName_free hk hkc rfl ⟨_, K1 _ _ hcc, rfl⟩ ?_
  rw [har2]
  refine wpAny_loadName_local hk hsf hns rfl ?_
  refine ks_wpAny_isType_cls (K1 _ _ hC) rfl ⟨rfl, ?_⟩
  refine ks_wpAny_call_super (K1 _ _ hC) rfl ho1 rfl (fun c z => by cases z) (looks_mroIn K1 T.mro) (fun h2 e2 kp2 => ?_)
  have K2 : K.In h2 := K1.keeps kp2
  have ho2 := kp2 _ _ ho1
  have hm := T.sup
  unfold ks_superIn at hm
  rw [hcl] at hm
  have I2 : InstAt h2 a ({ cls := .ref C, dict := none, data := .fields #[.ref t1, .none, .none, .none, .bool false, .none] } : Obj) C none := ⟨ho2, rfl, rfl, trivial⟩
  refine kxs_getMethod kxs_ValueError e2 (looks_opaque K2 T.opq) (l₀ := .ref C :: bm) (fun A Q E s k q => wpAny_bind ((looks_clsIn K2 hcl) A _ E s k (wpAny_pure q))) rfl K2 hm (I2.type.andThen (looks_subIn K2 T.sub)) haC (by decide) ?_
  dsimp only
  have kp3 : ∀ b o, h2.get? b = some o → (h2.push (kxs_mw "ValueError.__init__" a)).get? b = some o := fun b o e => Heap.get?_push_of_some _ e
  have hu : (h2.push (kxs_mw "ValueError.__init__" a)).get? h2.objs.size = some (kxs_mw "ValueError.__init__" a) := Heap.get?_push_at rfl rfl
  have lt2 := Heap.lt_size ho2
  have hua : h2.objs.size ≠ a := Nat.ne_of_gt lt2
  generalize hh3 : h2.push (kxs_mw "ValueError.__init__" a) = h3 at kp3 hu ⊢
  refine kxs_callWith (i := "ValueError.__init__") (x := a) rfl (Calls.evalArgs_plain (Calls.spliced_cons (Calls.Constant_str (k := j) (pos := p3) (Calls.spliced_nil ⟨hu, ?_⟩))))
  dsimp only
  have ho3 := kp3 _ _ ho2
  refine wpAny_call (codeAny_of_tree ?_)
  show wpAny _ (A.deeper _).in1 (callAny (.ref h2.objs.size) ⟨[_], []⟩) _ _ _
  simp only [callAny]
  refine wpAny_bind (wpAny_load hu ?_)
  simp only [kxs_mw, show (Value.type "method-wrapper" == Value.type "method" || Value.type "method-wrapper" == Value.type "builtin_function_or_method" || Value.type "method-wrapper" == Value.type "method-wrapper") = true by decide, if_true]
  refine KFB.if_so (by decide) ?_
  have K3 : K.In h3 := K2.keeps kp3
  refine wpAny_bind (check_bound_init F.excBase_ValueError.toExcCallFacts (K3 _ _ hC) ho3 rfl ?_)
  refine wpAny_bind (wpAny_pure (wpAny_pure ?_))
  refine ⟨plainId_quiet F.excBase_ValueError.init.plain _, codeAny_builtin F.excBase_ValueError.initEntry ?_⟩
  refine exc_init_tree (cls := .ref C) (t0 := t1) (dv := none) (c2 := .none) (c3 := .none) (b4 := .bool false) ho3 (by show 1 ≤ sizeLine; decide) (fun h4 kp4 ho4 _ => ?_)
  have K4 : K.In h4 := fun b o e => kp4 b o (hnd e) (K3 b o e)
  have ns4 : h4.Ns hp.objs.size (fun x => ((["self", "index"] : List Str).zip [Value.ref a, u]).reverse.lookup x) := by
    have hL : hp.objs.size ≠ a := Nat.ne_of_gt (Heap.lt_size ho)
    obtain ⟨oL, es, ep, hL1, rr⟩ := hns
    exact ⟨oL, es, ep, kp4 _ _ hL (kp3 _ _ (kp2 _ _ hL1)), rr⟩
  refine wpAt_of_wpAny ?_
  refine wpAny_execs_cons (plainObj_wpAny_Assign_Attribute (wpAny_Name (wpAny_loadName_local hk hix ns4 rfl (wpAny_Name (wpAny_loadName_local hk hsf ns4 rfl ?_) (by decide))) (by decide)) ?_)
  · refine set_plain K4 (ox := { cls := .ref C, dict := none, data := .fields #[.ref h3.objs.size, .none, .none, .none, .bool false, .none] }) (od := none) ⟨ho4, rfl, rfl, trivial⟩ T.oex.sa ?_
    refine PySem.HandSPX.exc_osa K4 ho4 hcl (show PySem.HandSPX.refsVE (.ref C :: bm) = true from hbm) rfl T.no (fun h5 tk5 dx kp5 dn dne hx hn => ?_)
    dsimp only
    refine wpAny_execs_nil ?_
    dsimp only
    have up4 : ∀ b o, b ≠ a → hp.get? b = some o → h4.get? b = some o := fun b o n e => kp4 b o n (kp3 _ _ (kp2 _ _ (kp1 _ _ e)))
    have up5 : ∀ b o, b ≠ a → hp.get? b = some o → h5.get? b = some o := fun b o n e => kp5 b o n (up4 b o n e)
    have lt4 : hp.objs.size < h4.objs.size := by
      obtain ⟨oL, _, _, hL1, _⟩ := ns4
      exact Heap.lt_size hL1
    have hnd : H dx = none := e0.hok.fresh (Nat.le_of_lt (Nat.lt_of_lt_of_le lt4 dn))
    have ndx : ∀ {b : Addr} {o : Obj}, hp.get? b = some o → b ≠ dx := fun {b o} e => Nat.ne_of_lt (Nat.lt_trans (Heap.lt_size e) (Nat.lt_of_lt_of_le lt4 dn))
    have na : ∀ {b : Addr}, H b = none → b ≠ a := fun {b} n z => by
      rw [z, ea] at n
      cases n
    have Un1 : Un (frs outer) [] H (upd (upd H dx (exd dx [("index", v)])) a (exo a C (some dx))) hp h5 := {
      keep := fun b o q n _ _ => up5 b o (na n) q
      slot := fun b o q n _ _ => ⟨o.slots, up5 b o (na n) q⟩
      free := fun b o q n _ => by rw [upd_ne (na n), upd_ne (ndx q)]; exact n
      there := fun b o q _ => by
        by_cases hb : b = a
        · exact ⟨_, by rw [hb]; exact hx⟩
        · exact ⟨o, up5 b o hb q⟩
      tups := fun b xs q => by rw [upd_ne (at_ne ea q exo_tup), upd_ne (ne_of_none q hnd)]; exact q
      frzs := fun b o v q => by rw [upd_ne (at_ne ea q exo_frz), upd_ne (ne_of_none q hnd)]; exact q
      tbls := fun b ps q => ⟨#[], by rw [upd_ne (at_ne ea q exo_tbl), upd_ne (ne_of_none q hnd), q]; simp⟩ }
    refine ⟨.non, _, rfl, e0.bare, Un1, fun b o q => ?_, rfl, q dx hnd dne⟩
    by_cases hb : b = a
    · subst hb
      rw [upd_same] at q
      cases q
      exact exo_ok hx
    · rw [upd_ne hb] at q
      by_cases hd : b = dx
      · subst hd
        rw [upd_same] at q
        cases q
        exact exd_ok hn (relO_put (fs := []) ru fun g => True.intro)
      · rw [upd_ne hd] at q
        exact (e0.hok b o q).stay (fun c v hc z => up5 c v (by
            rcases hc with hc | hc
            · rw [hc]
              exact hb
            · exact at_ne ea hc exo_own) z)
          (fun c hc => by rw [upd_ne (at_ne ea hc exo_own), upd_ne (ne_of_none hc hnd)]; exact hc) (fun c xs hc => by rw [upd_ne (at_ne ea hc exo_tup), upd_ne (ne_of_none hc hnd)]; exact hc)
  · rfl
/-- what the top must have of it -/
structure IniTop (P : Program) (K : PySem.W.Frag) (mg : Str → Option Value) (fa : Str → Option Addr) (x : Str) : Prop where
  ex : ∃ (C fI : Addr) (fd : FuncData), fa x = some C ∧ mg x = some (.ref C) ∧ OexC K C ∧ findIn K (.ref C) "__init__" = some (some (.ref fI)) ∧ typeIn K (.ref fI) = some (.type "function") ∧ Binds K fd ["self", "index"] [] ∧
    ∀ (w : World) (base : Heap), FnOk P w K mg base CX0 1 fI fd ["self", "index"] (spIni C)
theorem IniTop.at {P : Program} {K : PySem.W.Frag} {mg : Str → Option Value} {fa : Str → Option Addr} {x : Str} (T : IniTop P K mg fa x) (w : World) (base : Heap) : IniAt P w K mg base fa 1 x := by
  obtain ⟨C, fI, fd, h1, h2, h3, h4, h5, h6, h7⟩ := T.ex
  exact ⟨C, fI, fd, h1, h2, h3, h4, h5, h6, h7 w base⟩
theorem IniTop.fam {P : Program} {K : PySem.W.Frag} {mg : Str → Option Value} {fa fa' : Str → Option Addr} (h : ∀ f a, fa f = some a → fa' f = some a) {x : Str} (T : IniTop P K mg fa x) : IniTop P K mg fa' x := by
  obtain ⟨C, fI, fd, h1, r⟩ := T.ex
  exact ⟨C, fI, fd, h _ _ h1, r⟩
end MP
namespace MP
open PySem L2 PySem.Spec PyProof.Rows

section
variable {B : Bd} {μ ex : List Addr} {H : Hp}
theorem OR.take {n : Nat} {o : O} {a : Addr} {h : Option HO} (hs : stillO o = true) (x : OR B μ ex H o a h) : OR B (μ.take n) ex H o a h := by
  cases o with
  | lst l => obtain ⟨xs, q, r⟩ := x; exact ⟨xs, q, RA.takeM _ _ hs r⟩
  | dk ks vs => obtain ⟨kvs, q, q2, r⟩ := x; exact ⟨kvs, q, q2, RA.takeM _ _ hs r⟩
  | dt ks vs => obtain ⟨kvs, q, kt, q2, r⟩ := x; exact ⟨kvs, q, fun x hx => (kt x hx).take, q2, RA.takeM _ _ hs r⟩
theorem S.take {st : Sto} {n : Nat} (s : S B μ ex H st) (hs : (st.take n).all stillO = true) : S B (μ.take n) ex H (st.take n) := by
  have nd := s.nd
  rw [List.nodup_append] at nd
  refine ⟨?_, by rw [List.length_take, List.length_take, s.len], fun i o e => ?_, s.exs, s.tab.step fun b u nb q => ⟨q, fun z => nb.1 (List.mem_of_mem_take z), nb.2⟩⟩
  · rw [List.nodup_append]
    exact ⟨List.Nodup.sublist (List.take_sublist _ _) nd.1, nd.2.1, fun x hx y hy => nd.2.2 x (List.mem_of_mem_take hx) y hy⟩
  · have hi : i < n := by
      have := (List.getElem?_eq_some_iff.mp e).1
      rw [List.length_take] at this
      omega
    rw [List.getElem?_take_of_lt hi] at e
    obtain ⟨a, h1, h2⟩ := s.obj i o e
    refine ⟨a, by rw [List.getElem?_take_of_lt hi]; exact h1, h2.take ?_⟩
    exact List.all_eq_true.mp hs o (List.mem_of_getElem? (by rw [List.getElem?_take_of_lt hi]; exact e))
theorem back_ok {st : Sto} {n : Nat} {w w' : W} {v : V} (s : S B μ ex H st) (r : R B μ ex H w v) (e : back n w st = some w') : R B (μ.take n) ex H w' v := by
  have nd := s.nd
  rw [List.nodup_append] at nd
  have apart : ∀ m a, ¬ m < n → μ[m]? = some a → a ∉ μ.take n := fun m a hm h z => by
    obtain ⟨i, hi, e1⟩ := List.mem_iff_getElem.mp z
    rw [List.length_take] at hi
    rw [List.getElem_take] at e1
    have e2 : μ[i]? = some a := by rw [List.getElem?_eq_getElem (by omega), e1]
    have := nd_ix nd.1 e2 h
    omega
  have exx : ∀ m a, μ[m]? = some a → a ∉ ex := fun m a h z => nd.2.2 a (List.mem_of_getElem? h) a z rfl
  cases w with
  | obj m =>
    unfold back at e
    dsimp only at e
    split at e
    · cases e
    next hm =>
    obtain ⟨a, rfl, h1⟩ := r
    split at e
    · next l hst =>
      split at e
      case isFalse => cases e
      next hl =>
      cases e
      obtain ⟨a', h2, xs, h3, h4⟩ := s.obj _ _ hst
      rw [h1] at h2
      cases h2
      exact ⟨_, xs, rfl, ⟨h3, apart m _ hm h1, exx m _ h1⟩, RA.takeM _ _ hl h4⟩
    · next ks l hst =>
      split at e
      case isFalse => cases e
      next hl =>
      cases e
      obtain ⟨a', h2, xs, h3, h5, h4⟩ := s.obj _ _ hst
      rw [h1] at h2
      cases h2
      exact ⟨_, xs, rfl, ⟨h3, apart m _ hm h1, exx m _ h1⟩, h5, RA.takeM _ _ hl h4⟩
    · next ks l hst =>
      split at e
      case isFalse => cases e
      next hl =>
      cases e
      obtain ⟨a', h2, xs, h3, kt, h5, h4⟩ := s.obj _ _ hst
      rw [h1] at h2
      cases h2
      exact ⟨_, xs, rfl, ⟨h3, apart m _ hm h1, exx m _ h1⟩, fun x hx => (kt x hx).take, h5, RA.takeM _ _ hl h4⟩
    · cases e
  | _ =>
    unfold back at e
    dsimp only at e
    split at e
    · next hs => cases e; exact R.take _ _ hs r
    · cases e
theorem start_ok {N : List Str} {ws : List W} {vs : List V} (r : RA B μ ex H ws vs) : EnvR B μ ex H (startR N ws) (L2.start N vs) := by
  refine ⟨by unfold startR L2.start; simp [r.length], fun i w q => ?_⟩
  unfold startR at q
  by_cases hi : i < ws.length
  · rw [List.getElem?_append_left (by simpa using hi), List.getElem?_map] at q
    obtain ⟨w', e1, e2⟩ := Option.map_eq_some_iff.mp q
    cases e2
    obtain ⟨v, e3, r3⟩ := r.get e1
    refine ⟨v, ?_, r3⟩
    unfold L2.start
    rw [List.getElem?_append_left (by rw [List.length_map, ← r.length]; exact hi), List.getElem?_map, e3]
    rfl
  · rw [List.getElem?_append_right (by simpa using hi)] at q
    rw [List.getElem?_replicate] at q
    split at q <;> cases q
end
section
variable {c : Cfg} {fa : Str → Option Addr} {X : Cx} {sc : Scope} {k : Nat}
theorem ok_exN (mt : List Str) : ∀ (n : Nat) (X : Cx), Ok c fa X sc k → (∀ x, X.fn x = true) → PassesOwn (model X.prog X.w) X.A X.env X.xe → X.stack = X.env :: X.outer → X.env.frame = some X.env.locals → ∀ s : Stmt, PS X s (tO (bd fa X) (exN c mt sc n s))
  | 0, X, ok, hfn, hp, hst, hfr, s => ps_none fun _ _ => rfl
  | n + 1, X, ok, hfn, hp, hst, hfr, s => ok_S 39 ok hfn hp mt (ok_exN mt n X ok hfn hp hst hfr) hst hfr (fun pn xe po => ok_exN mt n (X.tr pn xe) (okTr ok pn xe) hfn po hst hfr) s
end
/-- the top's facts -/
structure TopAt (g : Gam) (P : Program) (w : World) (K : PySem.W.Frag) (mg : Str → Option Value) (fa : Str → Option Addr) : Prop where
  fns : ∀ f d, g.fns.lookup f = some d → DefAt K mg fa f d
  cs : ∀ x w', g.cs.lookup x = some w' → ∃ u v, mg x = some u ∧ RelV v u ∧ ∀ μ ex H, R ⟨P, w, K, fa⟩ μ ex H w' v
  bs : ∀ x, x ∈ g.bs → mg x = none
  tys : ∀ x, x ∈ g.tys → mg x = none ∧ bootBuiltins x = some (.type x.toString)
  cls : ∀ x l, g.cls.lookup x = some l → ∃ C, ClsAt K mg fa g x l C
  ini : ∀ x, x ∈ g.ini → IniTop P K mg fa x
/-- a def in which lambdas are made: its code object, its table -/
structure LamAt (K : PySem.W.Frag) (fa : Str → Option Addr) (f : Str) (d : Fn) (cc P : Addr) : Prop where
  ex : ∃ (a : Addr) (oc : Value) (od : Option Addr) (kV doc pm : Value) (an : Option Addr) (ct : Value) (osl : Array (Option Value)), fa f = some a ∧
    K.lookup a = some ⟨oc, od, .func (PySem.W.fnOf f d.qual (defArgs d.st) (defBody d.st) (defScope d.st) .none kV doc pm an (.ref cc) ct), osl⟩
  tb : tabsOf fa = [(P, d.qual ++ ".<locals>." ++ "<lambda>")]
theorem XR.take {B : Bd} {μ ex : List Addr} {H : Hp} {n : Nat} {x : Exn} {cls : Value} {d : Option Addr} (hs : stillX x = true) (h : XR B μ ex H x cls d) : XR B (μ.take n) ex H x cls d := by
  cases x with
  | key => exact h
  | own z v =>
    cases v with
    | none => exact h
    | some w =>
      obtain ⟨C, a, v, h1, h2, h3, h4, h5, h6, h7⟩ := h
      exact ⟨C, a, v, h1, h2, h3, h4, not_take h5, h6, R.take _ _ hs h7⟩
theorem call_ok {g : Gam} {P : Program} {w : World} {K : PySem.W.Frag} {mg : Str → Option Value} {fa : Str → Option Addr} {base : Heap} (T : TopAt g P w K mg fa) (hL : ∀ f d, g.fns.lookup f = some d → d.lam = true → ∃ cc Pt, LamAt K fa f d cc Pt ∧ LamX.TabB base mg cc Pt) :
    ∀ (k : Nat) (f : Str) (d : Fn) (a : Addr) (fd : FuncData), g.fns.lookup f = some d → fa f = some a → Fun K f d.qual d.st a fd → FnOk P w K mg base CX0 (3 * k) a fd d.ps (spOf ⟨P, w, K, fa⟩ (callK g k) f d.ps.length) ∧
      FnOk P w K mg base (L2N.CX P w) (3 * k) a fd d.ps (spZ ⟨P, w, K, fa⟩ (callR g k) f d.ps.length) ∧
      (tupOk g d = true → FnOk P w K mg base CX0 (3 * k) a fd d.ps (spT ⟨P, w, K, fa⟩ (callK g k) f d.ps.length)) ∧
      FnOk P w K mg base (L2.CX P w) (3 * k) a fd d.ps (spZ ⟨P, w, K, fa⟩ (callF g k) f d.ps.length)
  | 0, f, d, a, fd, hf, ha, F => ⟨⟨fun vs H Q E ⟨ws, st, μ, ex, w', st', hl, r, s, e, q⟩ => (by cases e), fun A outer s H args us vs Q E _ _ _ _ ⟨ws, st, μ, ex, w', st', hl, r, s', e, q⟩ => (by cases e)⟩,
      ⟨fun vs H Q E ⟨ws, st, μ, ex, w', st', hl, r, s, e, q⟩ => (by cases e), fun A outer s H args us vs Q E _ _ _ _ ⟨ws, st, μ, ex, w', st', hl, r, s', e, q⟩ => (by cases e)⟩,
      fun _ => ⟨fun vs H Q E ⟨ws, st, μ, ex, w', st', hl, r, s, e, q⟩ => (by cases e), fun A outer s H args us vs Q E _ _ _ _ ⟨ws, st, μ, ex, w', st', hl, r, s', e, q⟩ => (by cases e)⟩,
      ⟨fun vs H Q E ⟨ws, st, μ, ex, w', st', hl, r, s, e, q⟩ => (by cases e), fun A outer s H args us vs Q E _ _ _ _ ⟨ws, st, μ, ex, w', st', hl, r, s', e, q⟩ => (by cases e)⟩⟩
  | k + 1, f, d, a, fd, hf, ha, F => by
    have D := T.fns f d hf
    have okc : ∀ (X : Cx), X.prog = P → X.w = w → X.K = K → X.mg = mg → X.base = base → X.N = d.N → X.env.scope = defScope d.st → X.calm = true → Room (3 * k + 2) X.A → (d.lam = true → ∃ cc Pt, tabsOf fa = [(Pt, X.env.qual ++ "<lambda>")] ∧ X.env.code = .ref cc ∧ LamX.TabB base mg cc Pt) →
        Ok ⟨g, d.N, callK g k, callR g k, callF g k, d.lam⟩ fa X (defScope d.st) (3 * k) := by
      intro X h1 h2 h3 h4 h5 h6 h7 h8 h9 h10
      subst h1 h2 h3 h4 h5
      refine ⟨h6, D.sc.nd, h7, D.sc.kind, h8, h9.mono (by omega), T.cs, T.bs, T.tys, fun f' d' h' => ?_, T.fns, T.cls, fun f' d' h' => ?_, fun x hx => (T.ini x hx).at _ _, fun hl => ⟨h9, h10 hl⟩⟩
      · obtain ⟨a', fd', h1, h2, h3, F', b'⟩ := (T.fns f' d' h').ex
        have := call_ok T hL k f' d' a' fd' h' h1 F'
        exact ⟨a', fd', h1, h2, h3, b', this.1, this.2.1, this.2.2.1⟩
      · obtain ⟨a', fd', h1, h2, h3, F', b'⟩ := (T.fns f' d' h').ex
        exact ⟨a', fd', h1, h2, h3, b', (call_ok T hL k f' d' a' fd' h' h1 F').2.2.2⟩
    obtain ⟨oc, od, kV, doc, pm, an, cdv, ct, osl, rfl, lk, hcd⟩ := F.ex
    have hcode : d.lam = true → ∃ cc Pt, tabsOf fa = [(Pt, d.qual ++ ".<locals>." ++ "<lambda>")] ∧ cdv = .ref cc ∧ LamX.TabB base mg cc Pt := fun hl => by
      obtain ⟨cc, Pt, LA, TB⟩ := hL f d hf hl
      obtain ⟨a', oc', od', kV', doc', pm', an', ct', osl', e1, e2⟩ := LA.ex
      have : a' = a := Option.some.inj (e1.symm.trans ha)
      subst this
      rw [lk] at e2
      cases e2
      exact ⟨cc, Pt, LA.tb, rfl, TB⟩
    have cut : ∀ {μ μ1 ex : List Addr} {H H1 : Hp} {st : Sto}, S ⟨P, w, K, fa⟩ μ ex H st → Ext μ H μ1 H1 → μ1.take st.length = μ := fun {μ μ1 ex H H1 st} s' x => by
      obtain ⟨t, rfl⟩ := x.pre
      rw [← s'.len, List.take_left]
    have ext : ∀ {μ μ1 : List Addr} {H H1 : Hp}, Ext μ H μ1 H1 → Ext μ H μ H1 := fun {μ μ1 H H1} x => ⟨⟨[], by simp⟩, fun b o n h z => ⟨(x.kept b o n h z).1, n⟩⟩
    refine ⟨?_, ?_, ?_, ?_⟩
    · refine fn_of lk hcd D.sc (fun vs H Q E ⟨ws, st, μ, ex, w', st', hl, r, s, e, q⟩ => by rw [← r.length]; exact hl) (k := 3 * k + 2) (fun A outer s H vs Q E hr ⟨ws, st, μ, ex, w', st', hl, r, s', e, q⟩ => ?_)
      have ok := okc (cxOf CX0 P w K mg base d.N d.qual (defScope d.st) a cdv A outer s H E).nox rfl rfl rfl rfl rfl rfl rfl rfl hr hcode
      refine ⟨_, (ok_seq (ok_exN d.mt 20 _ ok (fun _ => rfl) PassesOwn.never rfl rfl) (defBody d.st)).nox, ?_⟩
      unfold callK calls at e
      dsimp only at e
      rw [hf] at e
      simp only [Option.bind_some, hl, if_true] at e
      obtain ⟨o, e1, e2⟩ := Option.bind_eq_some_iff.mp e
      refine ⟨startR d.N ws, st, μ, ex, o, start_ok r, s', e1, ?_⟩
      cases o with
      | nx ρ st1 =>
        dsimp only at e2
        split at e2
        case isFalse => cases e2
        next hs =>
        cases e2
        refine fun μ1 H1 σ1 x1 s1 er1 => ?_
        have s2 := s1.take hs
        rw [cut s' x1] at s2
        exact q μ H1 .non (ext x1) s2 rfl
      | rt w1 st1 =>
        dsimp only at e2
        obtain ⟨v, e3, e4⟩ := Option.bind_eq_some_iff.mp e2
        split at e4
        case isFalse => cases e4
        next hs =>
        cases e4
        refine fun μ1 H1 x x1 s1 r1 => ?_
        have s2 := s1.take hs
        have r2 := back_ok s1 r1 e3
        rw [cut s' x1] at s2 r2
        exact q μ H1 x (ext x1) s2 r2
      | bk ρ st1 => cases e2
      | ct ρ st1 => cases e2
    · refine fn_of lk hcd D.sc (fun vs H Q E ⟨ws, st, μ, ex, w', st', hl, r, s, e, q⟩ => by rw [← r.length]; exact hl) (k := 3 * k + 2) (fun A outer s H vs Q E hr ⟨ws, st, μ, ex, x, st', hl, r, s', e, q⟩ => ?_)
      have ok := okc (cxOf (L2N.CX P w) P w K mg base d.N d.qual (defScope d.st) a cdv A outer s H E) rfl rfl rfl rfl rfl rfl rfl rfl hr hcode
      have tk : L2N.Takes (cxOf (L2N.CX P w) P w K mg base d.N d.qual (defScope d.st) a cdv A outer s H E) (fun cls d _ H => E cls d H) := L2N.takes_of rfl rfl rfl rfl
      refine ⟨_, ok_zQ (ok_exN d.mt 20 _ ok (fun _ => rfl) (passes_of rfl) rfl rfl) (ok_zN d.mt 20 _ _ ok hr (fun _ => rfl) (passes_of rfl) tk fun m s => ok_exN d.mt m _ ok (fun _ => rfl) (passes_of rfl) rfl rfl s) (defBody d.st), ?_⟩
      unfold callR calls at e
      dsimp only at e
      rw [hf] at e
      simp only [Option.bind_some, hl, if_true] at e
      obtain ⟨⟨y, ρ1, st1⟩, e1, e2⟩ := Option.bind_eq_some_iff.mp e
      dsimp only at e2
      split at e2
      case isFalse => cases e2
      next hs =>
      cases e2
      refine ⟨startR d.N ws, st, μ, ex, x, ρ1, st1, start_ok r, s', e1, fun μ1 H1 σ1 cls d0 x1 s1 er1 r1 => ?_⟩
      have s2 := s1.take hs.1
      have r2 := r1.take (n := st.length) hs.2
      rw [cut s' x1] at s2 r2
      exact q μ H1 cls d0 (ext x1) s2 r2
    · intro ht
      unfold tupOk at ht
      simp only [Bool.and_eq_true, decide_eq_true_eq, Option.isNone_iff_eq_none] at ht
      obtain ⟨⟨⟨h1, h2⟩, h3⟩, h4⟩ := ht
      refine fn_of lk hcd D.sc (fun vs H Q E ⟨ws, st, μ, ex, w', st', hl, r, s, e, q⟩ => by rw [← r.length]; exact hl) (k := 3 * k + 2) (fun A outer s H vs Q E hr ⟨ws, st, μ, ex, l, st', hl, r, s', e, q⟩ => ?_)
      have ok := okc (cxOf CX0 P w K mg base d.N d.qual (defScope d.st) a cdv A outer s H E).nox rfl rfl rfl rfl rfl rfl rfl rfl hr hcode
      refine ⟨_, ok_seqT d.mt 19 ok h2 h3 h4 (ok_exN d.mt 20 _ ok (fun _ => rfl) PassesOwn.never rfl rfl) (defBody d.st) h1 |>.nox, ?_⟩
      unfold callK calls at e
      dsimp only at e
      rw [hf] at e
      simp only [Option.bind_some, hl, if_true] at e
      obtain ⟨o, e1, e2⟩ := Option.bind_eq_some_iff.mp e
      cases o with
      | nx ρ st1 =>
        dsimp only at e2
        split at e2 <;> cases e2
      | rt w1 st1 =>
        dsimp only at e2
        obtain ⟨v, e3, e4⟩ := Option.bind_eq_some_iff.mp e2
        split at e4
        case isFalse => cases e4
        next hs =>
        cases e4
        have hw : w1 = .tup l ∧ stillA l = true := by
          unfold back at e3
          split at e3
          · split at e3
            · cases e3
            · split at e3 <;> first | (cases e3; done) | (split at e3 <;> cases e3)
          · split at e3
            · next hst => cases e3; exact ⟨rfl, hst⟩
            · cases e3
        obtain ⟨rfl, hsl⟩ := hw
        refine ⟨startR d.N ws, st, μ, ex, l, st1, start_ok r, s', e1, fun μ1 H1 a1 o xs x1 s1 h5 h6 h7 r1 => ?_⟩
        have s2 := s1.take hs
        have r2 := RA.takeM (n := st.length) l xs hsl r1
        rw [cut s' x1] at s2 r2
        refine q μ H1 a1 o xs (ext x1) s2 h5 h6 (fun z => h7 ?_) r2
        obtain ⟨t, rfl⟩ := x1.pre
        exact List.mem_append_left _ z
      | bk ρ st1 => cases e2
      | ct ρ st1 => cases e2
    · refine fn_of lk hcd D.sc (fun vs H Q E ⟨ws, st, μ, ex, w', st', hl, r, s, e, q⟩ => by rw [← r.length]; exact hl) (k := 3 * k + 2) (fun A outer s H vs Q E hr ⟨ws, st, μ, ex, x, st', hl, r, s', e, q⟩ => ?_)
      have ok := okc (cxOf (L2.CX P w) P w K mg base d.N d.qual (defScope d.st) a cdv A outer s H E) rfl rfl rfl rfl rfl rfl rfl rfl hr hcode
      have tk : L2.Takes (cxOf (L2.CX P w) P w K mg base d.N d.qual (defScope d.st) a cdv A outer s H E) (fun cls d _ H => E cls d H) := L2.takes_of rfl rfl rfl rfl
      refine ⟨_, ok_zQ (ok_exN d.mt 20 _ ok (fun _ => rfl) (passes_of rfl) rfl rfl) (ok_zF ok rfl rfl (L2H.passesAt_of rfl) (passes_of rfl) tk (fun pn xe po => ok_exN d.mt 20 _ (okTr ok pn xe) (fun _ => rfl) po rfl rfl)
        (ok_zN d.mt 20 _ _ ok hr (fun _ => rfl) (passes_of rfl) (takesN tk) fun m s => ok_exN d.mt m _ ok (fun _ => rfl) (passes_of rfl) rfl rfl s)
        (fun W pn xe po tkn => ok_zN d.mt 20 _ _ (okTr ok pn xe) hr (fun _ => rfl) po tkn fun m s => ok_exN d.mt m _ (okTr ok pn xe) (fun _ => rfl) po rfl rfl s)) (defBody d.st), ?_⟩
      unfold callF calls at e
      dsimp only at e
      rw [hf] at e
      simp only [Option.bind_some, hl, if_true] at e
      obtain ⟨⟨y, ρ1, st1⟩, e1, e2⟩ := Option.bind_eq_some_iff.mp e
      dsimp only at e2
      split at e2
      case isFalse => cases e2
      next hs =>
      cases e2
      refine ⟨startR d.N ws, st, μ, ex, x, ρ1, st1, start_ok r, s', e1, fun μ1 H1 σ1 cls d0 x1 s1 er1 r1 => ?_⟩
      have s2 := s1.take hs.1
      have r2 := r1.take (n := st.length) hs.2
      rw [cut s' x1] at s2 r2
      exact q μ H1 cls d0 (ext x1) s2 r2
/-! the end -/
def spLaw (K : PySem.W.Frag) (fa : Str → Option Addr) : Sp := fun vs H Q _ => ∃ (a : Addr) (ns : List Int), vs = [.ref a] ∧ SqL K H a (ns.map V.int) ∧ ns.length ≤ 63 ∧ (∀ p ∈ tabsOf fa, H p.1 = some (.tbl #[])) ∧ ∀ H', Q (.bl true) H'
theorem ints_RA {B : Bd} {μ ex : List Addr} {H : Hp} : ∀ ns : List Int, RA B μ ex H (ns.map W.int) (ns.map V.int)
  | [] => rfl
  | n :: ns => ⟨_, _, rfl, rfl, ints_RA ns⟩
theorem stillA_ints : ∀ ns : List Int, stillA (ns.map .int) = true
  | [] => rfl
  | n :: ns => by simp [stillA, still, stillA_ints ns]
theorem law_ok {g : Gam} {P : Program} {w : World} {K : PySem.W.Frag} {mg : Str → Option Value} {fa : Str → Option Addr} {base : Heap} (T : TopAt g P w K mg fa) (hL : ∀ f d, g.fns.lookup f = some d → d.lam = true → ∃ cc Pt, LamAt K fa f d cc Pt ∧ LamX.TabB base mg cc Pt) {k : Nat} {d : Fn} {a : Addr} {fd : FuncData}
    (hf : g.fns.lookup ("law" : Str) = some d) (hd : d.ps = [("script" : Str)]) (ha : fa "law" = some a) (F : Fun K "law" d.qual d.st a fd) (main : ∀ ns : List Int, ns.length ≤ 63 → callK g k "law" [.rl (ns.map .int)] [] = some (.bl true, [])) :
    FnOk P w K mg base CX0 (3 * k) a fd ["script"] (spLaw K fa) := by
  have := (call_ok (base := base) T hL k "law" d a fd hf ha F).1
  rw [hd] at this
  refine this.imp fun vs H Q E ⟨b, ns, e, hs, hl, ht, q⟩ => ?_
  subst e
  refine ⟨[.rl (ns.map .int)], [], [], [], .bl true, [], rfl, ⟨.ref b, [], rfl, ⟨b, ns.map .int, rfl, ⟨?_, stillA_ints ns⟩, ints_RA ns⟩, rfl⟩, ⟨by simp, rfl, fun n o h => by simp at h, fun _ h => by simp at h, fun p hp => ?_⟩, main ns hl, fun μ' H' x _ _ r => by subst r; exact q H'⟩
  · rcases hs with hs | hs
    · exact .inl ⟨hs, by simp, by simp⟩
    · exact .inr hs
  · refine ⟨#[], ht p hp, by simp, True.intro, fun pos cv hc => ?_⟩
    have z : codeAmong pos [] = some cv := hc
    simp [codeAmong] at z
theorem walk_law {l : PySem.W.OpenLaw} {q : Program} {loose : List Str} {XP : (Str → Option Value) → Heap → Prop} {YP : World → Heap → Prop} {d : DefRec} {K : Params → PySem.W.Frag} {k : Nat} (hk : Room (3 * k) callerA) (hn : l.most = some 63) (hdf : d.params.defaults = [])
    (hY : ∀ (w : World) (h : Heap), YP w h → (K w.params).In h)
    (F : ∀ (w : World) (mg : Str → Option Value) (fa : Addr) (h : Heap), (K w.params).In h → h.Ns mainGlobals mg → mg d.name = some (.ref fa) →
      ∃ fd : FuncData, (∀ (s : Shared) (u : Value), BindsTo s fd ⟨[u], []⟩ [("script", u)]) ∧ ∀ base : Heap, (K w.params).In base → base.Ns mainGlobals mg → FnOk l.prog w (K w.params) mg base CX0 (3 * k) fa fd ["script"] (spLaw (K w.params) fun _ => none)) :
    PySem.W.WalkO q loose XP YP l.row.toRowW d [] (fun f vs => PySem.call f vs) :=
  L2.walk_of (n := 63) (k := 3 * k) (x := "script") (CX := fun _ => CX0) (sp := fun w => spLaw (K w.params) fun _ => none) hn (by decide) hdf hk hY F (fun _ _ a ns hl _ hS => ⟨a, ns, rfl, hS, hl, fun p hp => by simp [tabsOf] at hp, fun _ => rfl⟩) fun _ _ _ _ _ z => z
end MP
namespace MP
open PySem L2 PySem.Spec PyProof.Rows

/-! what the top has left, from single facts -/
def AllP {β : Type} (T : Str → β → Prop) : List (Str × β) → Prop
  | [] => True
  | (a, b) :: r => T a b ∧ AllP T r
theorem AllP.look {β : Type} {T : Str → β → Prop} {f : Str} {d : β} : ∀ {l : List (Str × β)}, AllP T l → l.lookup f = some d → T f d
  | [], _, e => by cases e
  | (a, b) :: r, h, e => by
    rw [List.lookup_cons] at e
    split at e
    · next hq => cases e; rw [eq_of_beq hq]; exact h.1
    · exact AllP.look h.2 e
def AllM (T : Str → Prop) : List Str → Prop
  | [] => True
  | a :: r => T a ∧ AllM T r
theorem AllM.mem {T : Str → Prop} {x : Str} : ∀ {l : List Str}, AllM T l → x ∈ l → T x
  | a :: r, h, e => by
    rcases List.mem_cons.mp e with e | e
    · rw [e]; exact h.1
    · exact AllM.mem h.2 e
def faOf (mg : Str → Option Value) (f : Str) : Option Addr := if f = "<lambda>" then none else match mg f with
  | some (.ref a) => some a
  | _ => none
def faL (mg : Str → Option Value) (Pt : Addr) (f : Str) : Option Addr := if f = "<lambda>" then some Pt else faOf mg f
theorem faOf_no (mg : Str → Option Value) : tabsOf (faOf mg) = [] := by
  unfold tabsOf faOf
  rw [if_pos rfl]
theorem faL_tab (mg : Str → Option Value) (Pt : Addr) : tabsOf (faL mg Pt) = [(Pt, ("law" : Str) ++ ".<locals>." ++ "<lambda>")] := by
  unfold tabsOf faL
  rw [if_pos rfl]
theorem faL_of {mg : Str → Option Value} {Pt : Addr} {f : Str} {a : Addr} (h : faOf mg f = some a) : faL mg Pt f = some a := by
  unfold faL
  split
  · next e => unfold faOf at h; rw [if_pos e] at h; cases h
  · exact h
/-! what is told stays told where more defs are known -/
section
variable {P : Program} {w : World} {K : PySem.W.Frag} {fa fa' : Str → Option Addr} (h : ∀ f a, fa f = some a → fa' f = some a) {μ ex : List Addr} {H : Hp}
include h
mutual
theorem R.fam : ∀ (x : W) (v : V), R ⟨P, w, K, fa⟩ μ ex H x v → R ⟨P, w, K, fa'⟩ μ ex H x v
  | .non, _, r => r
  | .bl _, _, r => r
  | .int _, _, r => r
  | .str _, _, r => r
  | .tup l, _, ⟨a, xs, e1, f, r⟩ => ⟨a, xs, e1, f, RA.fam l xs r⟩
  | .lst l, _, ⟨a, xs, e1, f, r⟩ => ⟨a, xs, e1, f, RA.fam l xs r⟩
  | .rl l, _, ⟨a, xs, e1, f, r⟩ => ⟨a, xs, e1, f, RA.fam l xs r⟩
  | .dk ks vs, _, ⟨a, kvs, e1, f, ek, r⟩ => ⟨a, kvs, e1, f, ek, RA.fam vs _ r⟩
  | .dt ks vs, _, ⟨a, kvs, e1, f, kt, ek, r⟩ => ⟨a, kvs, e1, f, kt, ek, RA.fam vs _ r⟩
  | .obj n, _, r => r
  | .fn f, _, ⟨a, e1, r⟩ => ⟨a, e1, h f a r⟩
  | .ty _, _, r => r
  | .kd ks vs, _, ⟨a, xs, e1, f, r⟩ => ⟨a, xs, e1, f, RA.fam vs _ r⟩
theorem RA.fam : ∀ (xs : List W) (vs : List V), RA ⟨P, w, K, fa⟩ μ ex H xs vs → RA ⟨P, w, K, fa'⟩ μ ex H xs vs
  | [], _, r => r
  | x :: xs, _, ⟨v, vs, e1, r, t⟩ => ⟨v, vs, e1, R.fam x v r, RA.fam xs vs t⟩
end
end
theorem TopAt.fam {g : Gam} {P : Program} {w : World} {K : PySem.W.Frag} {mg : Str → Option Value} {fa fa' : Str → Option Addr} (h : ∀ f a, fa f = some a → fa' f = some a) (T : TopAt g P w K mg fa) : TopAt g P w K mg fa' where
  fns := fun f d hf => by
    obtain ⟨⟨a, fd, g1, r⟩, sc⟩ := T.fns f d hf
    exact ⟨⟨a, fd, h f a g1, r⟩, sc⟩
  cs := fun x w' hx => by
    obtain ⟨u, v, m, r, k⟩ := T.cs x w' hx
    exact ⟨u, v, m, r, fun μ ex H => R.fam h w' v (k μ ex H)⟩
  bs := T.bs
  tys := T.tys
  cls := fun x l hx => by
    obtain ⟨C, k⟩ := T.cls x l hx
    refine ⟨C, ⟨h _ _ k.atF, k.atG, k.kp, k.ec, k.ty, k.xp, fun y l' hy => ?_⟩⟩
    obtain ⟨D, e1, e2⟩ := k.exm y l' hy
    exact ⟨D, h _ _ e1, e2⟩
  ini := fun x hx => (T.ini x hx).fam h
section
variable {P : Program} {w : World} {K : PySem.W.Frag} {h : Heap} {mg : Str → Option Value}
theorem def_mk {f : Str} {d : Fn} {A : Addr} {od an : Option Addr} {sl : Array (Option Value)} {oc kV dc pm cd ct : Value} (X : K.In h) (G : h.Ns mainGlobals mg) (a : PySem.W.nsIn K mainGlobals f = some (some (.ref A)))
    (l : K.lookup A = some ⟨oc, od, .func (PySem.W.fnOf f d.qual (defArgs d.st) (defBody d.st) (defScope d.st) .none kV dc pm an cd ct), sl⟩) (c : PySem.W.codeIn K cd d.qual = true) (k : PySem.W.keepIn K (.ref A) = true)
    (b : ∀ (kV doc pm : Value) (an : Option Addr) (cdv ct : Value) (us : List Value), us.length = d.ps.length → bindArgs (PySem.W.fnOf f d.qual (defArgs d.st) (defBody d.st) (defScope d.st) .none kV doc pm an cdv ct) ⟨us, []⟩ = pure (d.ps.zip us))
    (sc : FnScope d.N d.ps (defScope d.st)) (hf : f ≠ "<lambda>" := by decide) : DefAt K mg (faOf mg) f d := by
  have m := PySem.W.mg_of X G a
  have F := fun_mk (x := f) (qual := d.qual) (st := d.st) l c k
  exact ⟨⟨A, _, by unfold faOf; rw [if_neg hf, m], m, k, F, F.binds b⟩, sc⟩
abbrev CsT (P : Program) (w : World) (K : PySem.W.Frag) (mg : Str → Option Value) (x : Str) (w' : W) : Prop := ∃ u v, mg x = some u ∧ RelV v u ∧ ∀ μ ex H, R ⟨P, w, K, faOf mg⟩ μ ex H w' v
theorem cs_int {x : Str} {i : Int} {t : Tok} (X : K.In h) (G : h.Ns mainGlobals mg) (a : PySem.W.nsIn K mainGlobals x = some (some (.int i t))) : CsT P w K mg x (.int i) :=
  ⟨_, .int i, PySem.W.mg_of X G a, ⟨t, rfl⟩, fun _ _ _ => rfl⟩
theorem strs_R {B : Bd} {μ ex : List Addr} {H : Hp} : ∀ (ks : List Str), RA B μ ex H (ks.map W.str) (ks.map V.str)
  | [] => rfl
  | _ :: ks => ⟨_, _, rfl, rfl, strs_R ks⟩
theorem tup_R {B : Bd} {μ ex : List Addr} {H : Hp} {A : Addr} {od : Option Addr} {its : Array Value} {n : Nat} {sl : Array (Option Value)} {ws : List W} {xs : List V} (l : B.K.lookup A = some ⟨.type "tuple", od, .seq its n, sl⟩) (hz : its.size ≤ sizeLine)
    (v : Vals xs its.toList) (r : RA B μ ex H ws xs) : R B μ ex H (.tup ws) (.ref A) := ⟨A, xs, rfl, .inr ⟨_, its, n, l, rfl, rfl, hz, v⟩, r⟩
theorem cs_tup {x : Str} {A : Addr} {w' : W} (X : K.In h) (G : h.Ns mainGlobals mg) (a : PySem.W.nsIn K mainGlobals x = some (some (.ref A))) (r : ∀ μ ex H, R ⟨P, w, K, faOf mg⟩ μ ex H w' (.ref A)) : CsT P w K mg x w' :=
  ⟨_, .ref A, PySem.W.mg_of X G a, rfl, r⟩
theorem kd_R {B : Bd} {μ ex : List Addr} {H : Hp} {A : Addr} {es : Array DictEntry} {n : Nat} {ks : List Str} {ws : List W} {xs : List V} (l : B.K.lookup A = some ⟨.type "dict", none, .dict es n, #[]⟩) (dl : DL B.w.params ks xs es.toList) (nd : ks.Nodup) (hs : (A == sysModules) = false) (hz : es.size ≤ sizeLine)
    (r : RA B μ ex H ws xs) : R B μ ex H (.kd ks ws) (.ref A) := ⟨A, xs, rfl, ⟨es, n, l, dl, nd, hs, hz⟩, r⟩
theorem fa_mk {f : Str} {A : Addr} (X : K.In h) (G : h.Ns mainGlobals mg) (a : PySem.W.nsIn K mainGlobals f = some (some (.ref A))) (hf : f ≠ "<lambda>" := by decide) : faOf mg f = some A := by
  have m := PySem.W.mg_of X G a
  unfold faOf
  rw [if_neg hf, m]
theorem fn_R {B : Bd} {μ ex : List Addr} {H : Hp} {f : Str} {A : Addr} (e : B.fa f = some A) : R B μ ex H (.fn f) (.ref A) := ⟨A, rfl, e⟩
theorem law_top {g : Gam} {l : PySem.W.OpenLaw} {d : Fn} {fa : Addr} {k : Nat} (hmg : mg "law" = some (.ref fa)) (T : TopAt g l.prog w K mg (faOf mg)) (hno : ∀ f d, g.fns.lookup f = some d → d.lam = true → False) (hf : g.fns.lookup ("law" : Str) = some d) (hd : d.ps = [("script" : Str)])
    (hb : ∀ (kV doc pm : Value) (an : Option Addr) (cdv ct : Value) (us : List Value), us.length = d.ps.length → bindArgs (PySem.W.fnOf "law" d.qual (defArgs d.st) (defBody d.st) (defScope d.st) .none kV doc pm an cdv ct) ⟨us, []⟩ = pure (d.ps.zip us))
    (main : ∀ ns : List Int, ns.length ≤ 63 → callK g k "law" [.rl (ns.map .int)] [] = some (.bl true, [])) :
    ∃ fd : FuncData, (∀ (s : Shared) (u : Value), BindsTo s fd ⟨[u], []⟩ [("script", u)]) ∧ ∀ base : Heap, K.In base → base.Ns mainGlobals mg → FnOk l.prog w K mg base CX0 (3 * k) fa fd ["script"] (spLaw K fun _ => none) := by
  obtain ⟨a, fd, h1, h2, h3, F, b⟩ := (T.fns _ _ hf).ex
  rw [hmg] at h2
  cases h2
  refine ⟨fd, fun s u => ?_, fun base _ _ => FnOk.imp (law_ok T (fun f d h1 h2 => (hno f d h1 h2).elim) hf hd h1 F main) (fun vs H Q E h => ?_)⟩
  · obtain ⟨_, _, kV, doc, pm, an, cdv, ct, _, rfl, _, _⟩ := F.ex
    have := hb kV doc pm an cdv ct [u] (by rw [hd]; rfl)
    rw [hd] at this
    exact .of_eq this
  · obtain ⟨b, ns, e, hs, hl, ht, q⟩ := h
    refine ⟨b, ns, e, hs, hl, fun p hp => ?_, q⟩
    rw [faOf_no] at hp
    cases hp
/-- .. of a law in which lambdas are made -/
theorem law_topT {g : Gam} {l : PySem.W.OpenLaw} {d : Fn} {fa cc Pt : Addr} {k : Nat} {ts : List Addr} {od an : Option Addr} {oc kV dc pm ct : Value} {sl : Array (Option Value)} (hmg : mg "law" = some (.ref fa)) (T : TopAt g l.prog w K mg (faOf mg))
    (lk : K.lookup fa = some ⟨oc, od, .func (PySem.W.fnOf "law" d.qual (defArgs d.st) (defBody d.st) (defScope d.st) .none kV dc pm an (.ref cc) ct), sl⟩) (hts : Pt ∈ ts) (hP : K.lookup Pt = none) (hc : PySem.W.codeHdIn K cc Pt = true)
    (hone : ∀ f d', g.fns.lookup f = some d' → d'.lam = true → f = "law") (hq : d.qual = "law") (hf : g.fns.lookup ("law" : Str) = some d) (hd : d.ps = [("script" : Str)])
    (hb : ∀ (kV doc pm : Value) (an : Option Addr) (cdv ct : Value) (us : List Value), us.length = d.ps.length → bindArgs (PySem.W.fnOf "law" d.qual (defArgs d.st) (defBody d.st) (defScope d.st) .none kV doc pm an cdv ct) ⟨us, []⟩ = pure (d.ps.zip us))
    (main : ∀ ns : List Int, ns.length ≤ 63 → callK g k "law" [.rl (ns.map .int)] [] = some (.bl true, [])) :
    ∃ (fd : FuncData) (cc Pt : Addr), Pt ∈ ts ∧ K.lookup Pt = none ∧ PySem.W.codeHdIn K cc Pt = true ∧ (∀ (s : Shared) (u : Value), BindsTo s fd ⟨[u], []⟩ [("script", u)]) ∧
      ∀ base : Heap, K.In base → base.Ns mainGlobals mg → LamX.TabB base mg cc Pt → FnOk l.prog w K mg base CX0 (3 * k) fa fd ["script"] (spLaw K (faL mg Pt)) := by
  have T2 : TopAt g l.prog w K mg (faL mg Pt) := T.fam fun f a h => faL_of h
  obtain ⟨a, fd, h1, h2, h3, F, b⟩ := (T2.fns _ _ hf).ex
  rw [hmg] at h2
  cases h2
  refine ⟨fd, cc, Pt, hts, hP, hc, fun s u => ?_, fun base _ _ TB => law_ok T2 (fun f d' e1 e2 => ?_) hf hd h1 F main⟩
  · obtain ⟨_, _, kV, doc, pm, an, cdv, ct, _, rfl, _, _⟩ := F.ex
    have := hb kV doc pm an cdv ct [u] (by rw [hd]; rfl)
    rw [hd] at this
    exact .of_eq this
  · obtain rfl := hone f d' e1 e2
    rw [hf] at e1
    cases e1
    exact ⟨cc, Pt, ⟨⟨fa, oc, od, kV, dc, pm, an, ct, sl, h1, lk⟩, by rw [faL_tab, hq]⟩, TB⟩
end
theorem walk_lawT {l : PySem.W.OpenLaw} {q : Program} {loose : List Str} {XP : (Str → Option Value) → Heap → Prop} {YP : World → Heap → Prop} {d : DefRec} {K : Params → PySem.W.Frag} {k : Nat} {ts : List Addr} (hk : Room (3 * k) callerA) (hn : l.most = some 63) (hdf : d.params.defaults = [])
    (hY : ∀ (w : World) (h : Heap), YP w h → (K w.params).In h) (hT : ∀ (w : World) (h : Heap), YP w h → ∀ P ∈ ts, h.get? P = some (PySem.W.tabObj #[]))
    (F : ∀ (w : World) (mg : Str → Option Value) (fa : Addr) (h : Heap), (K w.params).In h → h.Ns mainGlobals mg → mg d.name = some (.ref fa) →
      ∃ (fd : FuncData) (cc Pt : Addr), Pt ∈ ts ∧ (K w.params).lookup Pt = none ∧ PySem.W.codeHdIn (K w.params) cc Pt = true ∧ (∀ (s : Shared) (u : Value), BindsTo s fd ⟨[u], []⟩ [("script", u)]) ∧
        ∀ base : Heap, (K w.params).In base → base.Ns mainGlobals mg → LamX.TabB base mg cc Pt → FnOk l.prog w (K w.params) mg base CX0 (3 * k) fa fd ["script"] (spLaw (K w.params) (faL mg Pt))) :
    PySem.W.WalkO q loose XP YP l.row.toRowW d [] (fun f vs => PySem.call f vs) := by
  refine LamX.walk_ofTs (n := 63) (k := 3 * k) (x := "script") (CX := fun _ => CX0) hn (by decide) hdf hk hY (fun w mg fa h Y X G hm => ?_) fun _ _ _ _ _ z => z
  obtain ⟨fd, cc, Pt, h1, h2, h3, h4, h5⟩ := F w mg fa h X G hm
  refine ⟨fd, [(cc, Pt)], spLaw (K w.params) (faL mg Pt), fun p hp => ?_, fun p hp => ?_, fun p hp => ?_, h4, fun H a ns hl _ ht hS => ⟨a, ns, rfl, hS, hl, fun p hp => ?_, fun _ => rfl⟩, fun base X' G' tb => h5 base X' G' (tb (cc, Pt) (List.mem_singleton.mpr rfl))⟩
  · rw [List.mem_singleton] at hp; rw [hp]; exact hT w h Y Pt h1
  · rw [List.mem_singleton] at hp; rw [hp]; exact h2
  · rw [List.mem_singleton] at hp; rw [hp]; exact PySem.W.codeHd_of_K X h3
  · rw [faL_tab, List.mem_singleton] at hp
    rw [hp]
    exact ht (cc, Pt) (List.mem_singleton.mpr rfl)
end MP
namespace K08
open PySem MP PySem.W
theorem sc_check_logic : L2.FnScope d_check_logic.N d_check_logic.ps (L2.defScope d_check_logic.st) := ⟨rfl, rfl, rfl, by decide +kernel, rfl, by decide +kernel, by decide +kernel⟩
theorem bi_check_logic (kV doc pm : Value) (an : Option Addr) (cdv ct : Value) (us : List Value) (hl : us.length = d_check_logic.ps.length) : bindArgs (PySem.W.fnOf "check_logic" d_check_logic.qual (L2.defArgs d_check_logic.st) (L2.defBody d_check_logic.st) (L2.defScope d_check_logic.st) .none kV doc pm an cdv ct) ⟨us, []⟩ = pure (d_check_logic.ps.zip us) := match us, hl with | [_], _ => rfl
theorem sc_is_leaf : L2.FnScope d_is_leaf.N d_is_leaf.ps (L2.defScope d_is_leaf.st) := ⟨rfl, rfl, rfl, by decide +kernel, rfl, by decide +kernel, by decide +kernel⟩
theorem bi_is_leaf (kV doc pm : Value) (an : Option Addr) (cdv ct : Value) (us : List Value) (hl : us.length = d_is_leaf.ps.length) : bindArgs (PySem.W.fnOf "is_leaf" d_is_leaf.qual (L2.defArgs d_is_leaf.st) (L2.defBody d_is_leaf.st) (L2.defScope d_is_leaf.st) .none kV doc pm an cdv ct) ⟨us, []⟩ = pure (d_is_leaf.ps.zip us) := match us, hl with | [_], _ => rfl
theorem sc_is_joined : L2.FnScope d_is_joined.N d_is_joined.ps (L2.defScope d_is_joined.st) := ⟨rfl, rfl, rfl, by decide +kernel, rfl, by decide +kernel, by decide +kernel⟩
theorem bi_is_joined (kV doc pm : Value) (an : Option Addr) (cdv ct : Value) (us : List Value) (hl : us.length = d_is_joined.ps.length) : bindArgs (PySem.W.fnOf "is_joined" d_is_joined.qual (L2.defArgs d_is_joined.st) (L2.defBody d_is_joined.st) (L2.defScope d_is_joined.st) .none kV doc pm an cdv ct) ⟨us, []⟩ = pure (d_is_joined.ps.zip us) := match us, hl with | [_], _ => rfl
theorem sc_leaves_of : L2.FnScope d_leaves_of.N d_leaves_of.ps (L2.defScope d_leaves_of.st) := ⟨rfl, rfl, rfl, by decide +kernel, rfl, by decide +kernel, by decide +kernel⟩
theorem bi_leaves_of (kV doc pm : Value) (an : Option Addr) (cdv ct : Value) (us : List Value) (hl : us.length = d_leaves_of.ps.length) : bindArgs (PySem.W.fnOf "leaves_of" d_leaves_of.qual (L2.defArgs d_leaves_of.st) (L2.defBody d_leaves_of.st) (L2.defScope d_leaves_of.st) .none kV doc pm an cdv ct) ⟨us, []⟩ = pure (d_leaves_of.ps.zip us) := match us, hl with | [_, _], _ => rfl
theorem sc_is_formula : L2.FnScope d_is_formula.N d_is_formula.ps (L2.defScope d_is_formula.st) := ⟨rfl, rfl, rfl, by decide +kernel, rfl, by decide +kernel, by decide +kernel⟩
theorem bi_is_formula (kV doc pm : Value) (an : Option Addr) (cdv ct : Value) (us : List Value) (hl : us.length = d_is_formula.ps.length) : bindArgs (PySem.W.fnOf "is_formula" d_is_formula.qual (L2.defArgs d_is_formula.st) (L2.defBody d_is_formula.st) (L2.defScope d_is_formula.st) .none kV doc pm an cdv ct) ⟨us, []⟩ = pure (d_is_formula.ps.zip us) := match us, hl with | [_], _ => rfl
theorem sc_check_formula : L2.FnScope d_check_formula.N d_check_formula.ps (L2.defScope d_check_formula.st) := ⟨rfl, rfl, rfl, by decide +kernel, rfl, by decide +kernel, by decide +kernel⟩
theorem bi_check_formula (kV doc pm : Value) (an : Option Addr) (cdv ct : Value) (us : List Value) (hl : us.length = d_check_formula.ps.length) : bindArgs (PySem.W.fnOf "check_formula" d_check_formula.qual (L2.defArgs d_check_formula.st) (L2.defBody d_check_formula.st) (L2.defScope d_check_formula.st) .none kV doc pm an cdv ct) ⟨us, []⟩ = pure (d_check_formula.ps.zip us) := match us, hl with | [_], _ => rfl
theorem sc_check_text : L2.FnScope d_check_text.N d_check_text.ps (L2.defScope d_check_text.st) := ⟨rfl, rfl, rfl, by decide +kernel, rfl, by decide +kernel, by decide +kernel⟩
theorem bi_check_text (kV doc pm : Value) (an : Option Addr) (cdv ct : Value) (us : List Value) (hl : us.length = d_check_text.ps.length) : bindArgs (PySem.W.fnOf "check_text" d_check_text.qual (L2.defArgs d_check_text.st) (L2.defBody d_check_text.st) (L2.defScope d_check_text.st) .none kV doc pm an cdv ct) ⟨us, []⟩ = pure (d_check_text.ps.zip us) := match us, hl with | [_], _ => rfl
theorem sc_write_logic : L2.FnScope d_write_logic.N d_write_logic.ps (L2.defScope d_write_logic.st) := ⟨rfl, rfl, rfl, by decide +kernel, rfl, by decide +kernel, by decide +kernel⟩
theorem bi_write_logic (kV doc pm : Value) (an : Option Addr) (cdv ct : Value) (us : List Value) (hl : us.length = d_write_logic.ps.length) : bindArgs (PySem.W.fnOf "write_logic" d_write_logic.qual (L2.defArgs d_write_logic.st) (L2.defBody d_write_logic.st) (L2.defScope d_write_logic.st) .none kV doc pm an cdv ct) ⟨us, []⟩ = pure (d_write_logic.ps.zip us) := match us, hl with | [_], _ => rfl
theorem sc_read_logic : L2.FnScope d_read_logic.N d_read_logic.ps (L2.defScope d_read_logic.st) := ⟨rfl, rfl, rfl, by decide +kernel, rfl, by decide +kernel, by decide +kernel⟩
theorem bi_read_logic (kV doc pm : Value) (an : Option Addr) (cdv ct : Value) (us : List Value) (hl : us.length = d_read_logic.ps.length) : bindArgs (PySem.W.fnOf "read_logic" d_read_logic.qual (L2.defArgs d_read_logic.st) (L2.defBody d_read_logic.st) (L2.defScope d_read_logic.st) .none kV doc pm an cdv ct) ⟨us, []⟩ = pure (d_read_logic.ps.zip us) := match us, hl with | [_], _ => rfl
theorem sc_text_of : L2.FnScope d_text_of.N d_text_of.ps (L2.defScope d_text_of.st) := ⟨rfl, rfl, rfl, by decide +kernel, rfl, by decide +kernel, by decide +kernel⟩
theorem bi_text_of (kV doc pm : Value) (an : Option Addr) (cdv ct : Value) (us : List Value) (hl : us.length = d_text_of.ps.length) : bindArgs (PySem.W.fnOf "text_of" d_text_of.qual (L2.defArgs d_text_of.st) (L2.defBody d_text_of.st) (L2.defScope d_text_of.st) .none kV doc pm an cdv ct) ⟨us, []⟩ = pure (d_text_of.ps.zip us) := match us, hl with | [_], _ => rfl
theorem sc_write_formula : L2.FnScope d_write_formula.N d_write_formula.ps (L2.defScope d_write_formula.st) := ⟨rfl, rfl, rfl, by decide +kernel, rfl, by decide +kernel, by decide +kernel⟩
theorem bi_write_formula (kV doc pm : Value) (an : Option Addr) (cdv ct : Value) (us : List Value) (hl : us.length = d_write_formula.ps.length) : bindArgs (PySem.W.fnOf "write_formula" d_write_formula.qual (L2.defArgs d_write_formula.st) (L2.defBody d_write_formula.st) (L2.defScope d_write_formula.st) .none kV doc pm an cdv ct) ⟨us, []⟩ = pure (d_write_formula.ps.zip us) := match us, hl with | [_], _ => rfl
theorem sc_behind : L2.FnScope d_behind.N d_behind.ps (L2.defScope d_behind.st) := ⟨rfl, rfl, rfl, by decide +kernel, rfl, by decide +kernel, by decide +kernel⟩
theorem bi_behind (kV doc pm : Value) (an : Option Addr) (cdv ct : Value) (us : List Value) (hl : us.length = d_behind.ps.length) : bindArgs (PySem.W.fnOf "behind" d_behind.qual (L2.defArgs d_behind.st) (L2.defBody d_behind.st) (L2.defScope d_behind.st) .none kV doc pm an cdv ct) ⟨us, []⟩ = pure (d_behind.ps.zip us) := match us, hl with | [_, _, _], _ => rfl
theorem sc_read_part : L2.FnScope d_read_part.N d_read_part.ps (L2.defScope d_read_part.st) := ⟨rfl, rfl, rfl, by decide +kernel, rfl, by decide +kernel, by decide +kernel⟩
theorem bi_read_part (kV doc pm : Value) (an : Option Addr) (cdv ct : Value) (us : List Value) (hl : us.length = d_read_part.ps.length) : bindArgs (PySem.W.fnOf "read_part" d_read_part.qual (L2.defArgs d_read_part.st) (L2.defBody d_read_part.st) (L2.defScope d_read_part.st) .none kV doc pm an cdv ct) ⟨us, []⟩ = pure (d_read_part.ps.zip us) := match us, hl with | [_, _, _], _ => rfl
theorem sc_read_joined : L2.FnScope d_read_joined.N d_read_joined.ps (L2.defScope d_read_joined.st) := ⟨rfl, rfl, rfl, by decide +kernel, rfl, by decide +kernel, by decide +kernel⟩
theorem bi_read_joined (kV doc pm : Value) (an : Option Addr) (cdv ct : Value) (us : List Value) (hl : us.length = d_read_joined.ps.length) : bindArgs (PySem.W.fnOf "read_joined" d_read_joined.qual (L2.defArgs d_read_joined.st) (L2.defBody d_read_joined.st) (L2.defScope d_read_joined.st) .none kV doc pm an cdv ct) ⟨us, []⟩ = pure (d_read_joined.ps.zip us) := match us, hl with | [_, _, _], _ => rfl
theorem sc_read_formula : L2.FnScope d_read_formula.N d_read_formula.ps (L2.defScope d_read_formula.st) := ⟨rfl, rfl, rfl, by decide +kernel, rfl, by decide +kernel, by decide +kernel⟩
theorem bi_read_formula (kV doc pm : Value) (an : Option Addr) (cdv ct : Value) (us : List Value) (hl : us.length = d_read_formula.ps.length) : bindArgs (PySem.W.fnOf "read_formula" d_read_formula.qual (L2.defArgs d_read_formula.st) (L2.defBody d_read_formula.st) (L2.defScope d_read_formula.st) .none kV doc pm an cdv ct) ⟨us, []⟩ = pure (d_read_formula.ps.zip us) := match us, hl with | [_], _ => rfl
theorem sc__law_taken : L2.FnScope d__law_taken.N d__law_taken.ps (L2.defScope d__law_taken.st) := ⟨rfl, rfl, rfl, by decide +kernel, rfl, by decide +kernel, by decide +kernel⟩
theorem bi__law_taken (kV doc pm : Value) (an : Option Addr) (cdv ct : Value) (us : List Value) (hl : us.length = d__law_taken.ps.length) : bindArgs (PySem.W.fnOf "_law_taken" d__law_taken.qual (L2.defArgs d__law_taken.st) (L2.defBody d__law_taken.st) (L2.defScope d__law_taken.st) .none kV doc pm an cdv ct) ⟨us, []⟩ = pure (d__law_taken.ps.zip us) := match us, hl with | [_, _], _ => rfl
theorem sc__law_pick : L2.FnScope d__law_pick.N d__law_pick.ps (L2.defScope d__law_pick.st) := ⟨rfl, rfl, rfl, by decide +kernel, rfl, by decide +kernel, by decide +kernel⟩
theorem bi__law_pick (kV doc pm : Value) (an : Option Addr) (cdv ct : Value) (us : List Value) (hl : us.length = d__law_pick.ps.length) : bindArgs (PySem.W.fnOf "_law_pick" d__law_pick.qual (L2.defArgs d__law_pick.st) (L2.defBody d__law_pick.st) (L2.defScope d__law_pick.st) .none kV doc pm an cdv ct) ⟨us, []⟩ = pure (d__law_pick.ps.zip us) := match us, hl with | [_, _], _ => rfl
theorem sc__law_alike : L2.FnScope d__law_alike.N d__law_alike.ps (L2.defScope d__law_alike.st) := ⟨rfl, rfl, rfl, by decide +kernel, rfl, by decide +kernel, by decide +kernel⟩
theorem bi__law_alike (kV doc pm : Value) (an : Option Addr) (cdv ct : Value) (us : List Value) (hl : us.length = d__law_alike.ps.length) : bindArgs (PySem.W.fnOf "_law_alike" d__law_alike.qual (L2.defArgs d__law_alike.st) (L2.defBody d__law_alike.st) (L2.defScope d__law_alike.st) .none kV doc pm an cdv ct) ⟨us, []⟩ = pure (d__law_alike.ps.zip us) := match us, hl with | [_, _], _ => rfl
theorem sc__law_told : L2.FnScope d__law_told.N d__law_told.ps (L2.defScope d__law_told.st) := ⟨rfl, rfl, rfl, by decide +kernel, rfl, by decide +kernel, by decide +kernel⟩
theorem bi__law_told (kV doc pm : Value) (an : Option Addr) (cdv ct : Value) (us : List Value) (hl : us.length = d__law_told.ps.length) : bindArgs (PySem.W.fnOf "_law_told" d__law_told.qual (L2.defArgs d__law_told.st) (L2.defBody d__law_told.st) (L2.defScope d__law_told.st) .none kV doc pm an cdv ct) ⟨us, []⟩ = pure (d__law_told.ps.zip us) := match us, hl with | [], _ => rfl
theorem sc__law_logic : L2.FnScope d__law_logic.N d__law_logic.ps (L2.defScope d__law_logic.st) := ⟨rfl, rfl, rfl, by decide +kernel, rfl, by decide +kernel, by decide +kernel⟩
theorem bi__law_logic (kV doc pm : Value) (an : Option Addr) (cdv ct : Value) (us : List Value) (hl : us.length = d__law_logic.ps.length) : bindArgs (PySem.W.fnOf "_law_logic" d__law_logic.qual (L2.defArgs d__law_logic.st) (L2.defBody d__law_logic.st) (L2.defScope d__law_logic.st) .none kV doc pm an cdv ct) ⟨us, []⟩ = pure (d__law_logic.ps.zip us) := match us, hl with | [_], _ => rfl
theorem sc__law_formula : L2.FnScope d__law_formula.N d__law_formula.ps (L2.defScope d__law_formula.st) := ⟨rfl, rfl, rfl, by decide +kernel, rfl, by decide +kernel, by decide +kernel⟩
theorem bi__law_formula (kV doc pm : Value) (an : Option Addr) (cdv ct : Value) (us : List Value) (hl : us.length = d__law_formula.ps.length) : bindArgs (PySem.W.fnOf "_law_formula" d__law_formula.qual (L2.defArgs d__law_formula.st) (L2.defBody d__law_formula.st) (L2.defScope d__law_formula.st) .none kV doc pm an cdv ct) ⟨us, []⟩ = pure (d__law_formula.ps.zip us) := match us, hl with | [_, _, _, _], _ => rfl
theorem sc__law_word : L2.FnScope d__law_word.N d__law_word.ps (L2.defScope d__law_word.st) := ⟨rfl, rfl, rfl, by decide +kernel, rfl, by decide +kernel, by decide +kernel⟩
theorem bi__law_word (kV doc pm : Value) (an : Option Addr) (cdv ct : Value) (us : List Value) (hl : us.length = d__law_word.ps.length) : bindArgs (PySem.W.fnOf "_law_word" d__law_word.qual (L2.defArgs d__law_word.st) (L2.defBody d__law_word.st) (L2.defScope d__law_word.st) .none kV doc pm an cdv ct) ⟨us, []⟩ = pure (d__law_word.ps.zip us) := match us, hl with | [_], _ => rfl
theorem sc__law_text : L2.FnScope d__law_text.N d__law_text.ps (L2.defScope d__law_text.st) := ⟨rfl, rfl, rfl, by decide +kernel, rfl, by decide +kernel, by decide +kernel⟩
theorem bi__law_text (kV doc pm : Value) (an : Option Addr) (cdv ct : Value) (us : List Value) (hl : us.length = d__law_text.ps.length) : bindArgs (PySem.W.fnOf "_law_text" d__law_text.qual (L2.defArgs d__law_text.st) (L2.defBody d__law_text.st) (L2.defScope d__law_text.st) .none kV doc pm an cdv ct) ⟨us, []⟩ = pure (d__law_text.ps.zip us) := match us, hl with | [_], _ => rfl
theorem sc__law_nots : L2.FnScope d__law_nots.N d__law_nots.ps (L2.defScope d__law_nots.st) := ⟨rfl, rfl, rfl, by decide +kernel, rfl, by decide +kernel, by decide +kernel⟩
theorem bi__law_nots (kV doc pm : Value) (an : Option Addr) (cdv ct : Value) (us : List Value) (hl : us.length = d__law_nots.ps.length) : bindArgs (PySem.W.fnOf "_law_nots" d__law_nots.qual (L2.defArgs d__law_nots.st) (L2.defBody d__law_nots.st) (L2.defScope d__law_nots.st) .none kV doc pm an cdv ct) ⟨us, []⟩ = pure (d__law_nots.ps.zip us) := match us, hl with | [_, _], _ => rfl
theorem sc_law : L2.FnScope d_law.N d_law.ps (L2.defScope d_law.st) := ⟨rfl, rfl, rfl, by decide +kernel, rfl, by decide +kernel, by decide +kernel⟩
theorem bi_law (kV doc pm : Value) (an : Option Addr) (cdv ct : Value) (us : List Value) (hl : us.length = d_law.ps.length) : bindArgs (PySem.W.fnOf "law" d_law.qual (L2.defArgs d_law.st) (L2.defBody d_law.st) (L2.defScope d_law.st) .none kV doc pm an cdv ct) ⟨us, []⟩ = pure (d_law.ps.zip us) := match us, hl with | [_], _ => rfl
def i_BadLogic : PySem.Stmt := match top 5 with
  | .ClassDef _ _ _ body _ _ _ _ _ _ _ => (body[0]?).getD (.Pass ⟨0, 0, 0, 0⟩)
  | s => s
theorem bi_BadLogic (cl : List (Str × Addr)) (kV doc pm : Value) (an : Option Addr) (cd ct : Value) (us : List Value) (hl : us.length = 2) : bindArgs (PySem.W.fnX "__init__" "BadLogic.__init__" (L2.defArgs i_BadLogic) (L2.defBody i_BadLogic) (L2.defScope i_BadLogic) cl .none kV doc pm an cd ct) ⟨us, []⟩ = pure ((["self", "index"] : List Str).zip us) := match us, hl with | [_, _], _ => rfl
theorem one_lam (f : Str) (d : MP.Fn) (h : g.fns.lookup f = some d) (hl : d.lam = true) : f = "law" := by
  have := MP.AllP.look (T := fun f d => d.lam = true → f = ("law" : Str)) (l := g.fns) ⟨fun h => absurd h (by decide), fun h => absurd h (by decide), fun h => absurd h (by decide), fun h => absurd h (by decide), fun h => absurd h (by decide), fun h => absurd h (by decide), fun h => absurd h (by decide), fun h => absurd h (by decide), fun h => absurd h (by decide), fun h => absurd h (by decide), fun h => absurd h (by decide), fun h => absurd h (by decide), fun h => absurd h (by decide), fun h => absurd h (by decide), fun h => absurd h (by decide), fun h => absurd h (by decide), fun h => absurd h (by decide), fun h => absurd h (by decide), fun h => absurd h (by decide), fun h => absurd h (by decide), fun h => absurd h (by decide), fun h => absurd h (by decide), fun h => absurd h (by decide), fun h => absurd h (by decide), fun _ => rfl, trivial⟩ h
  exact this hl
open L2 in
theorem top_ok {w : World} {K : PySem.W.Frag} {h : Heap} {mg : Str → Option Value} {fa : Addr} {ts : List Addr} (X : K.In h) (G : h.Ns mainGlobals mg) (hmg : mg "law" = some (.ref fa))
    {A0 A1 A2 A3 A4 A5 A6 A7 A8 A9 A10 A11 A12 A13 A14 A15 A16 A17 A18 A19 A20 A21 A22 A23 A24 B1 B2 B3 E0 E1 E2 E3 E4 I4 Ia4 Ic4 In4 Lc Lp : Addr} {od0 an0 od1 an1 od2 an2 od3 an3 od4 an4 od5 an5 od6 an6 od7 an7 od8 an8 od9 an9 od10 an10 od11 an11 od12 an12 od13 an13 od14 an14 od15 an15 od16 an16 od17 an17 od18 an18 od19 an19 od20 an20 od21 an21 od22 an22 od23 an23 od24 an24 bo1 bo2 io4_0 io4_1 io4_2 io4_3 io4_9 : Option Addr} {sl0 sl1 sl2 sl3 sl4 sl5 sl6 sl7 sl8 sl9 sl10 sl11 sl12 sl13 sl14 sl15 sl16 sl17 sl18 sl19 sl20 sl21 sl22 sl23 sl24 bs1 bs2 is4_0 is4_1 is4_2 : Array (Option Value)} {oc0 kV0 dc0 pm0 cd0 ct0 oc1 kV1 dc1 pm1 cd1 ct1 oc2 kV2 dc2 pm2 cd2 ct2 oc3 kV3 dc3 pm3 cd3 ct3 oc4 kV4 dc4 pm4 cd4 ct4 oc5 kV5 dc5 pm5 cd5 ct5 oc6 kV6 dc6 pm6 cd6 ct6 oc7 kV7 dc7 pm7 cd7 ct7 oc8 kV8 dc8 pm8 cd8 ct8 oc9 kV9 dc9 pm9 cd9 ct9 oc10 kV10 dc10 pm10 cd10 ct10 oc11 kV11 dc11 pm11 cd11 ct11 oc12 kV12 dc12 pm12 cd12 ct12 oc13 kV13 dc13 pm13 cd13 ct13 oc14 kV14 dc14 pm14 cd14 ct14 oc15 kV15 dc15 pm15 cd15 ct15 oc16 kV16 dc16 pm16 cd16 ct16 oc17 kV17 dc17 pm17 cd17 ct17 oc18 kV18 dc18 pm18 cd18 ct18 oc19 kV19 dc19 pm19 cd19 ct19 oc20 kV20 dc20 pm20 cd20 ct20 oc21 kV21 dc21 pm21 cd21 ct21 oc22 kV22 dc22 pm22 cd22 ct22 oc23 kV23 dc23 pm23 cd23 ct23 oc24 kV24 dc24 pm24 ct24 iv4_0 iv4_2 iv4_3 iv4_4 iv4_5 iv4_6 iw4 : Value} {t1 t2 t3 t4 t5 t6 t7 t8 t9 t10 t11 t12 t13 t14 t15 t16 t17 it4 : Tok} {bn1 bn2 bn3 : Nat} {ix4_0 ix4_1 ix4_2 : Str} {il4_0 il4_1 il4_2 : List Value} {im4 : List Str} {ib4 : Bool} {ic4 : Option Bool} {ik4_0 ik4_1 ik4_2 ik4_3 ik4_4 : Option Value} {ia4 : Array Value}
    (a0 : PySem.W.nsIn K mainGlobals "check_logic" = some (some (.ref A0)))
    (l0 : K.lookup A0 = some ⟨oc0, od0, .func (PySem.W.fnOf "check_logic" d_check_logic.qual (defArgs d_check_logic.st) (defBody d_check_logic.st) (defScope d_check_logic.st) .none kV0 dc0 pm0 an0 cd0 ct0), sl0⟩)
    (c0 : PySem.W.codeIn K cd0 d_check_logic.qual = true)
    (k0 : PySem.W.keepIn K (.ref A0) = true)
    (a1 : PySem.W.nsIn K mainGlobals "is_leaf" = some (some (.ref A1)))
    (l1 : K.lookup A1 = some ⟨oc1, od1, .func (PySem.W.fnOf "is_leaf" d_is_leaf.qual (defArgs d_is_leaf.st) (defBody d_is_leaf.st) (defScope d_is_leaf.st) .none kV1 dc1 pm1 an1 cd1 ct1), sl1⟩)
    (c1 : PySem.W.codeIn K cd1 d_is_leaf.qual = true)
    (k1 : PySem.W.keepIn K (.ref A1) = true)
    (a2 : PySem.W.nsIn K mainGlobals "is_joined" = some (some (.ref A2)))
    (l2 : K.lookup A2 = some ⟨oc2, od2, .func (PySem.W.fnOf "is_joined" d_is_joined.qual (defArgs d_is_joined.st) (defBody d_is_joined.st) (defScope d_is_joined.st) .none kV2 dc2 pm2 an2 cd2 ct2), sl2⟩)
    (c2 : PySem.W.codeIn K cd2 d_is_joined.qual = true)
    (k2 : PySem.W.keepIn K (.ref A2) = true)
    (a3 : PySem.W.nsIn K mainGlobals "leaves_of" = some (some (.ref A3)))
    (l3 : K.lookup A3 = some ⟨oc3, od3, .func (PySem.W.fnOf "leaves_of" d_leaves_of.qual (defArgs d_leaves_of.st) (defBody d_leaves_of.st) (defScope d_leaves_of.st) .none kV3 dc3 pm3 an3 cd3 ct3), sl3⟩)
    (c3 : PySem.W.codeIn K cd3 d_leaves_of.qual = true)
    (k3 : PySem.W.keepIn K (.ref A3) = true)
    (a4 : PySem.W.nsIn K mainGlobals "is_formula" = some (some (.ref A4)))
    (l4 : K.lookup A4 = some ⟨oc4, od4, .func (PySem.W.fnOf "is_formula" d_is_formula.qual (defArgs d_is_formula.st) (defBody d_is_formula.st) (defScope d_is_formula.st) .none kV4 dc4 pm4 an4 cd4 ct4), sl4⟩)
    (c4 : PySem.W.codeIn K cd4 d_is_formula.qual = true)
    (k4 : PySem.W.keepIn K (.ref A4) = true)
    (a5 : PySem.W.nsIn K mainGlobals "check_formula" = some (some (.ref A5)))
    (l5 : K.lookup A5 = some ⟨oc5, od5, .func (PySem.W.fnOf "check_formula" d_check_formula.qual (defArgs d_check_formula.st) (defBody d_check_formula.st) (defScope d_check_formula.st) .none kV5 dc5 pm5 an5 cd5 ct5), sl5⟩)
    (c5 : PySem.W.codeIn K cd5 d_check_formula.qual = true)
    (k5 : PySem.W.keepIn K (.ref A5) = true)
    (a6 : PySem.W.nsIn K mainGlobals "check_text" = some (some (.ref A6)))
    (l6 : K.lookup A6 = some ⟨oc6, od6, .func (PySem.W.fnOf "check_text" d_check_text.qual (defArgs d_check_text.st) (defBody d_check_text.st) (defScope d_check_text.st) .none kV6 dc6 pm6 an6 cd6 ct6), sl6⟩)
    (c6 : PySem.W.codeIn K cd6 d_check_text.qual = true)
    (k6 : PySem.W.keepIn K (.ref A6) = true)
    (a7 : PySem.W.nsIn K mainGlobals "write_logic" = some (some (.ref A7)))
    (l7 : K.lookup A7 = some ⟨oc7, od7, .func (PySem.W.fnOf "write_logic" d_write_logic.qual (defArgs d_write_logic.st) (defBody d_write_logic.st) (defScope d_write_logic.st) .none kV7 dc7 pm7 an7 cd7 ct7), sl7⟩)
    (c7 : PySem.W.codeIn K cd7 d_write_logic.qual = true)
    (k7 : PySem.W.keepIn K (.ref A7) = true)
    (a8 : PySem.W.nsIn K mainGlobals "read_logic" = some (some (.ref A8)))
    (l8 : K.lookup A8 = some ⟨oc8, od8, .func (PySem.W.fnOf "read_logic" d_read_logic.qual (defArgs d_read_logic.st) (defBody d_read_logic.st) (defScope d_read_logic.st) .none kV8 dc8 pm8 an8 cd8 ct8), sl8⟩)
    (c8 : PySem.W.codeIn K cd8 d_read_logic.qual = true)
    (k8 : PySem.W.keepIn K (.ref A8) = true)
    (a9 : PySem.W.nsIn K mainGlobals "text_of" = some (some (.ref A9)))
    (l9 : K.lookup A9 = some ⟨oc9, od9, .func (PySem.W.fnOf "text_of" d_text_of.qual (defArgs d_text_of.st) (defBody d_text_of.st) (defScope d_text_of.st) .none kV9 dc9 pm9 an9 cd9 ct9), sl9⟩)
    (c9 : PySem.W.codeIn K cd9 d_text_of.qual = true)
    (k9 : PySem.W.keepIn K (.ref A9) = true)
    (a10 : PySem.W.nsIn K mainGlobals "write_formula" = some (some (.ref A10)))
    (l10 : K.lookup A10 = some ⟨oc10, od10, .func (PySem.W.fnOf "write_formula" d_write_formula.qual (defArgs d_write_formula.st) (defBody d_write_formula.st) (defScope d_write_formula.st) .none kV10 dc10 pm10 an10 cd10 ct10), sl10⟩)
    (c10 : PySem.W.codeIn K cd10 d_write_formula.qual = true)
    (k10 : PySem.W.keepIn K (.ref A10) = true)
    (a11 : PySem.W.nsIn K mainGlobals "behind" = some (some (.ref A11)))
    (l11 : K.lookup A11 = some ⟨oc11, od11, .func (PySem.W.fnOf "behind" d_behind.qual (defArgs d_behind.st) (defBody d_behind.st) (defScope d_behind.st) .none kV11 dc11 pm11 an11 cd11 ct11), sl11⟩)
    (c11 : PySem.W.codeIn K cd11 d_behind.qual = true)
    (k11 : PySem.W.keepIn K (.ref A11) = true)
    (a12 : PySem.W.nsIn K mainGlobals "read_part" = some (some (.ref A12)))
    (l12 : K.lookup A12 = some ⟨oc12, od12, .func (PySem.W.fnOf "read_part" d_read_part.qual (defArgs d_read_part.st) (defBody d_read_part.st) (defScope d_read_part.st) .none kV12 dc12 pm12 an12 cd12 ct12), sl12⟩)
    (c12 : PySem.W.codeIn K cd12 d_read_part.qual = true)
    (k12 : PySem.W.keepIn K (.ref A12) = true)
    (a13 : PySem.W.nsIn K mainGlobals "read_joined" = some (some (.ref A13)))
    (l13 : K.lookup A13 = some ⟨oc13, od13, .func (PySem.W.fnOf "read_joined" d_read_joined.qual (defArgs d_read_joined.st) (defBody d_read_joined.st) (defScope d_read_joined.st) .none kV13 dc13 pm13 an13 cd13 ct13), sl13⟩)
    (c13 : PySem.W.codeIn K cd13 d_read_joined.qual = true)
    (k13 : PySem.W.keepIn K (.ref A13) = true)
    (a14 : PySem.W.nsIn K mainGlobals "read_formula" = some (some (.ref A14)))
    (l14 : K.lookup A14 = some ⟨oc14, od14, .func (PySem.W.fnOf "read_formula" d_read_formula.qual (defArgs d_read_formula.st) (defBody d_read_formula.st) (defScope d_read_formula.st) .none kV14 dc14 pm14 an14 cd14 ct14), sl14⟩)
    (c14 : PySem.W.codeIn K cd14 d_read_formula.qual = true)
    (k14 : PySem.W.keepIn K (.ref A14) = true)
    (a15 : PySem.W.nsIn K mainGlobals "_law_taken" = some (some (.ref A15)))
    (l15 : K.lookup A15 = some ⟨oc15, od15, .func (PySem.W.fnOf "_law_taken" d__law_taken.qual (defArgs d__law_taken.st) (defBody d__law_taken.st) (defScope d__law_taken.st) .none kV15 dc15 pm15 an15 cd15 ct15), sl15⟩)
    (c15 : PySem.W.codeIn K cd15 d__law_taken.qual = true)
    (k15 : PySem.W.keepIn K (.ref A15) = true)
    (a16 : PySem.W.nsIn K mainGlobals "_law_pick" = some (some (.ref A16)))
    (l16 : K.lookup A16 = some ⟨oc16, od16, .func (PySem.W.fnOf "_law_pick" d__law_pick.qual (defArgs d__law_pick.st) (defBody d__law_pick.st) (defScope d__law_pick.st) .none kV16 dc16 pm16 an16 cd16 ct16), sl16⟩)
    (c16 : PySem.W.codeIn K cd16 d__law_pick.qual = true)
    (k16 : PySem.W.keepIn K (.ref A16) = true)
    (a17 : PySem.W.nsIn K mainGlobals "_law_alike" = some (some (.ref A17)))
    (l17 : K.lookup A17 = some ⟨oc17, od17, .func (PySem.W.fnOf "_law_alike" d__law_alike.qual (defArgs d__law_alike.st) (defBody d__law_alike.st) (defScope d__law_alike.st) .none kV17 dc17 pm17 an17 cd17 ct17), sl17⟩)
    (c17 : PySem.W.codeIn K cd17 d__law_alike.qual = true)
    (k17 : PySem.W.keepIn K (.ref A17) = true)
    (a18 : PySem.W.nsIn K mainGlobals "_law_told" = some (some (.ref A18)))
    (l18 : K.lookup A18 = some ⟨oc18, od18, .func (PySem.W.fnOf "_law_told" d__law_told.qual (defArgs d__law_told.st) (defBody d__law_told.st) (defScope d__law_told.st) .none kV18 dc18 pm18 an18 cd18 ct18), sl18⟩)
    (c18 : PySem.W.codeIn K cd18 d__law_told.qual = true)
    (k18 : PySem.W.keepIn K (.ref A18) = true)
    (a19 : PySem.W.nsIn K mainGlobals "_law_logic" = some (some (.ref A19)))
    (l19 : K.lookup A19 = some ⟨oc19, od19, .func (PySem.W.fnOf "_law_logic" d__law_logic.qual (defArgs d__law_logic.st) (defBody d__law_logic.st) (defScope d__law_logic.st) .none kV19 dc19 pm19 an19 cd19 ct19), sl19⟩)
    (c19 : PySem.W.codeIn K cd19 d__law_logic.qual = true)
    (k19 : PySem.W.keepIn K (.ref A19) = true)
    (a20 : PySem.W.nsIn K mainGlobals "_law_formula" = some (some (.ref A20)))
    (l20 : K.lookup A20 = some ⟨oc20, od20, .func (PySem.W.fnOf "_law_formula" d__law_formula.qual (defArgs d__law_formula.st) (defBody d__law_formula.st) (defScope d__law_formula.st) .none kV20 dc20 pm20 an20 cd20 ct20), sl20⟩)
    (c20 : PySem.W.codeIn K cd20 d__law_formula.qual = true)
    (k20 : PySem.W.keepIn K (.ref A20) = true)
    (a21 : PySem.W.nsIn K mainGlobals "_law_word" = some (some (.ref A21)))
    (l21 : K.lookup A21 = some ⟨oc21, od21, .func (PySem.W.fnOf "_law_word" d__law_word.qual (defArgs d__law_word.st) (defBody d__law_word.st) (defScope d__law_word.st) .none kV21 dc21 pm21 an21 cd21 ct21), sl21⟩)
    (c21 : PySem.W.codeIn K cd21 d__law_word.qual = true)
    (k21 : PySem.W.keepIn K (.ref A21) = true)
    (a22 : PySem.W.nsIn K mainGlobals "_law_text" = some (some (.ref A22)))
    (l22 : K.lookup A22 = some ⟨oc22, od22, .func (PySem.W.fnOf "_law_text" d__law_text.qual (defArgs d__law_text.st) (defBody d__law_text.st) (defScope d__law_text.st) .none kV22 dc22 pm22 an22 cd22 ct22), sl22⟩)
    (c22 : PySem.W.codeIn K cd22 d__law_text.qual = true)
    (k22 : PySem.W.keepIn K (.ref A22) = true)
    (a23 : PySem.W.nsIn K mainGlobals "_law_nots" = some (some (.ref A23)))
    (l23 : K.lookup A23 = some ⟨oc23, od23, .func (PySem.W.fnOf "_law_nots" d__law_nots.qual (defArgs d__law_nots.st) (defBody d__law_nots.st) (defScope d__law_nots.st) .none kV23 dc23 pm23 an23 cd23 ct23), sl23⟩)
    (c23 : PySem.W.codeIn K cd23 d__law_nots.qual = true)
    (k23 : PySem.W.keepIn K (.ref A23) = true)
    (a24 : PySem.W.nsIn K mainGlobals "law" = some (some (.ref A24)))
    (l24 : K.lookup A24 = some ⟨oc24, od24, .func (PySem.W.fnOf "law" d_law.qual (defArgs d_law.st) (defBody d_law.st) (defScope d_law.st) .none kV24 dc24 pm24 an24 (.ref Lc) ct24), sl24⟩)
    (c24 : PySem.W.codeIn K (.ref Lc) d_law.qual = true)
    (k24 : PySem.W.keepIn K (.ref A24) = true)
    (x0 : PySem.W.nsIn K mainGlobals "ANSWERS" = some (some (.ref B1)))
    (m1 : K.lookup B1 = some ⟨.type "tuple", bo1, .seq #[.str "f" t1, .str "t" t2, .str "u" t3] bn1, bs1⟩)
    (x1 : PySem.W.nsIn K mainGlobals "LENGTH" = some (some (.int 11 t4)))
    (x2 : PySem.W.nsIn K mainGlobals "LETTERS" = some (some (.ref B2)))
    (m2 : K.lookup B2 = some ⟨.type "tuple", bo2, .seq #[.str "a" t5, .str "b" t6, .str "c" t7, .str "d" t8, .str "e" t9] bn2, bs2⟩)
    (x3 : PySem.W.nsIn K mainGlobals "MOST_LEAVES" = some (some (.int 20 t10)))
    (x4 : PySem.W.nsIn K mainGlobals "MOST_TUPLES" = some (some (.int 8 t11)))
    (x5 : PySem.W.nsIn K mainGlobals "JOINED" = some (some (.ref B3)))
    (m3 : K.lookup B3 = some ⟨.type "dict", none, .dict #[⟨PyData.keyHash w.params "and", .str "and" t15, .int 2 t12⟩, ⟨PyData.keyHash w.params "not", .str "not" t16, .int 1 t13⟩, ⟨PyData.keyHash w.params "or", .str "or" t17, .int 2 t14⟩] bn3, #[]⟩)
    (s3 : (B3 == sysModules) = false)
    (z_len : PySem.W.nsIn K mainGlobals "len" = some none)
    (z_isinstance : PySem.W.nsIn K mainGlobals "isinstance" = some none)
    (z_int : PySem.W.nsIn K mainGlobals "int" = some none)
    (z_tuple : PySem.W.nsIn K mainGlobals "tuple" = some none)
    (z_list : PySem.W.nsIn K mainGlobals "list" = some none)
    (z_range : PySem.W.nsIn K mainGlobals "range" = some none)
    (z_enumerate : PySem.W.nsIn K mainGlobals "enumerate" = some none)
    (z_str : PySem.W.nsIn K mainGlobals "str" = some none)
    (z_bool : PySem.W.nsIn K mainGlobals "bool" = some none)
    (u0 : PySem.W.nsIn K mainGlobals "LogicError" = some (some (.ref E0)))
    (u1 : PySem.W.nsIn K mainGlobals "BadFormula" = some (some (.ref E1)))
    (u2 : PySem.W.nsIn K mainGlobals "NotText" = some (some (.ref E2)))
    (u3 : PySem.W.nsIn K mainGlobals "InvalidText" = some (some (.ref E3)))
    (u4 : PySem.W.nsIn K mainGlobals "BadLogic" = some (some (.ref E4)))
    (v0 : PySem.W.keepIn K (.ref E0) = true)
    (e0a : PySem.W.findIn K (.ref E0) "__getattribute__" = some (some (.builtin "BaseException.__getattribute__")))
    (e0b : PySem.W.findIn K (.ref E0) "__getattr__" = some none)
    (e0c : PySem.W.subIn K (.ref E0) (.type "BaseException") = some true)
    (e0d : PySem.W.hasDictIn K E0 = true)
    (e0e : PySem.W.findIn K (.ref E0) "__class__" = some (some (.builtin "object.__class__")))
    (e0f : PySem.W.specialIn K (.builtin "object.__class__") "__get__" = some (some (.builtin "getset_descriptor.__get__")))
    (e0g : PySem.W.takesIn K (.builtin "object.__class__") = some true)
    (e0h : PySem.W.mroIn K E0 (.type "object") = some true)
    (y0 : PySem.W.typeIn K (.ref E0) = some (.type "type"))
    (w0 : PySem.W.excIn K E0 [.type "ValueError", .type "Exception", .type "BaseException", .type "object"] "ValueError.__new__" = true)
    (m0_0 : PySem.W.exmOne K (.ref E0) (.ref E0) = some true)
    (n0_0 : PySem.W.kitOne K (.ref E0) (.ref E0) = some true)
    (m0_1 : PySem.W.exmOne K (.ref E0) (.ref E1) = some false)
    (n0_1 : PySem.W.kitOne K (.ref E0) (.ref E1) = some false)
    (m0_2 : PySem.W.exmOne K (.ref E0) (.ref E2) = some false)
    (n0_2 : PySem.W.kitOne K (.ref E0) (.ref E2) = some false)
    (m0_3 : PySem.W.exmOne K (.ref E0) (.ref E3) = some false)
    (n0_3 : PySem.W.kitOne K (.ref E0) (.ref E3) = some false)
    (m0_4 : PySem.W.exmOne K (.ref E0) (.ref E4) = some false)
    (n0_4 : PySem.W.kitOne K (.ref E0) (.ref E4) = some false)
    (v1 : PySem.W.keepIn K (.ref E1) = true)
    (e1a : PySem.W.findIn K (.ref E1) "__getattribute__" = some (some (.builtin "BaseException.__getattribute__")))
    (e1b : PySem.W.findIn K (.ref E1) "__getattr__" = some none)
    (e1c : PySem.W.subIn K (.ref E1) (.type "BaseException") = some true)
    (e1d : PySem.W.hasDictIn K E1 = true)
    (e1e : PySem.W.findIn K (.ref E1) "__class__" = some (some (.builtin "object.__class__")))
    (e1f : PySem.W.specialIn K (.builtin "object.__class__") "__get__" = some (some (.builtin "getset_descriptor.__get__")))
    (e1g : PySem.W.takesIn K (.builtin "object.__class__") = some true)
    (e1h : PySem.W.mroIn K E1 (.type "object") = some true)
    (y1 : PySem.W.typeIn K (.ref E1) = some (.type "type"))
    (w1 : PySem.W.excIn K E1 [.type "ValueError", .type "Exception", .type "BaseException", .type "object"] "ValueError.__new__" = true)
    (m1_0 : PySem.W.exmOne K (.ref E1) (.ref E0) = some true)
    (n1_0 : PySem.W.kitOne K (.ref E1) (.ref E0) = some true)
    (m1_1 : PySem.W.exmOne K (.ref E1) (.ref E1) = some true)
    (n1_1 : PySem.W.kitOne K (.ref E1) (.ref E1) = some true)
    (m1_2 : PySem.W.exmOne K (.ref E1) (.ref E2) = some false)
    (n1_2 : PySem.W.kitOne K (.ref E1) (.ref E2) = some false)
    (m1_3 : PySem.W.exmOne K (.ref E1) (.ref E3) = some false)
    (n1_3 : PySem.W.kitOne K (.ref E1) (.ref E3) = some false)
    (m1_4 : PySem.W.exmOne K (.ref E1) (.ref E4) = some false)
    (n1_4 : PySem.W.kitOne K (.ref E1) (.ref E4) = some false)
    (v2 : PySem.W.keepIn K (.ref E2) = true)
    (e2a : PySem.W.findIn K (.ref E2) "__getattribute__" = some (some (.builtin "BaseException.__getattribute__")))
    (e2b : PySem.W.findIn K (.ref E2) "__getattr__" = some none)
    (e2c : PySem.W.subIn K (.ref E2) (.type "BaseException") = some true)
    (e2d : PySem.W.hasDictIn K E2 = true)
    (e2e : PySem.W.findIn K (.ref E2) "__class__" = some (some (.builtin "object.__class__")))
    (e2f : PySem.W.specialIn K (.builtin "object.__class__") "__get__" = some (some (.builtin "getset_descriptor.__get__")))
    (e2g : PySem.W.takesIn K (.builtin "object.__class__") = some true)
    (e2h : PySem.W.mroIn K E2 (.type "object") = some true)
    (y2 : PySem.W.typeIn K (.ref E2) = some (.type "type"))
    (w2 : PySem.W.excIn K E2 [.type "ValueError", .type "Exception", .type "BaseException", .type "object"] "ValueError.__new__" = true)
    (m2_0 : PySem.W.exmOne K (.ref E2) (.ref E0) = some true)
    (n2_0 : PySem.W.kitOne K (.ref E2) (.ref E0) = some true)
    (m2_1 : PySem.W.exmOne K (.ref E2) (.ref E1) = some false)
    (n2_1 : PySem.W.kitOne K (.ref E2) (.ref E1) = some false)
    (m2_2 : PySem.W.exmOne K (.ref E2) (.ref E2) = some true)
    (n2_2 : PySem.W.kitOne K (.ref E2) (.ref E2) = some true)
    (m2_3 : PySem.W.exmOne K (.ref E2) (.ref E3) = some false)
    (n2_3 : PySem.W.kitOne K (.ref E2) (.ref E3) = some false)
    (m2_4 : PySem.W.exmOne K (.ref E2) (.ref E4) = some false)
    (n2_4 : PySem.W.kitOne K (.ref E2) (.ref E4) = some false)
    (v3 : PySem.W.keepIn K (.ref E3) = true)
    (e3a : PySem.W.findIn K (.ref E3) "__getattribute__" = some (some (.builtin "BaseException.__getattribute__")))
    (e3b : PySem.W.findIn K (.ref E3) "__getattr__" = some none)
    (e3c : PySem.W.subIn K (.ref E3) (.type "BaseException") = some true)
    (e3d : PySem.W.hasDictIn K E3 = true)
    (e3e : PySem.W.findIn K (.ref E3) "__class__" = some (some (.builtin "object.__class__")))
    (e3f : PySem.W.specialIn K (.builtin "object.__class__") "__get__" = some (some (.builtin "getset_descriptor.__get__")))
    (e3g : PySem.W.takesIn K (.builtin "object.__class__") = some true)
    (e3h : PySem.W.mroIn K E3 (.type "object") = some true)
    (y3 : PySem.W.typeIn K (.ref E3) = some (.type "type"))
    (w3 : PySem.W.excIn K E3 [.type "ValueError", .type "Exception", .type "BaseException", .type "object"] "ValueError.__new__" = true)
    (m3_0 : PySem.W.exmOne K (.ref E3) (.ref E0) = some true)
    (n3_0 : PySem.W.kitOne K (.ref E3) (.ref E0) = some true)
    (m3_1 : PySem.W.exmOne K (.ref E3) (.ref E1) = some false)
    (n3_1 : PySem.W.kitOne K (.ref E3) (.ref E1) = some false)
    (m3_2 : PySem.W.exmOne K (.ref E3) (.ref E2) = some false)
    (n3_2 : PySem.W.kitOne K (.ref E3) (.ref E2) = some false)
    (m3_3 : PySem.W.exmOne K (.ref E3) (.ref E3) = some true)
    (n3_3 : PySem.W.kitOne K (.ref E3) (.ref E3) = some true)
    (m3_4 : PySem.W.exmOne K (.ref E3) (.ref E4) = some false)
    (n3_4 : PySem.W.kitOne K (.ref E3) (.ref E4) = some false)
    (v4 : PySem.W.keepIn K (.ref E4) = true)
    (e4a : PySem.W.findIn K (.ref E4) "__getattribute__" = some (some (.builtin "BaseException.__getattribute__")))
    (e4b : PySem.W.findIn K (.ref E4) "__getattr__" = some none)
    (e4c : PySem.W.subIn K (.ref E4) (.type "BaseException") = some true)
    (e4d : PySem.W.hasDictIn K E4 = true)
    (e4e : PySem.W.findIn K (.ref E4) "__class__" = some (some (.builtin "object.__class__")))
    (e4f : PySem.W.specialIn K (.builtin "object.__class__") "__get__" = some (some (.builtin "getset_descriptor.__get__")))
    (e4g : PySem.W.takesIn K (.builtin "object.__class__") = some true)
    (e4h : PySem.W.mroIn K E4 (.type "object") = some true)
    (y4 : PySem.W.typeIn K (.ref E4) = some (.type "type"))
    (m4_0 : PySem.W.exmOne K (.ref E4) (.ref E0) = some true)
    (n4_0 : PySem.W.kitOne K (.ref E4) (.ref E0) = some true)
    (m4_1 : PySem.W.exmOne K (.ref E4) (.ref E1) = some false)
    (n4_1 : PySem.W.kitOne K (.ref E4) (.ref E1) = some false)
    (m4_2 : PySem.W.exmOne K (.ref E4) (.ref E2) = some false)
    (n4_2 : PySem.W.kitOne K (.ref E4) (.ref E2) = some false)
    (m4_3 : PySem.W.exmOne K (.ref E4) (.ref E3) = some false)
    (n4_3 : PySem.W.kitOne K (.ref E4) (.ref E3) = some false)
    (m4_4 : PySem.W.exmOne K (.ref E4) (.ref E4) = some true)
    (n4_4 : PySem.W.kitOne K (.ref E4) (.ref E4) = some true)
    (f4 : PySem.W.findIn K (.ref E4) "__init__" = some (some (.ref I4)))
    (g4 : PySem.W.typeIn K (.ref I4) = some (.type "function"))
    (h4 : K.lookup I4 = some ⟨iv4_0, io4_0, .func (PySem.W.fnX "__init__" "BadLogic.__init__" (L2.defArgs i_BadLogic) (L2.defBody i_BadLogic) (L2.defScope i_BadLogic) [("__class__", Ic4)] .none iv4_2 iv4_3 iv4_4 io4_1 (.ref Ia4) iv4_5), is4_0⟩)
    (i4 : PySem.W.codeIn K (.ref Ia4) "BadLogic.__init__" = true)
    (j4 : K.lookup Ia4 = some ⟨iv4_6, io4_2, .fields ia4, is4_1⟩)
    (s4v : ia4[2]? = some (.str ix4_0 it4))
    (s4f : ((P.main.file : Str) == ix4_0) = true)
    (o4 : K.lookup Ic4 = some ⟨iw4, io4_3, .cell (some (.ref E4)), is4_2⟩)
    (p4 : K.lookup E4 = some (excClassObj ix4_1 ix4_2 E4 In4 il4_0 il4_1 true im4 il4_2 ib4 ic4 io4_9 ik4_0 ik4_1 ik4_2 ik4_3 ik4_4 "ValueError.__new__"))
    (s4r : PySem.HandSPX.refsVE il4_1 = true)
    (q4 : PySem.W.findIn K (.ref E4) "__setattr__" = some (some (.builtin "object.__setattr__")))
    (r4 : PySem.W.mroIn K E4 (.ref E4) = some true)
    (b4 : PySem.W.ks_superIn K E4 E4 "__init__" = some (some (.builtin "ValueError.__init__")))
    (d4 : PySem.W.subIn K (.ref E4) (.type "ValueError") = some true)
    (zo4 : PySem.W.nsIn K cStatics "thirdparty.any" = some none)
    (zi4 : PySem.W.findIn K (.ref E4) "index" = some none)
    (zs4 : PySem.W.nsIn K mainGlobals "super" = some none)
    (s_ts : Lp ∈ ts)
    (tn : K.lookup Lp = none)
    (th : PySem.W.codeHdIn K Lc Lp = true)
    : ∃ (fd : FuncData) (cc Pt : Addr), Pt ∈ ts ∧ K.lookup Pt = none ∧ PySem.W.codeHdIn K cc Pt = true ∧ (∀ (s : Shared) (u : Value), BindsTo s fd ⟨[u], []⟩ [("script", u)]) ∧ ∀ base : Heap, K.In base → base.Ns mainGlobals mg → LamX.TabB base mg cc Pt → FnOk PySem.Challenge.rw_unknowntables_k08_whole_texts.prog w K mg base CX0 (3 * 20) fa fd ["script"] (spLaw K (faL mg Pt)) := by
  have T : TopAt g P w K mg (faOf mg) := by
    refine ⟨fun f d hf => AllP.look (T := fun f d => DefAt K mg (faOf mg) f d) (l := g.fns) ?_ hf, fun x w1 hx => AllP.look (T := fun x w1 => CsT P w K mg x w1) (l := g.cs) ?_ hx, fun x hx => AllM.mem (T := fun x => mg x = none) (l := g.bs) ?_ hx, fun x hx => AllM.mem (T := fun x => mg x = none ∧ bootBuiltins x = some (.type x.toString)) (l := g.tys) ?_ hx, fun x l1 hx => AllP.look (T := fun x l1 => ∃ C, ClsAt K mg (faOf mg) g x l1 C) (l := g.cls) ?_ hx, fun x hx => AllM.mem (T := fun x => IniTop P K mg (faOf mg) x) (l := g.ini) ?_ hx⟩
    · exact ⟨def_mk X G a0 l0 c0 k0 bi_check_logic sc_check_logic, def_mk X G a1 l1 c1 k1 bi_is_leaf sc_is_leaf, def_mk X G a2 l2 c2 k2 bi_is_joined sc_is_joined, def_mk X G a3 l3 c3 k3 bi_leaves_of sc_leaves_of, def_mk X G a4 l4 c4 k4 bi_is_formula sc_is_formula, def_mk X G a5 l5 c5 k5 bi_check_formula sc_check_formula, def_mk X G a6 l6 c6 k6 bi_check_text sc_check_text, def_mk X G a7 l7 c7 k7 bi_write_logic sc_write_logic, def_mk X G a8 l8 c8 k8 bi_read_logic sc_read_logic, def_mk X G a9 l9 c9 k9 bi_text_of sc_text_of, def_mk X G a10 l10 c10 k10 bi_write_formula sc_write_formula, def_mk X G a11 l11 c11 k11 bi_behind sc_behind, def_mk X G a12 l12 c12 k12 bi_read_part sc_read_part, def_mk X G a13 l13 c13 k13 bi_read_joined sc_read_joined, def_mk X G a14 l14 c14 k14 bi_read_formula sc_read_formula, def_mk X G a15 l15 c15 k15 bi__law_taken sc__law_taken, def_mk X G a16 l16 c16 k16 bi__law_pick sc__law_pick, def_mk X G a17 l17 c17 k17 bi__law_alike sc__law_alike, def_mk X G a18 l18 c18 k18 bi__law_told sc__law_told, def_mk X G a19 l19 c19 k19 bi__law_logic sc__law_logic, def_mk X G a20 l20 c20 k20 bi__law_formula sc__law_formula, def_mk X G a21 l21 c21 k21 bi__law_word sc__law_word, def_mk X G a22 l22 c22 k22 bi__law_text sc__law_text, def_mk X G a23 l23 c23 k23 bi__law_nots sc__law_nots, def_mk X G a24 l24 c24 k24 bi_law sc_law, trivial⟩
    · exact ⟨cs_tup X G x0 fun μ ex H => (tup_R (xs := [.str "f", .str "t", .str "u"]) m1 (show 3 ≤ sizeLine by decide) (.cons ⟨_, rfl⟩ (.cons ⟨_, rfl⟩ (.cons ⟨_, rfl⟩ (.nil)))) (⟨_, _, rfl, rfl, ⟨_, _, rfl, rfl, ⟨_, _, rfl, rfl, rfl⟩⟩⟩)), cs_int X G x1, cs_tup X G x2 fun μ ex H => (tup_R (xs := [.str "a", .str "b", .str "c", .str "d", .str "e"]) m2 (show 5 ≤ sizeLine by decide) (.cons ⟨_, rfl⟩ (.cons ⟨_, rfl⟩ (.cons ⟨_, rfl⟩ (.cons ⟨_, rfl⟩ (.cons ⟨_, rfl⟩ (.nil)))))) (⟨_, _, rfl, rfl, ⟨_, _, rfl, rfl, ⟨_, _, rfl, rfl, ⟨_, _, rfl, rfl, ⟨_, _, rfl, rfl, rfl⟩⟩⟩⟩⟩)), cs_int X G x3, cs_int X G x4, cs_tup X G x5 fun μ ex H => (kd_R (xs := [.int 2, .int 1, .int 2]) m3 (⟨_, _, _, _, rfl, rfl, ⟨_, rfl⟩, rfl, ⟨_, rfl⟩, ⟨_, _, _, _, rfl, rfl, ⟨_, rfl⟩, rfl, ⟨_, rfl⟩, ⟨_, _, _, _, rfl, rfl, ⟨_, rfl⟩, rfl, ⟨_, rfl⟩, ⟨rfl, rfl⟩⟩⟩⟩) (by decide +kernel) s3 (show 3 ≤ sizeLine by decide) (⟨_, _, rfl, rfl, ⟨_, _, rfl, rfl, ⟨_, _, rfl, rfl, rfl⟩⟩⟩)), trivial⟩
    · exact ⟨PySem.W.mg_none_of X G z_len, PySem.W.mg_none_of X G z_isinstance, PySem.W.mg_none_of X G z_int, PySem.W.mg_none_of X G z_tuple, PySem.W.mg_none_of X G z_list, PySem.W.mg_none_of X G z_range, PySem.W.mg_none_of X G z_enumerate, trivial⟩
    · exact ⟨⟨PySem.W.mg_none_of X G z_tuple, by decide +kernel⟩, ⟨PySem.W.mg_none_of X G z_str, by decide +kernel⟩, ⟨PySem.W.mg_none_of X G z_list, by decide +kernel⟩, ⟨PySem.W.mg_none_of X G z_int, by decide +kernel⟩, ⟨PySem.W.mg_none_of X G z_bool, by decide +kernel⟩, trivial⟩
    · exact ⟨⟨E0, fa_mk X G u0, PySem.W.mg_of X G u0, v0, ⟨e0a, e0b, e0c, e0d, e0e, e0f, e0g, e0h⟩, y0, fun _ => w0, fun y l1 hy => AllP.look (T := fun y l1 => ∃ D, faOf mg y = some D ∧ PySem.W.exmOne K (.ref E0) (.ref D) = some ((["LogicError"] : List Str).contains y) ∧ PySem.W.kitOne K (.ref E0) (.ref D) = some ((["LogicError"] : List Str).contains y)) (l := g.cls) ⟨⟨E0, fa_mk X G u0, m0_0, n0_0⟩, ⟨E1, fa_mk X G u1, m0_1, n0_1⟩, ⟨E2, fa_mk X G u2, m0_2, n0_2⟩, ⟨E3, fa_mk X G u3, m0_3, n0_3⟩, ⟨E4, fa_mk X G u4, m0_4, n0_4⟩, trivial⟩ hy⟩, ⟨E1, fa_mk X G u1, PySem.W.mg_of X G u1, v1, ⟨e1a, e1b, e1c, e1d, e1e, e1f, e1g, e1h⟩, y1, fun _ => w1, fun y l1 hy => AllP.look (T := fun y l1 => ∃ D, faOf mg y = some D ∧ PySem.W.exmOne K (.ref E1) (.ref D) = some ((["BadFormula", "LogicError"] : List Str).contains y) ∧ PySem.W.kitOne K (.ref E1) (.ref D) = some ((["BadFormula", "LogicError"] : List Str).contains y)) (l := g.cls) ⟨⟨E0, fa_mk X G u0, m1_0, n1_0⟩, ⟨E1, fa_mk X G u1, m1_1, n1_1⟩, ⟨E2, fa_mk X G u2, m1_2, n1_2⟩, ⟨E3, fa_mk X G u3, m1_3, n1_3⟩, ⟨E4, fa_mk X G u4, m1_4, n1_4⟩, trivial⟩ hy⟩, ⟨E2, fa_mk X G u2, PySem.W.mg_of X G u2, v2, ⟨e2a, e2b, e2c, e2d, e2e, e2f, e2g, e2h⟩, y2, fun _ => w2, fun y l1 hy => AllP.look (T := fun y l1 => ∃ D, faOf mg y = some D ∧ PySem.W.exmOne K (.ref E2) (.ref D) = some ((["NotText", "LogicError"] : List Str).contains y) ∧ PySem.W.kitOne K (.ref E2) (.ref D) = some ((["NotText", "LogicError"] : List Str).contains y)) (l := g.cls) ⟨⟨E0, fa_mk X G u0, m2_0, n2_0⟩, ⟨E1, fa_mk X G u1, m2_1, n2_1⟩, ⟨E2, fa_mk X G u2, m2_2, n2_2⟩, ⟨E3, fa_mk X G u3, m2_3, n2_3⟩, ⟨E4, fa_mk X G u4, m2_4, n2_4⟩, trivial⟩ hy⟩, ⟨E3, fa_mk X G u3, PySem.W.mg_of X G u3, v3, ⟨e3a, e3b, e3c, e3d, e3e, e3f, e3g, e3h⟩, y3, fun _ => w3, fun y l1 hy => AllP.look (T := fun y l1 => ∃ D, faOf mg y = some D ∧ PySem.W.exmOne K (.ref E3) (.ref D) = some ((["InvalidText", "LogicError"] : List Str).contains y) ∧ PySem.W.kitOne K (.ref E3) (.ref D) = some ((["InvalidText", "LogicError"] : List Str).contains y)) (l := g.cls) ⟨⟨E0, fa_mk X G u0, m3_0, n3_0⟩, ⟨E1, fa_mk X G u1, m3_1, n3_1⟩, ⟨E2, fa_mk X G u2, m3_2, n3_2⟩, ⟨E3, fa_mk X G u3, m3_3, n3_3⟩, ⟨E4, fa_mk X G u4, m3_4, n3_4⟩, trivial⟩ hy⟩, ⟨E4, fa_mk X G u4, PySem.W.mg_of X G u4, v4, ⟨e4a, e4b, e4c, e4d, e4e, e4f, e4g, e4h⟩, y4, fun h => absurd (by decide) h, fun y l1 hy => AllP.look (T := fun y l1 => ∃ D, faOf mg y = some D ∧ PySem.W.exmOne K (.ref E4) (.ref D) = some ((["BadLogic", "LogicError"] : List Str).contains y) ∧ PySem.W.kitOne K (.ref E4) (.ref D) = some ((["BadLogic", "LogicError"] : List Str).contains y)) (l := g.cls) ⟨⟨E0, fa_mk X G u0, m4_0, n4_0⟩, ⟨E1, fa_mk X G u1, m4_1, n4_1⟩, ⟨E2, fa_mk X G u2, m4_2, n4_2⟩, ⟨E3, fa_mk X G u3, m4_3, n4_3⟩, ⟨E4, fa_mk X G u4, m4_4, n4_4⟩, trivial⟩ hy⟩, trivial⟩
    · exact ⟨⟨E4, I4, _, fa_mk X G u4, PySem.W.mg_of X G u4, (⟨⟨_, _, _, _, _, _, _, _, _, _, _, _, _, _, _, p4, s4r⟩, q4, e4c, y4, v4⟩ : L2.OexC K E4), f4, g4, .all (bi_BadLogic _ _ _ _ _ _ _), fun w base => ini_fn (scope := L2.defScope i_BadLogic) (show IniIn P K E4 I4 "BadLogic.__init__" (L2.defArgs i_BadLogic) (L2.defBody i_BadLogic) (L2.defScope i_BadLogic) from ⟨⟨_, _, _, _, _, _, _, _, _, _, _, _, _, _, _, _, _, _, _, _, h4, i4, j4, s4v, s4f, o4⟩, (⟨⟨_, _, _, _, _, _, _, _, _, _, _, _, _, _, _, p4, s4r⟩, q4, e4c, y4, v4⟩ : L2.OexC K E4), r4, b4, d4, zo4, zi4, by first | rfl | decide +kernel⟩) (PySem.W.mg_none_of X G zs4) ⟨_, rfl, rfl⟩ (by decide +kernel) (by decide +kernel) (by decide +kernel) (by decide +kernel) (fun _ => ⟨_, rfl⟩) (by decide +kernel) rfl rfl rfl _ ⟨_, _, _, h4⟩⟩, trivial⟩
  have hk : fa = A24 := by have := hmg.symm.trans (PySem.W.mg_of X G a24); cases this; rfl
  subst hk
  exact law_topT (l := PySem.Challenge.rw_unknowntables_k08_whole_texts) hmg T l24 s_ts tn th (fun f d h1 h2 => one_lam f d h1 h2) rfl rfl rfl bi_law main
end K08
open PySem PySem.W PyProof.Rows in
set_option maxRecDepth 100000 in
set_option maxHeartbeats 0 in
theorem PySem.Challenge.cw_unknowntables_k08_whole_texts_holds : PySem.Challenge.rw_unknowntables_k08_whole_texts.Holds := by
  w_on; o_law; k_head; (case hw => w_witness2)
  k_fill
  refine MP.walk_lawT (l := PySem.Challenge.rw_unknowntables_k08_whole_texts) (k := 20) ⟨by decide, by decide, by decide⟩ rfl rfl (fun w h Y => PySem.W.km_in_of Y) (fun w h Y => PySem.W.km_tabs_of Y) ?F
  case F =>
    intro w mg fa h KX G hmg
    refine' K08.top_ok (w := w) KX G hmg ?a0 ?l0 ?c0 ?k0 ?a1 ?l1 ?c1 ?k1 ?a2 ?l2 ?c2 ?k2 ?a3 ?l3 ?c3 ?k3 ?a4 ?l4 ?c4 ?k4 ?a5 ?l5 ?c5 ?k5 ?a6 ?l6 ?c6 ?k6 ?a7 ?l7 ?c7 ?k7 ?a8 ?l8 ?c8 ?k8 ?a9 ?l9 ?c9 ?k9 ?a10 ?l10 ?c10 ?k10 ?a11 ?l11 ?c11 ?k11 ?a12 ?l12 ?c12 ?k12 ?a13 ?l13 ?c13 ?k13 ?a14 ?l14 ?c14 ?k14 ?a15 ?l15 ?c15 ?k15 ?a16 ?l16 ?c16 ?k16 ?a17 ?l17 ?c17 ?k17 ?a18 ?l18 ?c18 ?k18 ?a19 ?l19 ?c19 ?k19 ?a20 ?l20 ?c20 ?k20 ?a21 ?l21 ?c21 ?k21 ?a22 ?l22 ?c22 ?k22 ?a23 ?l23 ?c23 ?k23 ?a24 ?l24 ?c24 ?k24 ?x0 ?m1 ?x1 ?x2 ?m2 ?x3 ?x4 ?x5 ?m3 ?s3 ?z_len ?z_isinstance ?z_int ?z_tuple ?z_list ?z_range ?z_enumerate ?z_str ?z_bool ?u0 ?u1 ?u2 ?u3 ?u4 ?v0 ?e0a ?e0b ?e0c ?e0d ?e0e ?e0f ?e0g ?e0h ?y0 ?w0 ?m0_0 ?n0_0 ?m0_1 ?n0_1 ?m0_2 ?n0_2 ?m0_3 ?n0_3 ?m0_4 ?n0_4 ?v1 ?e1a ?e1b ?e1c ?e1d ?e1e ?e1f ?e1g ?e1h ?y1 ?w1 ?m1_0 ?n1_0 ?m1_1 ?n1_1 ?m1_2 ?n1_2 ?m1_3 ?n1_3 ?m1_4 ?n1_4 ?v2 ?e2a ?e2b ?e2c ?e2d ?e2e ?e2f ?e2g ?e2h ?y2 ?w2 ?m2_0 ?n2_0 ?m2_1 ?n2_1 ?m2_2 ?n2_2 ?m2_3 ?n2_3 ?m2_4 ?n2_4 ?v3 ?e3a ?e3b ?e3c ?e3d ?e3e ?e3f ?e3g ?e3h ?y3 ?w3 ?m3_0 ?n3_0 ?m3_1 ?n3_1 ?m3_2 ?n3_2 ?m3_3 ?n3_3 ?m3_4 ?n3_4 ?v4 ?e4a ?e4b ?e4c ?e4d ?e4e ?e4f ?e4g ?e4h ?y4 ?m4_0 ?n4_0 ?m4_1 ?n4_1 ?m4_2 ?n4_2 ?m4_3 ?n4_3 ?m4_4 ?n4_4 ?f4 ?g4 ?h4 ?i4 ?j4 ?s4v ?s4f ?o4 ?p4 ?s4r ?q4 ?r4 ?b4 ?d4 ?zo4 ?zi4 ?zs4 ?s_ts ?tn ?th
    (case a0 => k_is)
    (case l0 => k_is)
    (case c0 => k_is)
    (case k0 => k_is)
    (case a1 => k_is)
    (case l1 => k_is)
    (case c1 => k_is)
    (case k1 => k_is)
    (case a2 => k_is)
    (case l2 => k_is)
    (case c2 => k_is)
    (case k2 => k_is)
    (case a3 => k_is)
    (case l3 => k_is)
    (case c3 => k_is)
    (case k3 => k_is)
    (case a4 => k_is)
    (case l4 => k_is)
    (case c4 => k_is)
    (case k4 => k_is)
    (case a5 => k_is)
    (case l5 => k_is)
    (case c5 => k_is)
    (case k5 => k_is)
    (case a6 => k_is)
    (case l6 => k_is)
    (case c6 => k_is)
    (case k6 => k_is)
    (case a7 => k_is)
    (case l7 => k_is)
    (case c7 => k_is)
    (case k7 => k_is)
    (case a8 => k_is)
    (case l8 => k_is)
    (case c8 => k_is)
    (case k8 => k_is)
    (case a9 => k_is)
    (case l9 => k_is)
    (case c9 => k_is)
    (case k9 => k_is)
    (case a10 => k_is)
    (case l10 => k_is)
    (case c10 => k_is)
    (case k10 => k_is)
    (case a11 => k_is)
    (case l11 => k_is)
    (case c11 => k_is)
    (case k11 => k_is)
    (case a12 => k_is)
    (case l12 => k_is)
    (case c12 => k_is)
    (case k12 => k_is)
    (case a13 => k_is)
    (case l13 => k_is)
    (case c13 => k_is)
    (case k13 => k_is)
    (case a14 => k_is)
    (case l14 => k_is)
    (case c14 => k_is)
    (case k14 => k_is)
    (case a15 => k_is)
    (case l15 => k_is)
    (case c15 => k_is)
    (case k15 => k_is)
    (case a16 => k_is)
    (case l16 => k_is)
    (case c16 => k_is)
    (case k16 => k_is)
    (case a17 => k_is)
    (case l17 => k_is)
    (case c17 => k_is)
    (case k17 => k_is)
    (case a18 => k_is)
    (case l18 => k_is)
    (case c18 => k_is)
    (case k18 => k_is)
    (case a19 => k_is)
    (case l19 => k_is)
    (case c19 => k_is)
    (case k19 => k_is)
    (case a20 => k_is)
    (case l20 => k_is)
    (case c20 => k_is)
    (case k20 => k_is)
    (case a21 => k_is)
    (case l21 => k_is)
    (case c21 => k_is)
    (case k21 => k_is)
    (case a22 => k_is)
    (case l22 => k_is)
    (case c22 => k_is)
    (case k22 => k_is)
    (case a23 => k_is)
    (case l23 => k_is)
    (case c23 => k_is)
    (case k23 => k_is)
    (case a24 => k_is)
    (case l24 => k_is)
    (case c24 => k_is)
    (case k24 => k_is)
    (case x0 => k_is)
    (case m1 => k_is)
    (case x1 => k_is)
    (case x2 => k_is)
    (case m2 => k_is)
    (case x3 => k_is)
    (case x4 => k_is)
    (case x5 => k_is)
    (case m3 => k_is)
    (case s3 => first | rfl | decide +kernel)
    (case z_len => k_is)
    (case z_isinstance => k_is)
    (case z_int => k_is)
    (case z_tuple => k_is)
    (case z_list => k_is)
    (case z_range => k_is)
    (case z_enumerate => k_is)
    (case z_str => k_is)
    (case z_bool => k_is)
    (case u0 => k_is)
    (case u1 => k_is)
    (case u2 => k_is)
    (case u3 => k_is)
    (case u4 => k_is)
    (case v0 => k_is)
    (case e0a => k_is)
    (case e0b => k_is)
    (case e0c => k_is)
    (case e0d => k_is)
    (case e0e => k_is)
    (case e0f => k_is)
    (case e0g => k_is)
    (case e0h => k_is)
    (case y0 => k_is)
    (case w0 => k_exc)
    (case m0_0 => kts_exm)
    (case n0_0 => kit_is)
    (case m0_1 => kts_exm)
    (case n0_1 => kit_is)
    (case m0_2 => kts_exm)
    (case n0_2 => kit_is)
    (case m0_3 => kts_exm)
    (case n0_3 => kit_is)
    (case m0_4 => kts_exm)
    (case n0_4 => kit_is)
    (case v1 => k_is)
    (case e1a => k_is)
    (case e1b => k_is)
    (case e1c => k_is)
    (case e1d => k_is)
    (case e1e => k_is)
    (case e1f => k_is)
    (case e1g => k_is)
    (case e1h => k_is)
    (case y1 => k_is)
    (case w1 => k_exc)
    (case m1_0 => kts_exm)
    (case n1_0 => kit_is)
    (case m1_1 => kts_exm)
    (case n1_1 => kit_is)
    (case m1_2 => kts_exm)
    (case n1_2 => kit_is)
    (case m1_3 => kts_exm)
    (case n1_3 => kit_is)
    (case m1_4 => kts_exm)
    (case n1_4 => kit_is)
    (case v2 => k_is)
    (case e2a => k_is)
    (case e2b => k_is)
    (case e2c => k_is)
    (case e2d => k_is)
    (case e2e => k_is)
    (case e2f => k_is)
    (case e2g => k_is)
    (case e2h => k_is)
    (case y2 => k_is)
    (case w2 => k_exc)
    (case m2_0 => kts_exm)
    (case n2_0 => kit_is)
    (case m2_1 => kts_exm)
    (case n2_1 => kit_is)
    (case m2_2 => kts_exm)
    (case n2_2 => kit_is)
    (case m2_3 => kts_exm)
    (case n2_3 => kit_is)
    (case m2_4 => kts_exm)
    (case n2_4 => kit_is)
    (case v3 => k_is)
    (case e3a => k_is)
    (case e3b => k_is)
    (case e3c => k_is)
    (case e3d => k_is)
    (case e3e => k_is)
    (case e3f => k_is)
    (case e3g => k_is)
    (case e3h => k_is)
    (case y3 => k_is)
    (case w3 => k_exc)
    (case m3_0 => kts_exm)
    (case n3_0 => kit_is)
    (case m3_1 => kts_exm)
    (case n3_1 => kit_is)
    (case m3_2 => kts_exm)
    (case n3_2 => kit_is)
    (case m3_3 => kts_exm)
    (case n3_3 => kit_is)
    (case m3_4 => kts_exm)
    (case n3_4 => kit_is)
    (case v4 => k_is)
    (case e4a => k_is)
    (case e4b => k_is)
    (case e4c => k_is)
    (case e4d => k_is)
    (case e4e => k_is)
    (case e4f => k_is)
    (case e4g => k_is)
    (case e4h => k_is)
    (case y4 => k_is)
    (case m4_0 => kts_exm)
    (case n4_0 => kit_is)
    (case m4_1 => kts_exm)
    (case n4_1 => kit_is)
    (case m4_2 => kts_exm)
    (case n4_2 => kit_is)
    (case m4_3 => kts_exm)
    (case n4_3 => kit_is)
    (case m4_4 => kts_exm)
    (case n4_4 => kit_is)
    (case f4 => k_is)
    (case g4 => k_is)
    (case h4 => k_is)
    (case i4 => k_is)
    (case j4 => k_is)
    (case s4v => first | rfl | decide +kernel)
    (case s4f => first | rfl | decide +kernel)
    (case o4 => k_is)
    (case p4 => k_is)
    (case s4r => first | rfl | decide +kernel)
    (case q4 => k_is)
    (case r4 => k_is)
    (case b4 => ks_is)
    (case d4 => k_is)
    (case zo4 => k_is)
    (case zi4 => k_is)
    (case zs4 => k_is)
    (case s_ts => exact List.mem_singleton.mpr rfl)
    (case tn => first | kernel_rfl | rfl | decide +kernel)
    (case th => first | kernel_rfl | rfl | decide +kernel)
