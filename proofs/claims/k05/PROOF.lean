import PyProof.Rows.All
import Wide.All
import OpenK.AllK
import Wide.FinOn
import HandS.ForMost
import HandS.Wide
import HandS.WideBits
import HandS.Gcd
import HandS.IsInst
import HandS.Defaults
import HandS.HeadEnd
import PyProof.ReprRoads
import PyProof.StrLawsRepr
import KE.KStateDown
import HandS.Head0
import HandS.Head1
import HandS.Head2
import HandS.HeadHook1
import HandS.HeadHook2
import HandS.HeadHook3
import HandS.HeadHook4
import HandS.Style
import HandS.Walk
import HandS.TupAny
import HandS.Zip
import HandS.Rev
import HandS.RevRange
import HandS.TryOnly
import HandS.GenCall
import HandS.GenYield
import HandS.GenList
import HandS.AnyAll
import PyProof.TupleOfGen
import HandS.EndTab
import KE.GoesMore
import KE.GoesZip
import KE.GoesEnum
import KE.KMathGC
import HandS.Flow
import HandS.TupMul
import PyProof.EnumMake
import HandS.Deep
import KE.KDictZip
import HandS.Head3
import PySem.Challenge.RW_withinrim_k05_whole_rows_divided_and_com
set_option Elab.async false
set_option linter.all false
set_option maxRecDepth 100000
set_option maxHeartbeats 0
/-! RimA: defs whose callers run under no guard (so that repr of nested data may be said): FnG, its calls, its end. -/
namespace Rim
open PySem PySem.Spec PyProof.Rows L2

/-- a def that keeps its promise wherever no guard runs around it -/
structure FnG (P : Program) (w : World) (K : PySem.W.Frag) (mg : Str → Option Value) (base : Heap) (CX : CXT)
    (k : Nat) (f : Addr) (fd : FuncData) (ps : List Str) (sp : Sp) : Prop where
  len : ∀ vs H Q E, sp vs H Q E → vs.length = ps.length
  run : ∀ (A : Around) (outer : List Env) (s : Shared) (H : Hp) (args : Args) (us : List Value) (vs : List V)
    (Q : VK) (E : XK), Room k A → A.guards = some [] → Env0 P w K mg base A outer s H →
    BindsTo s fd args (ps.zip us) → Vals vs us → sp vs H Q E →
    codeAny (model P w) A (.call (.ref f) args) (CR CX outer P w H s Q E) s

theorem FnG.mono {P w K mg base CX j k f fd ps sp} (F : FnG P w K mg base CX j f fd ps sp) (h : j ≤ k) :
    FnG P w K mg base CX k f fd ps sp :=
  ⟨F.len, fun A outer s H args us vs Q E hr => F.run A outer s H args us vs Q E (hr.mono h)⟩

section
variable {P : Program} {w : World} {K : PySem.W.Frag} {mg : Str → Option Value} {base : Heap} {x qual : Str}
  {params : Arguments} {body : List Stmt} {scope : Scope} {dvs : List V} {kws : List (Str × V)} {f : Addr} {fd : FuncData}

theorem FnG.of {CX : CXT} {N ps : List Str} {k : Nat} {sp : Sp} (F : FunD K x qual params body scope dvs kws f fd)
    (S : FnScope N ps scope) (len : ∀ vs H Q E, sp vs H Q E → vs.length = ps.length)
    (hb : ∀ (cdv : Value) (A : Around) (outer : List Env) (s : Shared) (H : Hp) (vs : List V) (Q : VK) (E : XK),
      Room k (A.deeper (envOfC qual scope s.heap.objs.size f cdv)) → A.guards = some [] → fd.code = cdv → sp vs H Q E →
      ∃ t, PSs (cxOf CX P w K mg base N qual scope f cdv A outer s H E) body t ∧
        t { nx := fun _ H' => Q .non H', rt := Q } (start N vs) H) :
    FnG P w K mg base CX (k + 1) f fd ps sp := by
  obtain ⟨oc, od, dV, kV, doc, pm, an, cdv, ct, osl, rfl, lk, hcd, _, _⟩ := F.ex
  refine ⟨len, fun A outer s H args us vs Q E hr hg e0 hbi r hsp => ?_⟩
  have hl := len _ _ _ _ hsp
  have base_in : ∀ b o, base.get? b = some o → s.heap.get? b = some o := fun b o e => (e0.bs b o e).1
  have KX : K.In s.heap := e0.mod.kin.keeps base_in
  have lim : s.heap.NoLimit := e0.mod.nolimit.keeps base_in
  have hkind : ∀ y ∈ ps.zip us, scope.names.lookup y.1 = some .local ∨
      (scope.names.lookup y.1 = some .cell ∧
        ((cellsFrom (s.heap.objs.size + 1) scope.names []).lookup y.1).isSome = true) := by
    rintro ⟨n, v⟩ hy
    rcases S.par n (List.of_mem_zip hy).1 with q | q
    · exact Or.inl q
    · exact Or.inr ⟨q, PySem.W.cellsFrom_some _ _ _ (Or.inl q)⟩
  refine codeAny_call_function hr.depth (KX _ _ lk) rfl S.co S.gen rfl (PySem.W.codeRec_of KX hcd) (hbi _ _ _ _ ?_)
  refine wpAny_newFunctionEnv_cells S.kind hkind fun env he s1 z => ?_
  subst he
  refine ⟨lim.keeps z.toInCall.keep, codeAny_func ?_⟩
  obtain ⟨t, ht, hq⟩ := hb cdv A outer s H vs Q E (hr.deeper _) hg rfl hsp
  have I := inv_start (CX := CX) (E := E) S hr.hd e0 hl r z
  refine wpAny_mono (ht.run [] s1 (start N vs) H _ I hq) (fun fl s' hs => ?_) fun e s' hs => hs
  cases fl with
  | ret u =>
    obtain ⟨v, σ', H', J, rv, q⟩ := hs
    exact ⟨v, H', J.os, J.bare, J.base, J.hok, rv, q⟩
  | next =>
    obtain ⟨σ', H', J, q⟩ := hs
    exact ⟨V.non, H', J.os, J.bare, J.base, J.hok, rfl, q⟩
  | brk =>
    obtain ⟨_, _, _, q⟩ := hs
    exact False.elim q
  | cont =>
    obtain ⟨_, _, _, q⟩ := hs
    exact False.elim q
end

section
variable {X : Cx} {CX : CXT} {k n : Nat} {f : Addr} {fd : FuncData} {ps ks : List Str} {sp : Sp} {dvs : List V}
  {ds : List Value} {E : XK} {x : Str} {p pos : Pos} {e : Expr} {es : List Expr} {kws : List Keyword} {t tk : TA}
  {g : List Value → List Value → List Value} {gV : List V → List V → List V}

theorem back_of {pins : List (Addr × Obj)} {σ : L2.St} {H : Hp} {s : Shared} {Q : VK} (hx : Passes CX X E)
    (I : Inv X pins σ H s) (r : Result) (s' : Shared) (hq : CR CX X.stack X.prog X.w H s Q E r s') :
    (match r with
      | .ok (.ret u) => EP X pins σ Q u s'
      | .ok _ => False
      | .error e => X.xe e s') := by
  cases r with
  | error e => exact hx pins σ H s e s' I hq
  | ok fl =>
    cases fl with
    | ret u => exact I.after hq
    | next => exact False.elim hq
    | brk => exact False.elim hq
    | cont => exact False.elim hq

/-- f(e, ..), f of FnG -/
theorem pe_callG (F : FnG X.prog X.w X.K X.mg X.base CX k f fd ps sp) (hr : Room k X.A) (hgu : X.A.guards = some [])
    (hg : Gl X x) (hm : X.mg x = some (.ref f)) (hk : PySem.W.keepIn X.K (.ref f) = true) (hb : Binds X.K fd ps ds)
    (hd : Vals dvs ds) (hx : Passes CX X E) (ha : PA X (e :: es) t)
    (hdb : (x == ("__debug__" : Str)) = false := by decide)
    (he : starEach (e :: es) X.env = (false, eval e X.env) :: starEach es X.env := by rfl)
    (hpl : (backTo pos (starEach es X.env)).any (·.1) = false := by rfl) :
    PE X (.Call (.Name x p) (e :: es) [] pos) (tCall sp dvs E t) := by
  constructor
  intro pins s σ H Q I h
  refine wpAny_Call_Name_kw (ld_glob I hg hm ?_ hdb)
  refine PySem.W.callWith_K (h₀ := X.base) I.ok.mod.kin hk (thn (ha.run pos pins s σ H _ I h) ?_) he hpl
  rintro us s1 ⟨vs, H1, I1, r, q⟩
  refine ⟨I1.kIn, ?_⟩
  have r2 := r.append hd
  have hl : (us ++ ds).length = ps.length := by
    rw [← r2.length]
    exact F.len _ _ _ _ q
  refine wpAny_call (codeAny_mono (F.run X.A X.stack s1 H1 ⟨us, []⟩ (us ++ ds) (vs ++ dvs) Q E hr hgu I1.env0
    (hb s1 us I1.kIn hl) r2 q) fun r s' hq => ?_)
  have z := back_of hx I1 r s' hq
  cases r with
  | error e => exact z
  | ok fl => cases fl <;> exact z

/-- f(e, .., k = v, ..), also without a positional value -/
theorem pe_callGK (F : FnG X.prog X.w X.K X.mg X.base CX k f fd ps sp) (hr : Room k X.A) (hgu : X.A.guards = some [])
    (hg : Gl X x) (hm : X.mg x = some (.ref f)) (hk : PySem.W.keepIn X.K (.ref f) = true)
    (hb : KBn X.K fd ps 0 ks g gV) (hx : Passes CX X E) (hkw : PK X kws tk)
    (hall : (backToKw pos (keywordEach kws X.env)).all (·.1.isSome) = true := by rfl)
    (hks : (backToKw pos (keywordEach kws X.env)).filterMap (·.1) = ks := by rfl)
    (hdb : (x == ("__debug__" : Str)) = false := by decide)
    (hpl : ((backTo pos (starEach [] X.env)).any (·.1) || (backToKw pos (keywordEach kws X.env)).any (·.1.isNone)) = false := by rfl) :
    PE X (.Call (.Name x p) [] kws pos) (tCallN 0 ks.length sp gV E tNil tk) := by
  constructor
  intro pins s σ H Q I h
  refine wpAny_Call_Name_kw (ld_glob I hg hm ?_ hdb)
  refine PySem.W.callWith_KW0 (h₀ := X.base) I.ok.mod.kin hk hall ?_ hpl
  refine thn (hkw.run pos pins s σ H _ I h) ?_
  rintro ws s2 ⟨zs, H2, I2, rz, _, l2, q2⟩
  refine ⟨I2.kIn, ?_⟩
  rw [hks]
  have r2 := hb.rel (vs := []) (us := []) .nil rz
  refine wpAny_call (codeAny_mono (F.run X.A X.stack s2 H2 ⟨[], ks.zip ws⟩ (g [] ws) (gV [] zs) Q E hr hgu I2.env0
    (hb.to s2 [] ws I2.kIn rfl (rz.length.symm.trans l2)) r2 q2) fun r s' hq => ?_)
  have z := back_of hx I2 r s' hq
  cases r with
  | error e => exact z
  | ok fl => cases fl <;> exact z
end

/-! ### the law's end -/
theorem law_callG {P : Program} {w : World} {K : PySem.W.Frag} {mg mb : Str → Option Value} {k : Nat} {fa a : Addr}
    {fd : FuncData} {x : Str} {sp : Sp} {s₁ : Shared} {vs : List Value} {ns : List Int}
    (KX : K.In s₁.heap) (hns : s₁.heap.Ns mainGlobals mg) (hb : s₁.heap.Ns builtinsNs mb)
    (hbb : ∀ x : Str, x ≠ "__name__" → mb x = bootBuiltins x) (hlim : s₁.heap.NoLimit) (hg : s₁.gens = #[])
    (ha : s₁.heap.get? a = some { cls := .type "list", data := .seq vs.toArray }) (hi : IntsAre vs ns)
    (hl : ns.length ≤ sizeLine) (hr : Room k callerA)
    (F : ∀ base : Heap, K.In base → base.Ns mainGlobals mg → FnG P w K mg base CX0 k fa fd [x] sp)
    (hbind : ∀ (s : Shared) (u : Value), BindsTo s fd ⟨[u], []⟩ [(x, u)])
    (hsp : ∀ H : Hp, Only H → SqL K H a (ns.map V.int) → sp [.ref a] H (fun v _ => v = .bl true) fun _ _ _ => False) :
    codeAny (model P w) callerA (.call (.ref fa) ⟨[.ref a], []⟩)
      (fun r s' => r = .ok (.ret (.bool true)) ∧ OldK s₁.heap s'.heap ∧ s'.os = s₁.os ∧ AllBare s'.gens) s₁ := by
  have rv := vals_ints hi
  -- once for whatever the heap tracks at the entry
  have core : ∀ H : Hp, Only H → SqL K H a (ns.map V.int) → HOk P w H s₁.heap → (∀ b, H b ≠ none → b = a) →
      (H a ≠ none → K.lookup a = none) →
      codeAny (model P w) callerA (.call (.ref fa) ⟨[.ref a], []⟩)
        (fun r s' => r = .ok (.ret (.bool true)) ∧ OldK s₁.heap s'.heap ∧ s'.os = s₁.os ∧ AllBare s'.gens) s₁ := by
    intro H hO hS hok hA hK
    have untracked : ∀ b, b ≠ a → H b = none := fun b hne => by
      cases q : H b with
      | none => rfl
      | some u => exact absurd (hA b (by rw [q]; simp)) hne
    have in_base : ∀ {b : Addr} {o : Obj}, s₁.heap.get? b = some o → H b = none → (hidT s₁.heap H).get? b = some o :=
      fun e n => hidT_get e n
    have dict_free : ∀ {b : Addr} {o : Obj} {es : Array DictEntry} {ep : Nat}, s₁.heap.get? b = some o →
        o.data = .dict es ep → H b = none := by
      intro b o es ep e d
      by_cases hba : b = a
      · subst hba
        rw [ha] at e
        cases e
        cases (show Data.seq vs.toArray _ = Data.dict es ep from d)
      · exact untracked b hba
    have ns_base : ∀ {b : Addr} {m : Str → Option Value}, s₁.heap.Ns b m → (hidT s₁.heap H).Ns b m := by
      rintro b m ⟨o, es, ep, e, d, r⟩
      exact ⟨o, es, ep, in_base e (dict_free e d), d, r⟩
    have k_base : K.In (hidT s₁.heap H) := by
      intro b o e
      refine in_base (KX b o e) ?_
      by_cases hba : b = a
      · subst hba
        cases q : H b with
        | none => rfl
        | some u =>
          rw [hK (by rw [q]; simp)] at e
          cases e
      · exact untracked b hba
    have hM : Mod K mg (hidT s₁.heap H) := by
      obtain ⟨mc, h1, h2⟩ := hlim
      exact ⟨k_base, ns_base hns, ⟨mb, ns_base hb, hbb⟩, ⟨mc, ns_base h1, h2⟩⟩
    have e0 : Env0 P w K mg (hidT s₁.heap H) callerA [] s₁ H :=
      ⟨rfl, hM, fun b o e => of_hidT e, Nat.le_of_eq (hidT_size _ _), trivial,
        fun b hb => absurd (show b ∈ ([] : List Addr) from hb) (by simp), hok, .of_eq hg⟩
    refine codeAny_mono ((F _ k_base (ns_base hns)).run callerA [] s₁ H ⟨[.ref a], []⟩ [.ref a] [.ref a] _ _ hr rfl e0
      (hbind s₁ (.ref a)) (.cons rfl .nil) (hsp H hO hS)) fun r s' h => ?_
    cases r with
    | error e => exact False.elim h
    | ok fl =>
      cases fl with
      | next => exact False.elim h
      | brk => exact False.elim h
      | cont => exact False.elim h
      | ret u =>
        obtain ⟨v, H', os, bare, un, hok', r', q⟩ := h
        have q' : v = .bl true := q
        subst q'
        obtain rfl : u = Value.bool true := r'
        refine ⟨rfl, OldK.of_keep fun b o e => ?_, os, bare⟩
        cases q : H b with
        | none =>
          exact un.keep b o e q (fun z => absurd (show b ∈ ([] : List Addr) from z) (by simp)) (by simp)
        | some u =>
          rcases hO b with z | ⟨ob, xs, z⟩
          · rw [q] at z
            cases z
          · obtain ⟨e1, _⟩ := hok b _ z
            obtain ⟨e2, _⟩ := hok' b _ (un.frzs b ob _ z)
            rw [e] at e1
            cases e1
            exact e2
  have lenV := hi.length
  cases hk : K.lookup a with
  | some o =>
    have e := KX a o hk
    rw [ha] at e
    cases e
    have none_ne : ∀ b, (fun _ => none : Hp) b ≠ none → b = a := fun b z => absurd rfl z
    refine core (fun _ => none) (fun _ => Or.inl rfl) (Or.inr ⟨_, vs.toArray, _, hk, rfl, rfl, rfl, ?_, ?_⟩)
      (fun b u z => ?_) none_ne fun z => absurd rfl z
    · rw [List.size_toArray, lenV]
      exact hl
    · simpa using rv
    · cases (show (none : Option HO) = some u from z)
  | none =>
    let H0 : Hp := upd (fun _ => none) a (.frz { cls := .type "list", data := .seq vs.toArray } (.lst (ns.map V.int)))
    have h0 : H0 a = some (.frz { cls := .type "list", data := .seq vs.toArray } (.lst (ns.map V.int))) := upd_same
    have h1 : ∀ b, b ≠ a → H0 b = none := fun b hne => upd_ne hne
    refine core H0 (fun b => ?_) (Or.inl (Or.inr ⟨_, h0⟩)) (fun b u z => ?_) (fun b z => ?_) fun _ => hk
    · by_cases hba : b = a
      · subst hba
        exact Or.inr ⟨_, _, h0⟩
      · exact Or.inl (h1 b hba)
    · by_cases hba : b = a
      · subst hba
        rw [h0] at z
        cases z
        exact ⟨ha, by rw [List.length_map]; exact hl, vs, _, rv, ha⟩
      · rw [h1 b hba] at z
        cases z
    · by_cases hba : b = a
      · exact hba
      · exact absurd (h1 b hba) z

theorem walk_ofG {l : PySem.W.OpenLaw} {n k : Nat} {q : Program} {loose : List Str}
    {XP : (Str → Option Value) → Heap → Prop} {YP : World → Heap → Prop} {d : DefRec} {x : Str}
    (hn : l.most = some n) (hn2 : n ≤ sizeLine) (hdf : d.params.defaults = []) (hr : Room k callerA)
    (F : ∀ (w : World) (mg : Str → Option Value) (fa : Addr) (h : Heap), YP w h → h.Ns mainGlobals mg →
      mg d.name = some (.ref fa) → ∃ (K : PySem.W.Frag) (fd : FuncData) (sp : Sp), K.In h ∧
        (∀ (s : Shared) (u : Value), BindsTo s fd ⟨[u], []⟩ [(x, u)]) ∧
        (∀ (H : Hp) (a : Addr) (ns : List Int), ns.length ≤ n → Only H → SqL K H a (ns.map V.int) →
          sp [.ref a] H (fun v _ => v = .bl true) fun _ _ _ => False) ∧
        ∀ base : Heap, K.In base → base.Ns mainGlobals mg → FnG l.prog w K mg base CX0 k fa fd [x] sp) :
    PySem.W.WalkO q loose XP YP l.row.toRowW d [] (fun f vs => PySem.call f vs) := by
  refine Att.attach_call hn hdf fun w s₀ s₁ mg mb fa o pm cd doc a vs ns G Y ho hd hcd hmg hobj hints hlen hg => ?_
  obtain ⟨K, fd, sp, KX, hb, hsp, hF⟩ := F w mg fa _ Y G.T.g hmg
  exact law_callG KX G.T.g G.T.b G.T.builtins G.T.nolimit hg hobj hints (Nat.le_trans hlen hn2) hr hF hb
    fun H hO hS => hsp H a ns hlen hO hS
end Rim

/-! RimW: what a def does to data: readings of the hand layer as rules over PyData, without a heap. -/
namespace Rim
open PySem PySem.Spec L2

/-! ### data stay while the heap grows -/
section
variable {K : PySem.W.Frag} {G G' : Hp}
theorem sqT_mono {a : Addr} {xs : List V} (e : Same G G') (h : SqT K G a xs) : SqT K G' a xs := by
  rcases h with (h | ⟨o, h⟩) | h
  · exact Or.inl (Or.inl (e _ _ h))
  · exact Or.inl (Or.inr ⟨o, e _ _ h⟩)
  · exact Or.inr h
mutual
theorem dp_mono (e : Same G G') : ∀ (d : PyData) (v : V), Dp K G v d → Dp K G' v d
  | .none, _, h => by cases h; exact .non
  | .bool b, _, h => by cases h; exact .bl b
  | .int i, _, h => by cases h; exact .int i
  | .str x, _, h => by cases h; exact .str x
  | .list ds, _, h => by
    cases h with
    | lst hs ha => exact .lst (e.seq hs) (dpA_mono e ds _ ha)
  | .tuple ds, _, h => by
    cases h with
    | tup hs ha => exact .tup (sqT_mono e hs) (dpA_mono e ds _ ha)
  | .dict _, _, h => by cases h
theorem dpA_mono (e : Same G G') : ∀ (ds : List PyData) (vs : List V), DpAll K G vs ds → DpAll K G' vs ds
  | [], _, h => by cases h; exact .nil
  | d :: ds, _, h => by
    cases h with
    | cons h1 h2 => exact .cons (dp_mono e d _ h1) (dpA_mono e ds _ h2)
end
theorem dpA_len : ∀ {vs : List V} {ds : List PyData}, DpAll K G vs ds → vs.length = ds.length
  | _, _, .nil => rfl
  | _, _, .cons _ t => by rw [List.length_cons, List.length_cons, dpA_len t]
theorem dpA_get : ∀ {vs : List V} {ds : List PyData} {i : Nat} {d : PyData}, DpAll K G vs ds → ds[i]? = some d →
    ∃ v, vs[i]? = some v ∧ Dp K G v d
  | _, _, _, _, .nil, h => by simp at h
  | _, _, 0, d, .cons a _, h => by
    simp at h
    subst h
    exact ⟨_, rfl, a⟩
  | _, _, i + 1, d, .cons _ t, h => by
    obtain ⟨v, h1, h2⟩ := dpA_get (i := i) t (by simpa using h)
    exact ⟨v, by simpa using h1, h2⟩
theorem dpA_at {vs : List V} {ds : List PyData} {i : Nat} {v : V} (h : DpAll K G vs ds) (hv : vs[i]? = some v) :
    ∃ d, ds[i]? = some d ∧ Dp K G v d := by
  have hl := dpA_len h
  have hi : i < vs.length := (List.getElem?_eq_some_iff.mp hv).1
  have hd : ds[i]? = some (ds[i]'(by omega)) := List.getElem?_eq_getElem (by omega)
  obtain ⟨w, h1, h2⟩ := dpA_get h hd
  rw [hv] at h1
  cases h1
  exact ⟨_, hd, h2⟩
theorem dpA_append : ∀ {vs us : List V} {ds es : List PyData}, DpAll K G vs ds → DpAll K G us es → DpAll K G (vs ++ us) (ds ++ es)
  | _, _, _, _, .nil, h => h
  | _, _, _, _, .cons a t, h => .cons a (dpA_append t h)
theorem dpA_set {v : V} {d : PyData} (hd : Dp K G v d) : ∀ {vs : List V} {ds : List PyData} (i : Nat), DpAll K G vs ds →
    DpAll K G (vs.set i v) (ds.set i d)
  | _, _, _, .nil => .nil
  | _, _, 0, .cons _ t => .cons hd t
  | _, _, i + 1, .cons a t => .cons a (dpA_set hd i t)
theorem dpA_take : ∀ {vs : List V} {ds : List PyData} (n : Nat), DpAll K G vs ds → DpAll K G (vs.take n) (ds.take n)
  | _, _, 0, _ => by simp only [List.take_zero]; exact .nil
  | _, _, n + 1, .nil => by simp only [List.take_nil]; exact .nil
  | _, _, n + 1, .cons a t => by simp only [List.take_succ_cons]; exact .cons a (dpA_take n t)
theorem dpA_drop : ∀ {vs : List V} {ds : List PyData} (n : Nat), DpAll K G vs ds → DpAll K G (vs.drop n) (ds.drop n)
  | _, _, 0, h => by simpa only [List.drop_zero] using h
  | _, _, n + 1, .nil => by simp only [List.drop_nil]; exact .nil
  | _, _, n + 1, .cons _ t => by simp only [List.drop_succ_cons]; exact dpA_drop n t
theorem dp_int {v : V} {i : Int} (h : Dp K G v (.int i)) : v = .int i := by cases h; rfl
theorem dp_bl {v : V} {b : Bool} (h : Dp K G v (.bool b)) : v = .bl b := by cases h; rfl
theorem dp_str {v : V} {x : Str} (h : Dp K G v (.str x)) : v = .str x := by cases h; rfl
theorem dp_tup {v : V} {ds : List PyData} (h : Dp K G v (.tuple ds)) : ∃ a xs, v = .ref a ∧ SqT K G a xs ∧ DpAll K G xs ds := by
  cases h with
  | tup hs ha => exact ⟨_, _, rfl, hs, ha⟩
theorem dp_lst {v : V} {ds : List PyData} (h : Dp K G v (.list ds)) : ∃ a xs, v = .ref a ∧ SqL K G a xs ∧ DpAll K G xs ds := by
  cases h with
  | lst hs ha => exact ⟨_, _, rfl, hs, ha⟩
end

/-! ### states -/
/-- a list of three ints that draws change -/
def Pail (H : Hp) (a : Addr) : Prop := ∃ x y z : Int, H a = some (.lst [.int x, .int y, .int z]) ∧ (0 ≤ y ∧ y < 2147483648)
/- G: the part of H that nobody changes; p: where the pail stands, if one is at hand -/
/-- the tables of the code objects (where generator expressions keep their own) -/
class Tabs where
  tb : Addr → Prop
variable [Tabs]
def TabO (H : Hp) (a : Addr) : Prop := ∃ ps : Array Value, H a = some (.tbl ps) ∧ TriplesOk ps.toList
structure J (p : Option Addr) (G H : Hp) : Prop where
  sub : Same G H
  pl : ∀ a, p = some a → G a = none ∧ Pail H a
  tt : ∀ a, Tabs.tb a → G a = none ∧ TabO H a
structure Xt (p : Option Addr) (G H G' H' : Hp) : Prop where
  gg : Same G G'
  hh : ∀ a o, p ≠ some a → (∀ ps, o ≠ .tbl ps) → H a = some o → H' a = some o
  tb : ∀ a ps, p ≠ some a → H a = some (.tbl ps) → ∃ qs, H' a = some (.tbl qs)
  fr : ∀ a, p ≠ some a → H a ≠ none → G a = none → G' a = none
theorem Xt.some {p : Option Addr} {G H G' H' : Hp} (x : Xt p G H G' H') {a : Addr} {o : HO} (h : p ≠ some a) (e : H a = some o) : ∃ o', H' a = some o' := by
  cases o with
  | tbl ps =>
    obtain ⟨qs, z⟩ := x.tb a ps h e
    exact ⟨_, z⟩
  | _ => exact ⟨_, x.hh a _ h (fun _ z => by cases z) e⟩
section
variable {p : Option Addr} {G H G1 H1 G2 H2 : Hp}
theorem Xt.refl : Xt p G H G H := ⟨Same.refl G, fun _ _ _ _ h => h, fun _ ps _ h => ⟨ps, h⟩, fun _ _ _ h => h⟩
theorem Xt.trans (a : Xt p G H G1 H1) (b : Xt p G1 H1 G2 H2) : Xt p G H G2 H2 :=
  ⟨a.gg.trans b.gg, fun x o hp hz h => b.hh x o hp hz (a.hh x o hp hz h), fun x ps hp h => by
    obtain ⟨qs, h1⟩ := a.tb x ps hp h
    exact b.tb x qs hp h1, fun x hp hH hG => by
    refine b.fr x hp ?_ (a.fr x hp hH hG)
    cases q : H x with
    | none => exact absurd q hH
    | some o =>
      obtain ⟨o', e⟩ := a.some hp q
      rw [e]
      exact Option.some_ne_none o'⟩

theorem J.free (j : J p G H) {l : Addr} (h : H l = none) : G l = none := j.sub.free h
theorem J.ne (j : J p G H) {l : Addr} (h : H l = none) : p ≠ some l := fun q => by
  obtain ⟨_, x, y, z, e, _⟩ := j.pl l q
  rw [h] at e
  cases e
/-- a new object that nobody will change -/
theorem Xt.laid (j : J p G H) {l : Addr} {o : HO} (h : H l = none) : Xt p G H (upd G l o) (upd H l o) := by
  refine ⟨fun a u e => ?_, fun a u _ _ e => ?_, fun a ps _ e => ⟨ps, ?_⟩, fun a _ hH hG => ?_⟩
  · rw [upd_ne (ne_of_none e (j.free h))]; exact e
  · rw [upd_ne (ne_of_none e h)]; exact e
  · rw [upd_ne (ne_of_none e h)]; exact e
  · have hne : a ≠ l := fun q => hH (by rw [q]; exact h)
    rw [upd_ne hne]; exact hG
theorem J.nt (j : J p G H) {l : Addr} (h : H l = none) : ∀ a, Tabs.tb a → a ≠ l := fun a ha z => by
  obtain ⟨_, ps, e, _⟩ := j.tt a ha
  rw [z, h] at e
  cases e
theorem J.laid (j : J p G H) {l : Addr} {o : HO} (h : H l = none) : J p (upd G l o) (upd H l o) := by
  refine ⟨fun a u e => ?_, fun a ha => ?_, fun a ha => by
    have hne := j.nt h a ha
    obtain ⟨h1, ps, h2⟩ := j.tt a ha
    exact ⟨by rw [upd_ne hne]; exact h1, ps, by rw [upd_ne hne]; exact h2⟩⟩
  · by_cases q : a = l
    · subst q
      rw [upd_same] at e ⊢
      exact e
    · rw [upd_ne q] at e ⊢
      exact j.sub a u e
  · have hne : a ≠ l := fun q => j.ne h (by rw [← q]; exact ha)
    obtain ⟨h1, x, y, z, h2⟩ := j.pl a ha
    exact ⟨by rw [upd_ne hne]; exact h1, x, y, z, by rw [upd_ne hne]; exact h2⟩
/-- a new object of one's own -/
theorem Xt.made (j : J p G H) {l : Addr} {o : HO} (h : H l = none) : Xt p G H G (upd H l o) :=
  ⟨Same.refl G, fun a u _ _ e => by rw [upd_ne (ne_of_none e h)]; exact e, fun a ps _ e => ⟨ps, by rw [upd_ne (ne_of_none e h)]; exact e⟩, fun _ _ _ h => h⟩
theorem J.made (j : J p G H) {l : Addr} {o : HO} (h : G l = none) (hp : p ≠ some l) (h0 : ∀ ps, H l ≠ some (.tbl ps)) : J p G (upd H l o) := by
  refine ⟨fun a u e => ?_, fun a ha => ?_, fun a ha => by
    obtain ⟨h1, ps, h2, h3⟩ := j.tt a ha
    have hne : a ≠ l := fun z => h0 ps (by rw [← z]; exact h2)
    exact ⟨h1, ps, by rw [upd_ne hne]; exact h2, h3⟩⟩
  · rw [upd_ne (ne_of_none e h)]; exact j.sub a u e
  · have hne : a ≠ l := fun q => hp (by rw [← q]; exact ha)
    obtain ⟨h1, x, y, z, h2⟩ := j.pl a ha
    exact ⟨h1, x, y, z, by rw [upd_ne hne]; exact h2⟩
theorem J.madeN (j : J p G H) {l : Addr} {o : HO} (h : H l = none) : J p G (upd H l o) := j.made (j.free h) (j.ne h) fun ps z => by
  rw [h] at z
  cases z
theorem J.madeL (j : J p G H) {l : Addr} {o : HO} {xs : List V} (h : G l = none) (hp : p ≠ some l) (e : H l = some (.lst xs)) : J p G (upd H l o) := j.made h hp fun ps z => by
  rw [e] at z
  cases z
/-- an object of one's own becomes one that nobody changes -/
theorem J.frozen (j : J p G H) {l : Addr} {o : HO} (h : H l = some o) (hp : p ≠ some l) (ht : ∀ ps, o ≠ .tbl ps := by intro _ z; cases z) : J p (upd G l o) H := by
  refine ⟨fun a u e => ?_, fun a ha => ?_, fun a ha => by
    obtain ⟨h1, ps, h2, h3⟩ := j.tt a ha
    have hne : a ≠ l := fun z => by
      rw [z, h] at h2
      exact ht ps (Option.some.inj h2)
    exact ⟨by rw [upd_ne hne]; exact h1, ps, h2, h3⟩⟩
  · by_cases q : a = l
    · subst q
      rw [upd_same] at e
      rw [h]; exact e
    · rw [upd_ne q] at e
      exact j.sub a u e
  · have hne : a ≠ l := fun q => hp (by rw [← q]; exact ha)
    obtain ⟨h1, h2⟩ := j.pl a ha
    exact ⟨by rw [upd_ne hne]; exact h1, h2⟩
end

/-! ### slots -/
inductive Sl where
  | un
  | d (x : PyData)
  | m (xs : List PyData)
  | v (x : V)
abbrev Ev := List Sl
def SlOk (K : PySem.W.Frag) (p : Option Addr) (H0 G H : Hp) (x : Option (Option V)) : Sl → Prop
  | .un => True
  | .d d => ∃ v, x = some (some v) ∧ Dp K G v d
  | .m ds => ∃ l vs, x = some (some (.ref l)) ∧ H l = some (.lst vs) ∧ DpAll K G vs ds ∧ G l = none ∧ p ≠ some l ∧ H0 l = none
  | .v v => x = some (some v)
structure EnvOk (K : PySem.W.Frag) (p : Option Addr) (H0 G H : Hp) (σ : L2.St) (E : Ev) : Prop where
  len : σ.length = E.length
  at_ : ∀ (i : Nat) (s : Sl), E[i]? = some s → SlOk K p H0 G H (σ[i]?) s
  ap : ∀ (i j : Nat) (ds es : List PyData) (l : Addr), i ≠ j → E[i]? = some (.m ds) → E[j]? = some (.m es) →
    σ[i]? = some (some (.ref l)) → σ[j]? ≠ some (some (.ref l))
section
variable {K : PySem.W.Frag} {p : Option Addr} {H0 G H G1 H1 : Hp} {σ : L2.St} {E : Ev}
theorem EnvOk.mono (e : EnvOk K p H0 G H σ E) (x : Xt p G H G1 H1) : EnvOk K p H0 G1 H1 σ E := by
  refine ⟨e.len, fun i s h => ?_, e.ap⟩
  have q := e.at_ i s h
  cases s with
  | un => trivial
  | d d =>
    obtain ⟨v, h1, h2⟩ := q
    exact ⟨v, h1, dp_mono x.gg d v h2⟩
  | m ds =>
    obtain ⟨l, vs, h1, h2, h3, h4, h5, h6⟩ := q
    exact ⟨l, vs, h1, x.hh l _ h5 (fun _ z => by cases z) h2, dpA_mono x.gg ds vs h3, x.fr l h5 (by rw [h2]; exact Option.some_ne_none _) h4, h5, h6⟩
  | v v => exact q
theorem EnvOk.dat (e : EnvOk K p H0 G H σ E) {i : Nat} {d : PyData} (h : E[i]? = some (.d d)) : ∃ v, σ[i]? = some (some v) ∧ Dp K G v d := e.at_ i _ h
theorem EnvOk.val (e : EnvOk K p H0 G H σ E) {i : Nat} {v : V} (h : E[i]? = some (.v v)) : σ[i]? = some (some v) := e.at_ i _ h
theorem EnvOk.own (e : EnvOk K p H0 G H σ E) {i : Nat} {ds : List PyData} (h : E[i]? = some (.m ds)) :
    ∃ l vs, σ[i]? = some (some (.ref l)) ∧ H l = some (.lst vs) ∧ DpAll K G vs ds ∧ G l = none ∧ p ≠ some l ∧ H0 l = none := e.at_ i _ h
theorem EnvOk.has (e : EnvOk K p H0 G H σ E) {i : Nat} {s : Sl} (h : E[i]? = some s) : i < σ.length := by
  rw [e.len]
  exact (List.getElem?_eq_some_iff.mp h).1
theorem get_set {α : Type} {l : List α} {i j : Nat} {x : α} (hi : i < l.length) : (l.set i x)[j]? = if j = i then some x else l[j]? := by
  by_cases q : j = i
  · subst q
    rw [if_pos rfl, List.getElem?_set_self hi]
  · rw [if_neg q, List.getElem?_set_ne (Ne.symm q)]
/-- a slot takes data -/
theorem EnvOk.setD (e : EnvOk K p H0 G H σ E) {i : Nat} {v : V} {d : PyData} (hi : i < σ.length) (h : Dp K G v d) : EnvOk K p H0 G H (σ.set i (some v)) (E.set i (.d d)) := by
  have hE : i < E.length := by rw [← e.len]; exact hi
  refine ⟨by rw [List.length_set, List.length_set]; exact e.len, fun j s hs => ?_, fun a b ds es l hab ha hb h1 => ?_⟩
  · rw [get_set hE] at hs
    rw [get_set hi]
    by_cases q : j = i
    · rw [if_pos q] at hs ⊢
      cases hs
      exact ⟨v, rfl, h⟩
    · rw [if_neg q] at hs ⊢
      exact e.at_ j s hs
  · rw [get_set hE] at ha hb
    rw [get_set hi] at h1 ⊢
    by_cases qa : a = i
    · rw [if_pos qa] at ha
      cases ha
    · by_cases qb : b = i
      · rw [if_pos qb] at hb
        cases hb
      · rw [if_neg qa] at ha h1
        rw [if_neg qb] at hb ⊢
        exact e.ap a b ds es l hab ha hb h1
/-- a slot is forgotten -/
theorem EnvOk.setU (e : EnvOk K p H0 G H σ E) {i : Nat} {x : Option V} : EnvOk K p H0 G H (σ.set i x) (E.set i .un) := by
  by_cases hi : i < σ.length
  · have hE : i < E.length := by rw [← e.len]; exact hi
    refine ⟨by rw [List.length_set, List.length_set]; exact e.len, fun j s hs => ?_, fun a b ds es l hab ha hb h1 => ?_⟩
    · rw [get_set hE] at hs
      rw [get_set hi]
      by_cases q : j = i
      · rw [if_pos q] at hs ⊢
        cases hs
        trivial
      · rw [if_neg q] at hs ⊢
        exact e.at_ j s hs
    · rw [get_set hE] at ha hb
      rw [get_set hi] at h1 ⊢
      by_cases qa : a = i
      · rw [if_pos qa] at ha
        cases ha
      · by_cases qb : b = i
        · rw [if_pos qb] at hb
          cases hb
        · rw [if_neg qa] at ha h1
          rw [if_neg qb] at hb ⊢
          exact e.ap a b ds es l hab ha hb h1
  · have hE : ¬ i < E.length := by rw [← e.len]; exact hi
    rw [List.set_eq_of_length_le (by omega), List.set_eq_of_length_le (by omega)]
    exact e
/-- what is known of a slot is forgotten -/
theorem EnvOk.drop (e : EnvOk K p H0 G H σ E) (i : Nat) : EnvOk K p H0 G H σ (E.set i .un) := by
  by_cases hi : i < E.length
  · refine ⟨by rw [List.length_set]; exact e.len, fun j s hs => ?_, fun a b ds es l hab ha hb h1 => ?_⟩
    · rw [get_set hi] at hs
      by_cases q : j = i
      · rw [if_pos q] at hs
        cases hs
        trivial
      · rw [if_neg q] at hs
        exact e.at_ j s hs
    · rw [get_set hi] at ha hb
      by_cases qa : a = i
      · rw [if_pos qa] at ha
        cases ha
      · by_cases qb : b = i
        · rw [if_pos qb] at hb
          cases hb
        · rw [if_neg qa] at ha
          rw [if_neg qb] at hb
          exact e.ap a b ds es l hab ha hb h1
  · rw [List.set_eq_of_length_le (by omega)]
    exact e
/-- a slot takes a new list of its own -/
theorem EnvOk.setM (e : EnvOk K p H0 G H σ E) {i : Nat} {l : Addr} {vs : List V} {ds : List PyData} (hi : i < σ.length)
    (hn : ∀ (j : Nat) (es : List PyData) (m : Addr), E[j]? = some (.m es) → σ[j]? = some (some (.ref m)) → m ≠ l)
    (h : H l = some (.lst vs)) (hd : DpAll K G vs ds) (hg : G l = none) (hp : p ≠ some l) (h0 : H0 l = none) : EnvOk K p H0 G H (σ.set i (some (.ref l))) (E.set i (.m ds)) := by
  have hE : i < E.length := by rw [← e.len]; exact hi
  refine ⟨by rw [List.length_set, List.length_set]; exact e.len, fun j s hs => ?_, fun a b ds' es m hab ha hb h1 => ?_⟩
  · rw [get_set hE] at hs
    rw [get_set hi]
    by_cases q : j = i
    · rw [if_pos q] at hs ⊢
      cases hs
      exact ⟨l, vs, rfl, h, hd, hg, hp, h0⟩
    · rw [if_neg q] at hs ⊢
      exact e.at_ j s hs
  · rw [get_set hE] at ha hb
    rw [get_set hi] at h1 ⊢
    by_cases qa : a = i
    · by_cases qb : b = i
      · exact absurd (qa.trans qb.symm) hab
      · rw [if_neg qb] at hb ⊢
        rw [if_pos qa] at h1
        cases h1
        exact fun z => hn b es _ hb z rfl
    · by_cases qb : b = i
      · rw [if_neg qa] at ha h1
        rw [if_pos qb]
        intro z
        cases z
        exact hn a ds' _ ha h1 rfl
      · rw [if_neg qa] at ha h1
        rw [if_neg qb] at hb ⊢
        exact e.ap a b ds' es m hab ha hb h1
/-- the list in a slot is changed -/
theorem EnvOk.chg (e : EnvOk K p H0 G H σ E) {i : Nat} {l : Addr} {vs us : List V} {ds es : List PyData} (hs : E[i]? = some (.m ds)) (hl : σ[i]? = some (some (.ref l)))
    (h : H l = some (.lst vs)) (hd : DpAll K G us es) (hg : G l = none) (hp : p ≠ some l) (h0 : H0 l = none) : EnvOk K p H0 G (upd H l (.lst us)) σ (E.set i (.m es)) := by
  have hE : i < E.length := (List.getElem?_eq_some_iff.mp hs).1
  refine ⟨by rw [List.length_set]; exact e.len, fun j s hs' => ?_, fun a b ds' es' m hab ha hb h1 => ?_⟩
  · rw [get_set hE] at hs'
    by_cases q : j = i
    · rw [if_pos q] at hs'
      cases hs'
      exact ⟨l, us, by rw [q]; exact hl, upd_same, hd, hg, hp, h0⟩
    · rw [if_neg q] at hs'
      have z := e.at_ j s hs'
      cases s with
      | un => trivial
      | d d => exact z
      | v v => exact z
      | m fs =>
        obtain ⟨m, ws, z1, z2, z3⟩ := z
        have hne : m ≠ l := fun w => e.ap i j ds fs l (Ne.symm q) hs hs' hl (by rw [← w]; exact z1)
        exact ⟨m, ws, z1, by rw [upd_ne hne]; exact z2, z3⟩
  · rw [get_set hE] at ha hb
    have ha' : ∃ q, E[a]? = some (.m q) := by
      by_cases qa : a = i
      · exact ⟨ds, by rw [qa]; exact hs⟩
      · rw [if_neg qa] at ha
        exact ⟨_, ha⟩
    have hb' : ∃ q, E[b]? = some (.m q) := by
      by_cases qb : b = i
      · exact ⟨ds, by rw [qb]; exact hs⟩
      · rw [if_neg qb] at hb
        exact ⟨_, hb⟩
    obtain ⟨qa, ha'⟩ := ha'
    obtain ⟨qb, hb'⟩ := hb'
    exact e.ap a b qa qb m hab ha' hb' h1
end

/-! ### judgements -/
def W (K : PySem.W.Frag) (p : Option Addr) (E : Ev) (t : TE) (Φ : PyData → Prop) : Prop :=
  ∀ (H0 G H : Hp) (σ : L2.St), J p G H → EnvOk K p H0 G H σ E → ∀ Q : VK,
    (∀ v d G' H', Xt p G H G' H' → J p G' H' → Dp K G' v d → Φ d → Q v H') → t σ H Q
/-- a new list of one's own -/
def WM (K : PySem.W.Frag) (p : Option Addr) (E : Ev) (t : TE) (Φ : List PyData → Prop) : Prop :=
  ∀ (H0 G H : Hp) (σ : L2.St), J p G H → EnvOk K p H0 G H σ E → ∀ Q : VK,
    (∀ l vs ds G' H', Xt p G H G' H' → J p G' H' → H l = none → H' l = some (.lst vs) → G' l = none → DpAll K G' vs ds → Φ ds → Q (.ref l) H') → t σ H Q
def WA (K : PySem.W.Frag) (p : Option Addr) (E : Ev) (t : TA) (Φ : List PyData → Prop) : Prop :=
  ∀ (H0 G H : Hp) (σ : L2.St), J p G H → EnvOk K p H0 G H σ E → ∀ Q : List V → Hp → Prop,
    (∀ vs ds G' H', Xt p G H G' H' → J p G' H' → DpAll K G' vs ds → Φ ds → Q vs H') → t σ H Q
def WT (K : PySem.W.Frag) (p : Option Addr) (E : Ev) (t : TT) (Φ : Bool → Prop) : Prop :=
  ∀ (H0 G H : Hp) (σ : L2.St), J p G H → EnvOk K p H0 G H σ E → ∀ Q : Bool → Hp → Prop,
    (∀ b G' H', Xt p G H G' H' → J p G' H' → Φ b → Q b H') → t σ H Q
/-- an operation upon values -/
def WR (K : PySem.W.Frag) (p : Option Addr) (r : R2) (x y : PyData) (Φ : PyData → Prop) : Prop :=
  ∀ (G H : Hp) (v u : V), J p G H → Dp K G v x → Dp K G u y → ∀ Q : VK,
    (∀ w d G' H', Xt p G H G' H' → J p G' H' → Dp K G' w d → Φ d → Q w H') → r v u H Q
/-- a call of a built-in upon values -/
def WC (K : PySem.W.Frag) (p : Option Addr) (r : List V → Hp → VK → Prop) (xs : List PyData) (Φ : PyData → Prop) : Prop :=
  ∀ (G H : Hp) (vs : List V), J p G H → DpAll K G vs xs → ∀ Q : VK,
    (∀ w d G' H', Xt p G H G' H' → J p G' H' → Dp K G' w d → Φ d → Q w H') → r vs H Q

section
variable {K : PySem.W.Frag} {p : Option Addr} {E : Ev} {t ta tb tc : TE} {Φ : PyData → Prop} {Ψ : List PyData → Prop} {tt tu : TT} {Θ : Bool → Prop}

theorem W.imp {Φ' : PyData → Prop} (h : W K p E t Φ) (k : ∀ d, Φ d → Φ' d) : W K p E t Φ' :=
  fun H0 G H σ j e Q q => h H0 G H σ j e Q fun v d G' H' x j' dv hd => q v d G' H' x j' dv (k d hd)
theorem W_of_WM (h : WM K p E t fun ds => Φ (.list ds)) : W K p E t Φ := by
  intro H0 G H σ j e Q q
  refine h H0 G H σ j e Q fun l vs ds G' H' x j' hn hl hg dv hd => ?_
  have e1 : Same G' (upd G' l (.lst vs)) := fun a o z => by
    rw [upd_ne (ne_of_none z hg)]
    exact z
  have hp := j.ne hn
  refine q _ (.list ds) (upd G' l (.lst vs)) H' ⟨x.gg.trans e1, x.hh, x.tb, fun a ha hH hG => ?_⟩ (j'.frozen hl hp) (.lst (SqL.of upd_same) (dpA_mono e1 ds vs dv)) hd
  have hne : a ≠ l := fun z => hH (by rw [z]; exact hn)
  rw [upd_ne hne]
  exact x.fr a ha hH hG

/-! ### names, constants -/
theorem W_var {i : Nat} {d : PyData} (h : E[i]? = some (.d d)) (k : Φ d) : W K p E (tVar i) Φ := by
  intro H0 G H σ j e Q q
  obtain ⟨v, h1, h2⟩ := e.dat h
  exact ⟨v, h1, q v d G H Xt.refl j h2 k⟩
theorem W_int {i : Int} (k : Φ (.int i)) : W K p E (tC (.int i)) Φ := fun H0 G H σ j e Q q => q _ _ G H Xt.refl j (.int i) k
theorem W_bl {b : Bool} (k : Φ (.bool b)) : W K p E (tC (.bl b)) Φ := fun H0 G H σ j e Q q => q _ _ G H Xt.refl j (.bl b) k
theorem W_non (k : Φ .none) : W K p E (tC .non) Φ := fun H0 G H σ j e Q q => q _ _ G H Xt.refl j .non k
theorem W_str {x : Str} (k : Φ (.str x)) : W K p E (tC (.str x)) Φ := fun H0 G H σ j e Q q => q _ _ G H Xt.refl j (.str x) k
theorem W_con {v : V} {d : PyData} (h : ∀ G, Dp K G v d) (k : Φ d) : W K p E (tC v) Φ := fun H0 G H σ j e Q q => q _ _ G H Xt.refl j (h G) k

/-! ### operators -/
theorem W_op {r : R2} (h : W K p E ta fun x => W K p E tb fun y => WR K p r x y Φ) : W K p E (tOp r ta tb) Φ := by
  intro H0 G H σ j e Q q
  refine h H0 G H σ j e _ fun v x G1 H1 x1 j1 dv h1 => ?_
  refine h1 H0 G1 H1 σ j1 (e.mono x1) _ fun u y G2 H2 x2 j2 du h2 => ?_
  exact h2 G2 H2 v u j2 (dp_mono x2.gg x v dv) du Q fun w d G3 H3 x3 j3 dw hd => q w d G3 H3 ((x1.trans x2).trans x3) j3 dw hd
def fl : V → PyData
  | .non => .none
  | .bl b => .bool b
  | .int i => .int i
  | .str x => .str x
  | _ => .none
def isFl : V → Bool
  | .non | .bl _ | .int _ | .str _ => true
  | _ => false
theorem fl_ok {G : Hp} {v : V} (h : isFl v = true) : Dp K G v (fl v) := by
  cases v with
  | non => exact .non
  | bl b => exact .bl b
  | int i => exact .int i
  | str x => exact .str x
  | _ => cases h
theorem WR_I0 {g : Int → Int → V} {i k : Int} (h : isFl (g i k) = true) (q : Φ (fl (g i k))) : WR K p (rI0 g) (.int i) (.int k) Φ := by
  intro G H v u j dv du Q z
  exact ⟨i, k, dp_int dv, dp_int du, z _ _ G H Xt.refl j (fl_ok h) q⟩
theorem WR_I {C : Int → Int → Prop} {g : Int → Int → V} {i k : Int} (c : C i k) (h : isFl (g i k) = true) (q : Φ (fl (g i k))) : WR K p (rI C g) (.int i) (.int k) Φ := by
  intro G H v u j dv du Q z
  exact ⟨i, k, dp_int dv, dp_int du, c, z _ _ G H Xt.refl j (fl_ok h) q⟩

theorem WR_eqI {i k : Int} (q : Φ (.bool (decide (i = k)))) : WR K p rEq (.int i) (.int k) Φ := by
  intro G H v u j dv du Q z
  rw [dp_int dv, dp_int du]
  refine ⟨rfl, z _ (.bool (decide (i = k))) G H Xt.refl j ?_ q⟩
  have e : decide (V.int i = V.int k) = decide (i = k) := decide_eq_decide.mpr ⟨fun h => V.int.inj h, fun h => by rw [h]⟩
  rw [e]
  exact .bl _
theorem WR_neI {i k : Int} (q : Φ (.bool (!decide (i = k)))) : WR K p rNe (.int i) (.int k) Φ := by
  intro G H v u j dv du Q z
  rw [dp_int dv, dp_int du]
  refine ⟨rfl, z _ (.bool (!decide (i = k))) G H Xt.refl j ?_ q⟩
  have e : decide (V.int i = V.int k) = decide (i = k) := decide_eq_decide.mpr ⟨fun h => V.int.inj h, fun h => by rw [h]⟩
  rw [e]
  exact .bl _
theorem WR_eqS {i k : Str} (q : Φ (.bool (decide (i = k)))) : WR K p rEq (.str i) (.str k) Φ := by
  intro G H v u j dv du Q z
  rw [dp_str dv, dp_str du]
  refine ⟨rfl, z _ (.bool (decide (i = k))) G H Xt.refl j ?_ q⟩
  have e : decide (V.str i = V.str k) = decide (i = k) := decide_eq_decide.mpr ⟨fun h => V.str.inj h, fun h => by rw [h]⟩
  rw [e]
  exact .bl _
theorem WR_neS {i k : Str} (q : Φ (.bool (!decide (i = k)))) : WR K p rNe (.str i) (.str k) Φ := by
  intro G H v u j dv du Q z
  rw [dp_str dv, dp_str du]
  refine ⟨rfl, z _ (.bool (!decide (i = k))) G H Xt.refl j ?_ q⟩
  have e : decide (V.str i = V.str k) = decide (i = k) := decide_eq_decide.mpr ⟨fun h => V.str.inj h, fun h => by rw [h]⟩
  rw [e]
  exact .bl _
/-- == of data -/
theorem WR_eqD {x y : PyData} (hx : SeqAt.shaped x = true) (hy : SeqAt.shaped y = true) (q : Φ (.bool (PyData.eqv x y))) : WR K p (rEqD K) x y Φ := by
  intro G H v u j dv du Q z
  exact ⟨x, y, dp_mono j.sub x v dv, dp_mono j.sub y u du, hx, hy, z _ _ G H Xt.refl j (.bl _) q⟩
theorem WR_neD {x y : PyData} (hx : SeqAt.shaped x = true) (hy : SeqAt.shaped y = true) (q : Φ (.bool (!PyData.eqv x y))) : WR K p (rNeD K) x y Φ := by
  intro G H v u j dv du Q z
  exact ⟨x, y, dp_mono j.sub x v dv, dp_mono j.sub y u du, hx, hy, z _ _ G H Xt.refl j (.bl _) q⟩
/-- t[i], xs[i] -/
theorem at_nat {α : Type} {xs : List α} {i : Int} {x : α} (h : atI xs i = some x) : ∃ k : Nat, ixN xs.length i = some k ∧ xs[k]? = some x := by
  unfold atI at h
  cases e : ixN xs.length i with
  | none =>
    rw [e] at h
    cases h
  | some k =>
    rw [e] at h
    exact ⟨k, rfl, h⟩
theorem at_of_ds {G : Hp} {vs : List V} {ds : List PyData} {i : Int} {d : PyData} (h : DpAll K G vs ds) (e : atI ds i = some d) : ∃ v, atI vs i = some v ∧ Dp K G v d := by
  obtain ⟨k, h1, h2⟩ := at_nat e
  obtain ⟨v, h3, h4⟩ := dpA_get h h2
  refine ⟨v, ?_, h4⟩
  unfold atI
  rw [dpA_len h, h1]
  exact h3
theorem WR_ixT {ds : List PyData} {i : Int} {d : PyData} (h : atI ds i = some d) (q : Φ d) : WR K p (rIxT K) (.tuple ds) (.int i) Φ := by
  intro G H v u j dv du Q z
  obtain ⟨a, xs, rfl, hs, ha⟩ := dp_tup dv
  obtain ⟨w, h1, h2⟩ := at_of_ds ha h
  exact ⟨a, xs, i, w, rfl, dp_int du, sqT_mono j.sub hs, h1, z w d G H Xt.refl j h2 q⟩
theorem WR_ixL {ds : List PyData} {i : Int} {d : PyData} (h : atI ds i = some d) (q : Φ d) : WR K p (rIxL K) (.list ds) (.int i) Φ := by
  intro G H v u j dv du Q z
  obtain ⟨a, xs, rfl, hs, ha⟩ := dp_lst dv
  obtain ⟨w, h1, h2⟩ := at_of_ds ha h
  exact ⟨a, xs, i, w, rfl, dp_int du, j.sub.seq hs, h1, z w d G H Xt.refl j h2 q⟩
/-- xs[i] of a list of one's own, that stands in a slot -/
theorem W_ixM {i : Nat} {ds : List PyData} (hs : E[i]? = some (.m ds)) (h : W K p E tb fun y => ∃ k d, y = .int k ∧ atI ds k = some d ∧ Φ d) : W K p E (tOp (rIxL K) (tVar i) tb) Φ := by
  intro H0 G H σ j e Q q
  obtain ⟨l, vs, h1, h2, h3, h4, h5, h6⟩ := e.own hs
  refine ⟨_, h1, h H0 G H σ j e _ fun u y G1 H1 x1 j1 du hy => ?_⟩
  obtain ⟨k, d, rfl, hk, hd⟩ := hy
  obtain ⟨w, h7, h8⟩ := at_of_ds (dpA_mono x1.gg ds vs h3) hk
  exact ⟨l, vs, k, w, rfl, dp_int du, SqL.of (x1.hh l _ h5 (fun _ z => by cases z) h2), h7, q w d G1 H1 x1 j1 h8 hd⟩
/-- -e -/
theorem W_neg (h : W K p E ta fun x => ∃ i, x = .int i ∧ Φ (.int (-i))) : W K p E (tUn (rU fun i => .int (-i)) ta) Φ := by
  intro H0 G H σ j e Q q
  refine h H0 G H σ j e _ fun v x G1 H1 x1 j1 dv h1 => ?_
  obtain ⟨i, rfl, h1⟩ := h1
  exact ⟨i, dp_int dv, q _ _ G1 H1 x1 j1 (.int _) h1⟩

/-! ### tests -/
theorem WT_test (h : W K p E ta fun x => ∃ b, x = .bool b ∧ Θ b) : WT K p E (tTest ta) Θ := by
  intro H0 G H σ j e Q q
  refine h H0 G H σ j e _ fun v x G1 H1 x1 j1 dv h1 => ?_
  obtain ⟨b, rfl, h1⟩ := h1
  exact ⟨b, dp_bl dv, q b G1 H1 x1 j1 h1⟩
theorem WT_B (h : W K p E ta fun x => ∃ b, x = .bool b ∧ Θ b) : WT K p E (tB ta) Θ := by
  intro H0 G H σ j e Q q
  refine h H0 G H σ j e _ fun v x G1 H1 x1 j1 dv h1 => ?_
  obtain ⟨b, rfl, h1⟩ := h1
  exact ⟨b, dp_bl dv, q b G1 H1 x1 j1 h1⟩
theorem WT_yes (h : Θ true) : WT K p E tYes Θ := fun H0 G H σ j e Q q => q true G H Xt.refl j h
theorem WT_not (h : WT K p E tt fun b => Θ (!b)) : WT K p E (tNot tt) Θ := by
  intro H0 G H σ j e Q q
  exact h H0 G H σ j e _ fun b G1 H1 x1 j1 h1 => q (!b) G1 H1 x1 j1 h1
theorem WT_and (h : WT K p E tt fun b => (b = true → WT K p E tu Θ) ∧ (b = false → Θ false)) : WT K p E (tAnd tt tu) Θ := by
  intro H0 G H σ j e Q q
  refine h H0 G H σ j e _ fun b G1 H1 x1 j1 h1 => ?_
  cases b with
  | true =>
    refine iteT (h1.1 rfl H0 G1 H1 σ j1 (e.mono x1) Q fun c G2 H2 x2 j2 h2 => q c G2 H2 (x1.trans x2) j2 h2)
  | false => exact iteF (q false G1 H1 x1 j1 (h1.2 rfl))
theorem WT_or (h : WT K p E tt fun b => (b = true → Θ true) ∧ (b = false → WT K p E tu Θ)) : WT K p E (tOr tt tu) Θ := by
  intro H0 G H σ j e Q q
  refine h H0 G H σ j e _ fun b G1 H1 x1 j1 h1 => ?_
  cases b with
  | true => exact iteT (q true G1 H1 x1 j1 (h1.1 rfl))
  | false => refine iteF (h1.2 rfl H0 G1 H1 σ j1 (e.mono x1) Q fun c G2 H2 x2 j2 h2 => q c G2 H2 (x1.trans x2) j2 h2)
theorem W_andV (h : W K p E ta fun x => ∃ b, x = .bool b ∧ (b = true → W K p E tb Φ) ∧ (b = false → Φ (.bool false))) : W K p E (tAndV ta tb) Φ := by
  intro H0 G H σ j e Q q
  refine h H0 G H σ j e _ fun v x G1 H1 x1 j1 dv h1 => ?_
  obtain ⟨b, rfl, h1, h2⟩ := h1
  refine ⟨b, dp_bl dv, ?_⟩
  cases b with
  | true => exact iteT (h1 rfl H0 G1 H1 σ j1 (e.mono x1) Q fun w d G2 H2 x2 j2 dw hd => q w d G2 H2 (x1.trans x2) j2 dw hd)
  | false => exact iteF (q _ _ G1 H1 x1 j1 (.bl false) (h2 rfl))
theorem W_orV (h : W K p E ta fun x => ∃ b, x = .bool b ∧ (b = true → Φ (.bool true)) ∧ (b = false → W K p E tb Φ)) : W K p E (tOrV ta tb) Φ := by
  intro H0 G H σ j e Q q
  refine h H0 G H σ j e _ fun v x G1 H1 x1 j1 dv h1 => ?_
  obtain ⟨b, rfl, h1, h2⟩ := h1
  refine ⟨b, dp_bl dv, ?_⟩
  cases b with
  | true => exact iteT (q _ _ G1 H1 x1 j1 (.bl true) (h1 rfl))
  | false => exact iteF (h2 rfl H0 G1 H1 σ j1 (e.mono x1) Q fun w d G2 H2 x2 j2 dw hd => q w d G2 H2 (x1.trans x2) j2 dw hd)
theorem W_notV (h : W K p E ta fun x => ∃ b, x = .bool b ∧ Φ (.bool (!b))) : W K p E (tNotV ta) Φ := by
  intro H0 G H σ j e Q q
  refine h H0 G H σ j e _ fun v x G1 H1 x1 j1 dv h1 => ?_
  obtain ⟨b, rfl, h1⟩ := h1
  exact ⟨b, dp_bl dv, q _ _ G1 H1 x1 j1 (.bl _) h1⟩
theorem W_if (h : WT K p E tt fun b => (b = true → W K p E ta Φ) ∧ (b = false → W K p E tb Φ)) : W K p E (tIf tt ta tb) Φ := by
  intro H0 G H σ j e Q q
  refine h H0 G H σ j e _ fun b G1 H1 x1 j1 h1 => ?_
  cases b with
  | true => exact iteT (h1.1 rfl H0 G1 H1 σ j1 (e.mono x1) Q fun w d G2 H2 x2 j2 dw hd => q w d G2 H2 (x1.trans x2) j2 dw hd)
  | false => exact iteF (h1.2 rfl H0 G1 H1 σ j1 (e.mono x1) Q fun w d G2 H2 x2 j2 dw hd => q w d G2 H2 (x1.trans x2) j2 dw hd)

/-! ### argument lists, displays -/
theorem WA_nil (k : Ψ []) : WA K p E tNil Ψ := fun H0 G H σ j e Q q => q [] [] G H Xt.refl j .nil k
theorem WA_cons {tr : TA} (h : W K p E ta fun x => WA K p E tr fun xs => Ψ (x :: xs)) : WA K p E (tCons ta tr) Ψ := by
  intro H0 G H σ j e Q q
  refine h H0 G H σ j e _ fun v x G1 H1 x1 j1 dv h1 => ?_
  refine h1 H0 G1 H1 σ j1 (e.mono x1) _ fun vs xs G2 H2 x2 j2 dvs h2 => ?_
  exact q (v :: vs) (x :: xs) G2 H2 (x1.trans x2) j2 (.cons (dp_mono x2.gg x v dv) dvs) h2
theorem W_tup {tr : TA} (h : WA K p E tr fun xs => xs.length ≤ sizeLine ∧ Φ (.tuple xs)) : W K p E (tTup tr) Φ := by
  intro H0 G H σ j e Q q
  refine h H0 G H σ j e _ fun vs xs G1 H1 x1 j1 dvs h1 => ⟨by rw [dpA_len dvs]; exact h1.1, fun a ha => ?_⟩
  have x2 := Xt.laid (p := p) j1 (o := .tup vs) ha
  exact q _ (.tuple xs) _ _ (x1.trans x2) (j1.laid ha) (.tup (SqT.of upd_same) (dpA_mono x2.gg xs vs dvs)) h1.2
theorem WM_lst {tr : TA} (h : WA K p E tr fun xs => xs.length ≤ sizeLine ∧ Ψ xs) : WM K p E (tLst tr) Ψ := by
  intro H0 G H σ j e Q q
  refine h H0 G H σ j e _ fun vs xs G1 H1 x1 j1 dvs h1 => ⟨by rw [dpA_len dvs]; exact h1.1, fun a ha => ?_⟩
  have hpa := j1.ne ha
  have h0 : H a = none := by
    cases z : H a with
    | none => rfl
    | some o =>
      rw [(x1.some hpa z).choose_spec] at ha
      cases ha
  exact q a vs xs G1 _ (x1.trans (Xt.made j1 ha)) (j1.madeN ha) h0 upd_same (j1.free ha) dvs h1.2

/-! ### calls -/
theorem W_cb {r : List V → Hp → VK → Prop} {tr : TA} (h : WA K p E tr fun xs => WC K p r xs Φ) : W K p E (tCB r tr) Φ := by
  intro H0 G H σ j e Q q
  refine h H0 G H σ j e _ fun vs xs G1 H1 x1 j1 dvs h1 => ?_
  exact h1 G1 H1 vs j1 dvs Q fun w d G2 H2 x2 j2 dw hd => q w d G2 H2 (x1.trans x2) j2 dw hd
end

/-! ### promises of defs -/
/-- a def of data: args i in, what out i says out -/
def spD {ι : Type} (K : PySem.W.Frag) (n : Nat) (args : ι → List PyData) (pre : ι → Prop) (out : ι → PyData → Prop) : Sp := fun vs H Q _ =>
  vs.length = n ∧ ∃ (p : Option Addr) (G : Hp) (i : ι), J p G H ∧ DpAll K G vs (args i) ∧ pre i ∧
    ∀ v d G' H', Xt p G H G' H' → J p G' H' → Dp K G' v d → out i d → Q v H'
/-- a def whose first argument is the pail -/
def spP {ι : Type} (K : PySem.W.Frag) (n : Nat) (args : ι → List PyData) (pre : ι → Prop) (out : ι → PyData → Prop) : Sp := fun vs H Q _ =>
  vs.length = n ∧ ∃ (a : Addr) (ws : List V) (G : Hp) (i : ι), vs = .ref a :: ws ∧ J (some a) G H ∧ DpAll K G ws (args i) ∧ pre i ∧
    ∀ v d G' H', Xt (some a) G H G' H' → J (some a) G' H' → Dp K G' v d → out i d → Q v H'
section
variable {K : PySem.W.Frag} {p : Option Addr} {E : Ev} {Φ : PyData → Prop} {ι : Type} {n : Nat} {args : ι → List PyData} {pre : ι → Prop} {out : ι → PyData → Prop}
theorem W_call {tr : TA} {X : XK} (h : WA K p E tr fun xs => ∃ i, xs = args i ∧ (args i).length = n ∧ pre i ∧ ∀ d, out i d → Φ d) : W K p E (tCall (spD K n args pre out) [] X tr) Φ := by
  intro H0 G H σ j e Q q
  refine h H0 G H σ j e _ fun vs xs G1 H1 x1 j1 dvs h1 => ?_
  obtain ⟨i, rfl, hn, hp, hk⟩ := h1
  rw [List.append_nil]
  exact ⟨(dpA_len dvs).trans hn, p, G1, i, j1, dvs, hp, fun v d G2 H2 x2 j2 dv hd => q v d G2 H2 (x1.trans x2) j2 dv (hk d hd)⟩
/-- with defaults behind -/
theorem W_callD {tr : TA} {X : XK} {dvs : List V} (hdf : dvs.all isFl = true) (h : WA K p E tr fun xs => ∃ i, xs ++ dvs.map fl = args i ∧ (args i).length = n ∧ pre i ∧ ∀ d, out i d → Φ d) : W K p E (tCall (spD K n args pre out) dvs X tr) Φ := by
  intro H0 G H σ j e Q q
  refine h H0 G H σ j e _ fun vs xs G1 H1 x1 j1 dvs' h1 => ?_
  obtain ⟨i, hi, hn, hp, hk⟩ := h1
  have hd : ∀ (us : List V), us.all isFl = true → DpAll K G1 us (us.map fl) := by
    intro us
    induction us with
    | nil => intro _; exact .nil
    | cons u us ih =>
      intro hu
      rw [List.all_cons, Bool.and_eq_true] at hu
      exact .cons (fl_ok hu.1) (ih hu.2)
  have da := dpA_append dvs' (hd dvs hdf)
  rw [hi] at da
  exact ⟨(dpA_len da).trans hn, p, G1, i, j1, da, hp, fun v d G2 H2 x2 j2 dv hd => q v d G2 H2 (x1.trans x2) j2 dv (hk d hd)⟩
/-- by keywords alone: gV puts the values in order -/
theorem W_callN {tk : TA} {X : XK} {m : Nat} {gV : List V → List V → List V} {gD : List PyData → List PyData}
    (hg : ∀ (G : Hp) (vs : List V) (ds : List PyData), DpAll K G vs ds → ds.length = m → DpAll K G (gV [] vs) (gD ds))
    (h : WA K p E tk fun xs => xs.length = m ∧ ∃ i, gD xs = args i ∧ (args i).length = n ∧ pre i ∧ ∀ d, out i d → Φ d) : W K p E (tCallN 0 m (spD K n args pre out) gV X tNil tk) Φ := by
  intro H0 G H σ j e Q q
  refine h H0 G H σ j e _ fun vs xs G1 H1 x1 j1 dvs h1 => ?_
  obtain ⟨hm, i, hi, hn, hp, hk⟩ := h1
  have da := hg G1 vs xs dvs hm
  rw [hi] at da
  exact ⟨rfl, (dpA_len dvs).trans hm, (dpA_len da).trans hn, p, G1, i, j1, da, hp, fun v d G2 H2 x2 j2 dv hd => q v d G2 H2 (x1.trans x2) j2 dv (hk d hd)⟩
theorem W_callP {tr : TA} {X : XK} {a : Addr} {k : Nat} (ha : E[k]? = some (.v (.ref a))) (h : WA K (some a) E tr fun xs => ∃ i, xs = args i ∧ (args i).length + 1 = n ∧ pre i ∧ ∀ d, out i d → Φ d) :
    W K (some a) E (tCall (spP K n args pre out) [] X (tCons (tVar k) tr)) Φ := by
  intro H0 G H σ j e Q q
  refine ⟨_, e.val ha, ?_⟩
  refine h H0 G H σ j e _ fun vs xs G1 H1 x1 j1 dvs h1 => ?_
  obtain ⟨i, rfl, hn, hp, hk⟩ := h1
  rw [List.append_nil]
  refine ⟨?_, a, vs, G1, i, rfl, j1, dvs, hp, fun v d G2 H2 x2 j2 dv hd => q v d G2 H2 (x1.trans x2) j2 dv (hk d hd)⟩
  rw [List.length_cons, dpA_len dvs]
  exact hn
end
end Rim

/-! RimS: statements, loops, comprehensions, built-ins over data; a def's body against its promise. -/
namespace Rim
open PySem PySem.Spec L2
variable [Tabs]

/-! ### statements: N behind it, R what is returned, B break, C continue -/
structure Exits (K : PySem.W.Frag) (p : Option Addr) (G0 H0 : Hp) (D : Ends) (N : Ev → Prop) (R : PyData → Prop) (B C : Ev → Prop) : Prop where
  nx : ∀ (σ : L2.St) (E : Ev) (G H : Hp), Xt p G0 H0 G H → J p G H → EnvOk K p H0 G H σ E → N E → D.nx σ H
  rt : ∀ (v : V) (d : PyData) (G H : Hp), Xt p G0 H0 G H → J p G H → Dp K G v d → R d → D.rt v H
  bk : ∀ (σ : L2.St) (E : Ev) (G H : Hp), Xt p G0 H0 G H → J p G H → EnvOk K p H0 G H σ E → B E → D.bk σ H
  ct : ∀ (σ : L2.St) (E : Ev) (G H : Hp), Xt p G0 H0 G H → J p G H → EnvOk K p H0 G H σ E → C E → D.ct σ H
def S (K : PySem.W.Frag) (p : Option Addr) (E : Ev) (t : TS) (N : Ev → Prop) (R : PyData → Prop) (B C : Ev → Prop) : Prop :=
  ∀ (G0 H0 G H : Hp) (σ : L2.St), Xt p G0 H0 G H → J p G H → EnvOk K p H0 G H σ E → ∀ D : Ends, Exits K p G0 H0 D N R B C → t D σ H
abbrev Nev : Ev → Prop := fun _ => False

section
variable {K : PySem.W.Frag} {p : Option Addr} {E : Ev} {te ta tb : TE} {N B C : Ev → Prop} {R : PyData → Prop} {t u : TS} {tt : TT}

theorem S.imp {N' B' C' : Ev → Prop} {R' : PyData → Prop} (h : S K p E t N R B C) (n : ∀ E, N E → N' E) (r : ∀ d, R d → R' d) (b : ∀ E, B E → B' E) (c : ∀ E, C E → C' E) : S K p E t N' R' B' C' :=
  fun G0 H0 G H σ x j e D q => h G0 H0 G H σ x j e D ⟨fun σ E G H a b' c' d => q.nx σ E G H a b' c' (n E d), fun v d G H a b' c' z => q.rt v d G H a b' c' (r d z), fun σ E G H a b' c' d => q.bk σ E G H a b' c' (b E d), fun σ E G H a b' c' d => q.ct σ E G H a b' c' (c E d)⟩
theorem S_seq (h : S K p E t (fun E' => S K p E' u N R B C) R B C) : S K p E (tSeq t u) N R B C :=
  fun G0 H0 G H σ x j e D q => h G0 H0 G H σ x j e { D with nx := u D } ⟨fun σ' E' G' H' x' j' e' s => s G0 H0 G' H' σ' x' j' e' D q, q.rt, q.bk, q.ct⟩
/-- a statement that may go on in several ways: one word for them all -/
theorem S_cut {M : Ev → Prop} (h : S K p E t M R B C) (k : ∀ E', M E' → S K p E' u N R B C) : S K p E (tSeq t u) N R B C :=
  S_seq (h.imp k (fun _ h => h) (fun _ h => h) fun _ h => h)
theorem S_next (k : N E) : S K p E tNext N R B C := fun G0 H0 G H σ x j e D q => q.nx σ E G H x j e k
theorem S_break (k : B E) : S K p E tBreak N R B C := fun G0 H0 G H σ x j e D q => q.bk σ E G H x j e k
theorem S_cont (k : C E) : S K p E tCont N R B C := fun G0 H0 G H σ x j e D q => q.ct σ E G H x j e k
theorem S_ret (h : W K p E te R) : S K p E (tRet te) N R B C := fun G0 H0 G H σ x j e D q =>
  h H0 G H σ j e _ fun v d G' H' x' j' dv hd => q.rt v d G' H' (x.trans x') j' dv hd
theorem S_retN (k : R .none) : S K p E tRetN N R B C := fun G0 H0 G H σ x j e D q => q.rt .non .none G H x j .non k
theorem S_drop (h : W K p E te fun _ => N E) : S K p E (tDrop te) N R B C := fun G0 H0 G H σ x j e D q =>
  h H0 G H σ j e _ fun v d G' H' x' j' dv hd => q.nx σ E G' H' (x.trans x') j' (e.mono x') hd
theorem S_asg {i : Nat} (hi : i < E.length) (h : W K p E te fun d => N (E.set i (.d d))) : S K p E (tAsg te (gName i)) N R B C := fun G0 H0 G H σ x j e D q =>
  h H0 G H σ j e _ fun v d G' H' x' j' dv hd => q.nx _ _ G' H' (x.trans x') j' ((e.mono x').setD (by rw [e.len]; exact hi) dv) hd
theorem Xt.fresh {G0 H0 G H : Hp} (x : Xt p G0 H0 G H) (j : J p G H) {l : Addr} (h : H l = none) : H0 l = none := by
  cases z : H0 l with
  | none => rfl
  | some o =>
    rw [(x.some (j.ne h) z).choose_spec] at h
    cases h
theorem S_asgM {i : Nat} (hi : i < E.length) (h : WM K p E te fun ds => N (E.set i (.m ds))) : S K p E (tAsg te (gName i)) N R B C := fun G0 H0 G H σ x j e D q =>
  h H0 G H σ j e _ fun l vs ds G' H' x' j' hn hl hg dv hd => by
    refine q.nx _ _ G' H' (x.trans x') j' ((e.mono x').setM (by rw [e.len]; exact hi) (fun k es m h1 h2 => ?_) hl dv hg (j.ne hn) (x.fresh j hn)) hd
    obtain ⟨l', vs', z1, z2, _⟩ := e.own h1
    rw [z1] at h2
    cases h2
    exact ne_of_none z2 hn
theorem S_if (h : WT K p E tt fun b => (b = true → S K p E t N R B C) ∧ (b = false → S K p E u N R B C)) : S K p E (tIfS tt t u) N R B C := fun G0 H0 G H σ x j e D q =>
  h H0 G H σ j e _ fun b G' H' x' j' hb => by
    cases b with
    | true => exact iteT (hb.1 rfl G0 H0 G' H' σ (x.trans x') j' (e.mono x') D q)
    | false => exact iteF (hb.2 rfl G0 H0 G' H' σ (x.trans x') j' (e.mono x') D q)
/-- a list of one's own is one's own no longer -/
theorem S_froze {i : Nat} {ds : List PyData} (hs : E[i]? = some (.m ds)) (h : S K p (E.set i (.d (.list ds))) t N R B C) : S K p E t N R B C := fun G0 H0 G H σ x j e D q => by
  obtain ⟨l, vs, h1, h2, h3, h4, h5, h6⟩ := e.own hs
  have e1 : Same G (upd G l (.lst vs)) := fun a o z => by
    rw [upd_ne (ne_of_none z h4)]
    exact z
  have hi := e.has hs
  have x1 : Xt p G0 H0 (upd G l (.lst vs)) H := ⟨x.gg.trans e1, x.hh, x.tb, fun a ha hH hG => by
    have hne : a ≠ l := fun z => hH (by rw [z]; exact h6)
    rw [upd_ne hne]
    exact x.fr a ha hH hG⟩
  refine h G0 H0 (upd G l (.lst vs)) H σ x1 (j.frozen h2 h5) ?_ D q
  have hE : i < E.length := by rw [← e.len]; exact hi
  refine ⟨by rw [List.length_set]; exact e.len, fun k s hk => ?_, fun a b ds' es m hab ha hb z1 => ?_⟩
  · rw [get_set hE] at hk
    by_cases w : k = i
    · rw [if_pos w] at hk
      cases hk
      exact ⟨.ref l, by rw [w]; exact h1, .lst (SqL.of upd_same) (dpA_mono e1 ds vs h3)⟩
    · rw [if_neg w] at hk
      have z := e.at_ k s hk
      cases s with
      | un => trivial
      | v v => exact z
      | d d =>
        obtain ⟨v, z1, z2⟩ := z
        exact ⟨v, z1, dp_mono e1 d v z2⟩
      | m es =>
        obtain ⟨m, us, z1, z2, z3, z4, z5⟩ := z
        have hne : m ≠ l := fun y => e.ap i k ds es l (Ne.symm w) hs hk h1 (by rw [← y]; exact z1)
        exact ⟨m, us, z1, z2, dpA_mono e1 es us z3, by rw [upd_ne hne]; exact z4, z5⟩
  · rw [get_set hE] at ha hb
    by_cases qa : a = i
    · rw [if_pos qa] at ha
      cases ha
    · by_cases qb : b = i
      · rw [if_pos qb] at hb
        cases hb
      · rw [if_neg qa] at ha
        rw [if_neg qb] at hb
        exact e.ap a b ds' es m hab ha hb z1
/-- a, b = t: data into names -/
def TGok (K : PySem.W.Frag) (p : Option Addr) (E : Ev) (g : TG) (d : PyData) (N : Ev → Prop) : Prop :=
  ∀ (H0 G H : Hp) (σ : L2.St) (v : V), J p G H → EnvOk K p H0 G H σ E → Dp K G v d → ∀ Q : L2.St → Hp → Prop, (∀ σ' E', EnvOk K p H0 G H σ' E' → N E' → Q σ' H) → g v σ H Q
def TGsok (K : PySem.W.Frag) (p : Option Addr) (E : Ev) (g : TGs) (ds : List PyData) (N : Ev → Prop) : Prop :=
  ∀ (H0 G H : Hp) (σ : L2.St) (vs : List V), J p G H → EnvOk K p H0 G H σ E → DpAll K G vs ds → ∀ Q : L2.St → Hp → Prop, (∀ σ' E', EnvOk K p H0 G H σ' E' → N E' → Q σ' H) → g vs σ H Q
theorem TG_name {i : Nat} {d : PyData} (hi : i < E.length) (k : N (E.set i (.d d))) : TGok K p E (gName i) d N := fun H0 G H σ v j e dv Q q =>
  q _ _ (e.setD (by rw [e.len]; exact hi) dv) k
theorem TGs_nil (k : N E) : TGsok K p E gNil [] N := fun H0 G H σ vs j e dv Q q => by
  cases dv
  exact ⟨rfl, q σ E e k⟩
theorem TGs_cons {g : TG} {gs : TGs} {d : PyData} {ds : List PyData} (h : TGok K p E g d fun E' => TGsok K p E' gs ds N) : TGsok K p E (gCons g gs) (d :: ds) N := fun H0 G H σ vs j e dv Q q => by
  cases dv with
  | cons a b =>
    refine ⟨_, _, rfl, h H0 G H σ _ j e a _ fun σ' E' e' k => ?_⟩
    exact k H0 G H σ' _ j e' b Q q
theorem TG_tup {n : Nat} {gs : TGs} {ds : List PyData} (hn : ds.length = n) (h : TGsok K p E gs ds N) : TGok K p E (gTup K n gs) (.tuple ds) N := fun H0 G H σ v j e dv Q q => by
  obtain ⟨a, xs, rfl, hs, ha⟩ := dp_tup dv
  exact ⟨a, xs, rfl, sqT_mono j.sub hs, (dpA_len ha).trans hn, h H0 G H σ xs j e ha Q q⟩
theorem S_asgG {g : TG} (h : W K p E te fun d => TGok K p E g d N) : S K p E (tAsg te g) N R B C := fun G0 H0 G H σ x j e D q =>
  h H0 G H σ j e _ fun v d G' H' x' j' dv hd => hd H0 G' H' σ v j' (e.mono x') dv _ fun σ' E' e' k => q.nx σ' E' G' H' (x.trans x') j' e' k
/-- a, b = e1, e2 into two names -/
theorem S_par {i k : Nat} {tr : TA} (hi : i < E.length) (hk : k < E.length) (h : WA K p E tr fun ds => ∃ a b, ds = [a, b] ∧ N ((E.set i (.d a)).set k (.d b))) : S K p E (tPar i k tr) N R B C := fun G0 H0 G H σ x j e D q =>
  h H0 G H σ j e _ fun vs ds G' H' x' j' dv hd => by
    obtain ⟨a, b, rfl, hn⟩ := hd
    cases dv with
    | cons da dv =>
      cases dv with
      | cons db dv =>
        cases dv
        refine ⟨_, _, rfl, q.nx _ _ G' H' (x.trans x') j' (((e.mono x').setD (by rw [e.len]; exact hi) da).setD ?_ db) hn⟩
        rw [List.length_set, e.len]
        exact hk
/-- x op= e upon ints -/
theorem S_augI {i : Nat} {f : Int → Int → Int} {a : Int} (hs : E[i]? = some (.d (.int a))) (h : W K p E te fun d => ∃ b, d = .int b ∧ N (E.set i (.d (.int (f a b))))) : S K p E (tAug i te (ipI f)) N R B C := fun G0 H0 G H σ x j e D q => by
  obtain ⟨v, h1, h2⟩ := e.dat hs
  refine ⟨v, h1, h H0 G H σ j e _ fun u d G' H' x' j' dv hd => ?_⟩
  obtain ⟨b, rfl, hn⟩ := hd
  exact ⟨a, b, dp_int h2, dp_int dv, q.nx _ _ G' H' (x.trans x') j' ((e.mono x').setD (e.has hs) (.int _)) hn⟩

/-! ### lists of one's own -/
theorem Xt.chg {G0 H0 G H : Hp} (x : Xt p G0 H0 G H) {l : Addr} {o : HO} (h0 : H0 l = none) : Xt p G0 H0 G (upd H l o) :=
  ⟨x.gg, fun a u ha hz hu => by
    rw [upd_ne (ne_of_none hu h0)]
    exact x.hh a u ha hz hu, fun a ps ha hu => by
    rw [upd_ne (ne_of_none hu h0)]
    exact x.tb a ps ha hu, x.fr⟩
/-- xs[k] = e -/
theorem S_setM {i : Nat} {ti : TE} {ds : List PyData} (hs : E[i]? = some (.m ds))
    (h : W K p E te fun d => W K p E ti fun y => ∃ (k : Int) (n : Nat), y = .int k ∧ ixN ds.length k = some n ∧ N (E.set i (.m (ds.set n d)))) :
    S K p E (tAsg te (gSub (tVar i) ti rSetL)) N R B C := fun G0 H0 G H σ x j e D q =>
  h H0 G H σ j e _ fun v d G1 H1 x1 j1 dv h1 => by
    have e1 := e.mono x1
    obtain ⟨l, vs, z1, z2, z3, z4, z5, z6⟩ := e1.own hs
    refine ⟨_, z1, h1 H0 G1 H1 σ j1 e1 _ fun u y G2 H2 x2 j2 du h2 => ?_⟩
    obtain ⟨k, n, rfl, hk, hn⟩ := h2
    have e2 := e1.mono x2
    obtain ⟨l', vs', y1, y2, y3, y4, y5, y6⟩ := e2.own hs
    rw [z1] at y1
    cases y1
    refine ⟨l, vs', k, n, rfl, dp_int du, y2, by rw [dpA_len y3]; exact hk, ?_⟩
    exact q.nx σ _ G2 _ (((x.trans x1).trans x2).chg y6) (j2.madeL y4 y5 y2) (e2.chg hs z1 y2 (dpA_set (dp_mono x2.gg d v dv) n y3) y4 y5 y6) hn
/-- xs.append(e) -/
theorem S_app {i : Nat} {ds : List PyData} (hs : E[i]? = some (.m ds)) (hz : ds.length < sizeLine) (h : W K p E te fun d => N (E.set i (.m (ds ++ [d])))) :
    S K p E (tDrop (tBM K "list" rAppend (tVar i) (tCons te tNil))) N R B C := fun G0 H0 G H σ x j e D q => by
  obtain ⟨l, vs, z1, z2, z3, z4, z5, z6⟩ := e.own hs
  refine ⟨_, z1, Or.inl ⟨rfl, _, Or.inl (Or.inl z2)⟩, h H0 G H σ j e _ fun v d G1 H1 x1 j1 dv h1 => ?_⟩
  have e1 := e.mono x1
  obtain ⟨l', vs', y1, y2, y3, y4, y5, y6⟩ := e1.own hs
  rw [z1] at y1
  cases y1
  refine ⟨l, vs', v, rfl, rfl, y2, by rw [dpA_len y3]; exact hz, ?_⟩
  exact q.nx σ _ G1 _ ((x.trans x1).chg y6) (j1.madeL y4 y5 y2) (e1.chg hs z1 y2 (dpA_append y3 (.cons dv .nil)) y4 y5 y6) h1

/-! ### loops -/
theorem Xt.from {G0 H0 G1 H1 G H : Hp} (x1 : Xt p G0 H0 G1 H1) (x : Xt p G0 H0 G H) (g : Same G1 G) : Xt p G1 H0 G H :=
  ⟨g, x.hh, x.tb, fun a ha hH hG => x.fr a ha hH (by
    cases z : G0 a with
    | none => rfl
    | some o =>
      rw [x1.gg a o z] at hG
      cases hG)⟩
theorem Xt.back {G0 H0 G1 H1 G H : Hp} (x1 : Xt p G0 H0 G1 H1) (x : Xt p G1 H0 G H) : Xt p G0 H0 G H :=
  ⟨x1.gg.trans x.gg, x.hh, x.tb, fun a ha hH hG => x.fr a ha hH (x1.fr a ha hH hG)⟩
theorem Exits.from {G0 H0 G1 H1 : Hp} {D : Ends} (q : Exits K p G0 H0 D N R B C) (x1 : Xt p G0 H0 G1 H1) : Exits K p G1 H0 D N R B C :=
  ⟨fun σ E G H x j e n => q.nx σ E G H (x1.back x) j e n, fun v d G H x j dv r => q.rt v d G H (x1.back x) j dv r,
    fun σ E G H x j e n => q.bk σ E G H (x1.back x) j e n, fun σ E G H x j e n => q.ct σ E G H (x1.back x) j e n⟩
/-- the state of a loop between two turns -/
def Lp (K : PySem.W.Frag) (p : Option Addr) (G1 H0 : Hp) (I : Ev → Prop) (σ : L2.St) (H : Hp) : Prop :=
  ∃ E G, Xt p G1 H0 G H ∧ J p G H ∧ EnvOk K p H0 G H σ E ∧ I E
theorem Lp.exits {G0 H0 G1 H1 : Hp} {D : Ends} {I : Ev → Prop} (q : Exits K p G0 H0 D N R B C) (x1 : Xt p G0 H0 G1 H1) :
    Exits K p G1 H0 { D with nx := Lp K p G1 H0 I, ct := Lp K p G1 H0 I, bk := D.nx } I R N I :=
  ⟨fun σ E G H x j e i => ⟨E, G, x, j, e, i⟩, fun v d G H x j dv r => q.rt v d G H (x1.back x) j dv r,
    fun σ E G H x j e n => q.nx σ E G H (x1.back x) j e n, fun σ E G H x j e i => ⟨E, G, x, j, e, i⟩⟩
/-- for g in a list that nobody changes -/
theorem S_forL {g : TG} {tl : TE}
    (h : W K p E tl fun d => ∃ ds, d = .list ds ∧ ∃ Inv : Nat → Ev → Prop, Inv 0 E ∧
      (∀ k x E', ds[k]? = some x → Inv k E' → TGok K p E' g x fun E2 => S K p E2 t (Inv (k + 1)) R N (Inv (k + 1))) ∧ ∀ E', Inv ds.length E' → N E') :
    S K p E (tFor (iList K tl) g t) N R B C := fun G0 H0 G H σ x j e D q =>
  h H0 G H σ j e _ fun v d G1 H1 x1 j1 dv h1 => by
    obtain ⟨ds, rfl, Inv, i0, is, id⟩ := h1
    obtain ⟨a, xs, rfl, hs, ha⟩ := dp_lst dv
    have z1 := x.trans x1
    refine ⟨a, rfl, ⟨xs, j1.sub.seq hs⟩, ?_⟩
    refine for_list (xs := xs) (fun k σ' H' => Lp K p G1 H0 (Inv k) σ' H') ⟨E, G1, Xt.from z1 z1 (Same.refl _), j1, e.mono x1, i0⟩ ?_ ?_ ?_
    · rintro k σ' H' _ ⟨E', G', x', j', e', i'⟩
      exact (x'.gg.trans j'.sub).seq hs
    · rintro k y σ' H' hy ⟨E', G', x', j', e', i'⟩
      obtain ⟨d, hd, dy⟩ := dpA_at ha hy
      refine is k d E' hd i' H0 G' H' σ' y j' e' (dp_mono x'.gg d y dy) _ fun σ2 E2 e2 s2 => ?_
      exact s2 G1 H0 G' H' σ2 x' j' e2 _ (Lp.exits q z1)
    · rintro σ' H' ⟨E', G', x', j', e', i'⟩
      refine q.nx σ' E' G' H' (z1.back x') j' e' (id E' ?_)
      rw [← dpA_len ha]
      exact i'
/-- for g in a tuple -/
theorem S_forT {g : TG} {tl : TE}
    (h : W K p E tl fun d => ∃ ds, d = .tuple ds ∧ ∃ Inv : Nat → Ev → Prop, Inv 0 E ∧
      (∀ k x E', ds[k]? = some x → Inv k E' → TGok K p E' g x fun E2 => S K p E2 t (Inv (k + 1)) R N (Inv (k + 1))) ∧ ∀ E', Inv ds.length E' → N E') :
    S K p E (tFor (iTup K tl) g t) N R B C := fun G0 H0 G H σ x j e D q =>
  h H0 G H σ j e _ fun v d G1 H1 x1 j1 dv h1 => by
    obtain ⟨ds, rfl, Inv, i0, is, id⟩ := h1
    obtain ⟨a, xs, rfl, hs, ha⟩ := dp_tup dv
    have z1 := x.trans x1
    refine ⟨a, rfl, ⟨xs, sqT_mono j1.sub hs⟩, ?_⟩
    refine for_tup (xs := xs) (fun k σ' H' => Lp K p G1 H0 (Inv k) σ' H') ⟨E, G1, Xt.from z1 z1 (Same.refl _), j1, e.mono x1, i0⟩ ?_ ?_ ?_
    · rintro k σ' H' _ ⟨E', G', x', j', e', i'⟩
      exact sqT_mono (x'.gg.trans j'.sub) hs
    · rintro k y σ' H' hy ⟨E', G', x', j', e', i'⟩
      obtain ⟨d, hd, dy⟩ := dpA_at ha hy
      refine is k d E' hd i' H0 G' H' σ' y j' e' (dp_mono x'.gg d y dy) _ fun σ2 E2 e2 s2 => ?_
      exact s2 G1 H0 G' H' σ2 x' j' e2 _ (Lp.exits q z1)
    · rintro σ' H' ⟨E', G', x', j', e', i'⟩
      refine q.nx σ' E' G' H' (z1.back x') j' e' (id E' ?_)
      rw [← dpA_len ha]
      exact i'
/-- for k in range(n) -/
theorem S_forR1 {g : TG} {tr : TA}
    (h : WA K p E tr fun ds => ∃ n : Int, ds = [.int n] ∧ (-(2 ^ 62) ≤ n ∧ n < 2 ^ 62) ∧ ∃ Inv : Nat → Ev → Prop, Inv 0 E ∧
      (∀ (k : Nat) E', (k : Int) < n → Inv k E' → TGok K p E' g (.int k) fun E2 => S K p E2 t (Inv (k + 1)) R N (Inv (k + 1))) ∧ ∀ E', Inv n.toNat E' → N E') :
    S K p E (tFor (iRng1 tr) g t) N R B C := fun G0 H0 G H σ x j e D q =>
  h H0 G H σ j e _ fun vs ds G1 H1 x1 j1 dv h1 => by
    obtain ⟨n, rfl, ⟨hn1, hn2⟩, Inv, i0, is, id⟩ := h1
    have z1 := x.trans x1
    cases dv with
    | cons da db =>
      cases db
      cases da
      refine ⟨n, rfl, hn1, hn2, ?_⟩
      refine for_range (lo := 0) (n := n.toNat) (fun k σ' H' => Lp K p G1 H0 (Inv k) σ' H') ⟨E, G1, Xt.from z1 z1 (Same.refl _), j1, e.mono x1, i0⟩ ?_ ?_
      · rintro k σ' H' hk ⟨E', G', x', j', e', i'⟩
        have e0 : (0 : Int) + (k : Int) = (k : Int) := Int.zero_add _
        rw [e0]
        refine is k E' (by omega) i' H0 G' H' σ' _ j' e' (.int _) _ fun σ2 E2 e2 s2 => ?_
        exact s2 G1 H0 G' H' σ2 x' j' e2 _ (Lp.exits q z1)
      · rintro σ' H' ⟨E', G', x', j', e', i'⟩
        exact q.nx σ' E' G' H' (z1.back x') j' e' (id E' i')
/-- while: a word with its measure -/
theorem S_while (W0 : Nat → Ev → Prop) (m0 : Nat) (h0 : W0 m0 E)
    (hs : ∀ m E', W0 m E' → WT K p E' tt fun b => (b = true → S K p E' t (fun E2 => ∃ m', m' < m ∧ W0 m' E2) R N (fun E2 => ∃ m', m' < m ∧ W0 m' E2)) ∧ (b = false → N E')) :
    S K p E (tWhile tt t) N R B C := fun G0 H0 G H σ x j e D q => by
  refine ⟨fun m σ' H' => Lp K p G0 H0 (W0 m) σ' H', ⟨m0, E, G, x, j, e, h0⟩, ?_⟩
  rintro m σ' H' ⟨E', G', x', j', e', i'⟩
  refine hs m E' i' H0 G' H' σ' j' e' _ fun b G2 H2 x2 j2 h2 => ?_
  cases b with
  | true =>
    refine iteT ⟨Lp K p G0 H0 fun E2 => ∃ m', m' < m ∧ W0 m' E2, ?_, ?_⟩
    · rintro σ3 H3 ⟨E3, G3, x3, j3, e3, m', hm, w3⟩
      exact ⟨m', hm, E3, G3, x3, j3, e3, w3⟩
    · exact h2.1 rfl G0 H0 G2 H2 σ' (x'.trans x2) j2 (e'.mono x2) _ (Lp.exits q (Xt.refl (H := H0)))
  | false => exact iteF (q.nx σ' E' G2 H2 (x'.trans x2) j2 (e'.mono x2) (h2.2 rfl))
end

/-! ### comprehensions -/
def wipeE (E : Ev) : List Nat → Ev
  | [] => E
  | v :: vs => (wipeE E vs).set v .un
theorem env_wipe {K : PySem.W.Frag} {p : Option Addr} {H0 G H : Hp} {σ : L2.St} {E : Ev} (e : EnvOk K p H0 G H σ E) : ∀ vs : List Nat, EnvOk K p H0 G H (wipe σ vs) (wipeE E vs)
  | [] => e
  | v :: vs => (env_wipe e vs).setU
theorem wipe_len (σ : L2.St) (vs : List Nat) : (wipe σ vs).length = σ.length := wipe_length σ vs
section
variable {K : PySem.W.Frag} {p : Option Addr} {E : Ev} {te tl : TE} {tt : TT} {Φ : List PyData → Prop}
/-- what a turn of a comprehension does: the target, the test, the element -/
def Turn1 (K : PySem.W.Frag) (p : Option Addr) (E : Ev) (g : TG) (tt : TT) (te : TE) (vs : List Nat) (x : PyData) (acc : List PyData) (I : List PyData → Prop) : Prop :=
  ∀ (H0 G H : Hp) (σ : L2.St) (v : V), J p G H → EnvOk K p H0 G H σ E → Dp K G v x → ∀ Q : L2.St → Hp → Prop,
    (∀ σ2 E2, EnvOk K p H0 G H σ2 E2 → wipe σ2 vs = wipe σ vs → WT K p E2 tt (fun b => (b = true → W K p E2 te fun y => I (acc ++ [y])) ∧ (b = false → I acc)) → Q σ2 H) → g v (wipe σ vs) H Q
theorem turn_name {i : Nat} {x : PyData} {acc : List PyData} {I : List PyData → Prop} (hi : i < E.length)
    (h : WT K p (E.set i (.d x)) tt fun b => (b = true → W K p (E.set i (.d x)) te fun y => I (acc ++ [y])) ∧ (b = false → I acc)) : Turn1 K p E (gName i) tt te [i] x acc I := by
  intro H0 G H σ v j e dv Q q
  have hs : i < σ.length := by rw [e.len]; exact hi
  show Q ((σ.set i none).set i (some v)) H
  rw [List.set_set]
  refine q _ _ (e.setD hs dv) ?_ h
  show (σ.set i (some v)).set i none = σ.set i none
  rw [List.set_set]
/-- two names of a pair -/
theorem turn_pair {i k : Nat} {a b : PyData} {acc : List PyData} {I : List PyData → Prop} (hi : i < E.length) (hk : k < E.length) (hik : i ≠ k)
    (h : WT K p ((E.set i (.d a)).set k (.d b)) tt fun c => (c = true → W K p ((E.set i (.d a)).set k (.d b)) te fun y => I (acc ++ [y])) ∧ (c = false → I acc)) :
    Turn1 K p E (gTup K 2 (gCons (gName i) (gCons (gName k) gNil))) tt te [i, k] (.tuple [a, b]) acc I := by
  intro H0 G H σ v j e dv Q q
  have hs : i < σ.length := by rw [e.len]; exact hi
  have hs2 : k < σ.length := by rw [e.len]; exact hk
  obtain ⟨ad, xs, rfl, hsq, ha⟩ := dp_tup dv
  cases ha with
  | cons d1 ha =>
    cases ha with
    | cons d2 ha =>
      cases ha
      refine ⟨ad, _, rfl, sqT_mono j.sub hsq, rfl, _, _, rfl, _, _, rfl, rfl, ?_⟩
      have e2 := (e.setD hs d1).setD (by rw [List.length_set]; exact hs2) d2
      have w1 : wipe σ [i, k] = (σ.set k none).set i none := rfl
      rename_i v1 v2
      have w2 : (((σ.set k none).set i none).set i (some v1)).set k (some v2) = (σ.set i (some v1)).set k (some v2) := by
        rw [List.set_set, List.set_comm _ _ (Ne.symm hik), List.set_set]
      rw [w1, w2]
      refine q _ _ e2 ?_ h
      show ((((σ.set i (some v1)).set k (some v2)).set k none).set i none) = (σ.set k none).set i none
      rw [List.set_set, List.set_comm _ _ hik, List.set_set, List.set_comm _ _ (Ne.symm hik)]

/-- the list of a comprehension while it grows -/
def Grow (K : PySem.W.Frag) (p : Option Addr) (G1 H1 : Hp) (D : Addr) (k : Nat) (I : List PyData → Prop) (H : Hp) : Prop :=
  ∃ G us acc, Xt p G1 H1 G H ∧ J p G H ∧ H D = some (.lst us) ∧ G D = none ∧ DpAll K G us acc ∧ acc.length ≤ k ∧ I acc
theorem grow_turn {G1 H1 H0 : Hp} {D : Addr} {k : Nat} {I I' : List PyData → Prop} {H : Hp} {σ : L2.St} {g : TG} {vs : List Nat} {x : PyData} {v : V}
    (hD : H1 D = none) (hp : p ≠ some D) (e : EnvOk K p H0 G1 H1 σ E) (dv : Dp K G1 v x) (hk : k < sizeLine) (q : Grow K p G1 H1 D k I H)
    (h : ∀ acc, I acc → Turn1 K p E g tt te vs x acc I') :
    g v (wipe σ vs) H fun σ2 H2 => wipe σ2 vs = wipe σ vs ∧ tt σ2 H2 fun b H3 =>
      if b = true then te σ2 H3 fun y H4 => ∃ acc, H4 D = some (.lst acc) ∧ acc.length < sizeLine ∧ Grow K p G1 H1 D (k + 1) I' (upd H4 D (.lst (acc ++ [y]))) else Grow K p G1 H1 D (k + 1) I' H3 := by
  obtain ⟨G, us, acc, x1, j1, h1, h2, h3, h4, h5⟩ := q
  refine h acc h5 H0 G H σ v j1 (e.mono x1) (dp_mono x1.gg x v dv) _ fun σ2 E2 e2 w2 wt => ⟨w2, ?_⟩
  refine wt H0 G H σ2 j1 e2 _ fun b G3 H3 x3 j3 hb => ?_
  have hD3 := x3.hh D _ hp (fun _ z => by cases z) h1
  have hG3 := x3.fr D hp (by rw [h1]; exact Option.some_ne_none _) h2
  cases b with
  | false => exact iteF ⟨G3, us, acc, x1.trans x3, j3, hD3, hG3, dpA_mono x3.gg acc us h3, by omega, hb.2 rfl⟩
  | true =>
    refine iteT (hb.1 rfl H0 G3 H3 σ2 j3 (e2.mono x3) _ fun y d G4 H4 x4 j4 dy hd => ?_)
    have hD4 := x4.hh D _ hp (fun _ z => by cases z) hD3
    have hG4 := x4.fr D hp (by rw [hD3]; exact Option.some_ne_none _) hG3
    have d4 := dpA_mono (x3.gg.trans x4.gg) acc us h3
    refine ⟨us, hD4, by rw [dpA_len d4]; omega, G4, us ++ [y], acc ++ [d], ((x1.trans x3).trans x4).chg hD, j4.madeL hG4 hp hD4, upd_same, hG4, dpA_append d4 (.cons dy .nil), ?_, hd⟩
    rw [List.length_append, List.length_singleton]
    omega
theorem grow_start {G1 H1 : Hp} {D : Addr} {I : List PyData → Prop} (hD : H1 D = none) (j : J p G1 H1) (i : I []) : Grow K p G1 H1 D 0 I (upd H1 D (.lst [])) :=
  ⟨G1, [], [], Xt.made j hD, j.madeN hD, upd_same, j.free hD, .nil, Nat.le_refl _, i⟩
/-- [te for g in a list if tt] -/
theorem WM_lcL {g : TG} {vs : List Nat}
    (h : W K p E tl fun d => ∃ ds, d = .list ds ∧ ds.length ≤ sizeLine ∧ ∃ Inv : Nat → List PyData → Prop, Inv 0 [] ∧
      (∀ k x acc, ds[k]? = some x → Inv k acc → Turn1 K p E g tt te vs x acc (Inv (k + 1))) ∧ ∀ acc, Inv ds.length acc → Φ acc) :
    WM K p E (tLc (iList K tl) g tt te vs) Φ := by
  intro H0 G H σ j e Q q
  refine h H0 G H σ j e _ fun v d G1 H1 x1 j1 dv h1 => ?_
  obtain ⟨ds, rfl, hz, Inv, i0, is, id⟩ := h1
  obtain ⟨a, xs, rfl, hs, ha⟩ := dp_lst dv
  refine ⟨a, rfl, ⟨xs, j1.sub.seq hs⟩, fun D hD => ?_⟩
  refine lc_list (xs := xs) (fun k H' => Grow K p G1 H1 D k (Inv k) H') (grow_start hD j1 i0) ?_ ?_ ?_
  · rintro k H' _ ⟨G', us, acc, x', j', _⟩
    exact (x'.gg.trans j'.sub).seq hs
  · intro k y H' hy hg
    obtain ⟨d, hd, dy⟩ := dpA_at ha hy
    have hk : k < xs.length := (List.getElem?_eq_some_iff.mp hy).1
    exact grow_turn hD (j1.ne hD) (e.mono x1) dy (by rw [dpA_len ha] at hk; omega) hg fun acc i => is k d acc hd i
  · rintro H' ⟨G', us, acc, x', j', hD', hG', da, hl, hi⟩
    have hn : H D = none := by
      cases z : H D with
      | none => rfl
      | some o =>
        rw [(x1.some (j1.ne hD) z).choose_spec] at hD
        cases hD
    rw [dpA_len ha] at hi
    exact q D us acc G' H' (x1.trans x') j' hn hD' hG' da (id acc hi)
/-- [te for g in a tuple if tt] -/
theorem WM_lcT {g : TG} {vs : List Nat}
    (h : W K p E tl fun d => ∃ ds, d = .tuple ds ∧ ds.length ≤ sizeLine ∧ ∃ Inv : Nat → List PyData → Prop, Inv 0 [] ∧
      (∀ k x acc, ds[k]? = some x → Inv k acc → Turn1 K p E g tt te vs x acc (Inv (k + 1))) ∧ ∀ acc, Inv ds.length acc → Φ acc) :
    WM K p E (tLc (iTup K tl) g tt te vs) Φ := by
  intro H0 G H σ j e Q q
  refine h H0 G H σ j e _ fun v d G1 H1 x1 j1 dv h1 => ?_
  obtain ⟨ds, rfl, hz, Inv, i0, is, id⟩ := h1
  obtain ⟨a, xs, rfl, hs, ha⟩ := dp_tup dv
  refine ⟨a, rfl, ⟨xs, sqT_mono j1.sub hs⟩, fun D hD => ?_⟩
  refine lc_tup (xs := xs) (fun k H' => Grow K p G1 H1 D k (Inv k) H') (grow_start hD j1 i0) ?_ ?_ ?_
  · rintro k H' _ ⟨G', us, acc, x', j', _⟩
    exact sqT_mono (x'.gg.trans j'.sub) hs
  · intro k y H' hy hg
    obtain ⟨d, hd, dy⟩ := dpA_at ha hy
    have hk : k < xs.length := (List.getElem?_eq_some_iff.mp hy).1
    exact grow_turn hD (j1.ne hD) (e.mono x1) dy (by rw [dpA_len ha] at hk; omega) hg fun acc i => is k d acc hd i
  · rintro H' ⟨G', us, acc, x', j', hD', hG', da, hl, hi⟩
    have hn : H D = none := by
      cases z : H D with
      | none => rfl
      | some o =>
        rw [(x1.some (j1.ne hD) z).choose_spec] at hD
        cases hD
    rw [dpA_len ha] at hi
    exact q D us acc G' H' (x1.trans x') j' hn hD' hG' da (id acc hi)
/-- [te for g in range(n) if tt] -/
theorem WM_lcR1 {g : TG} {vs : List Nat} {tr : TA}
    (h : WA K p E tr fun ds => ∃ n : Int, ds = [.int n] ∧ n ≤ (sizeLine : Int) ∧ -(2 ^ 62) ≤ n ∧ ∃ Inv : Nat → List PyData → Prop, Inv 0 [] ∧
      (∀ (k : Nat) acc, (k : Int) < n → Inv k acc → Turn1 K p E g tt te vs (.int k) acc (Inv (k + 1))) ∧ ∀ acc, Inv n.toNat acc → Φ acc) :
    WM K p E (tLc (iRng1 tr) g tt te vs) Φ := by
  intro H0 G H σ j e Q q
  refine h H0 G H σ j e _ fun ws ds G1 H1 x1 j1 dv h1 => ?_
  obtain ⟨n, rfl, hz, hlo, Inv, i0, is, id⟩ := h1
  cases dv with
  | cons da db =>
    cases db
    cases da
    have hsz : sizeLine = 16777216 := sizeLine_eq
    refine ⟨n, rfl, hlo, by omega, fun D hD => ?_⟩
    refine lc_range (lo := 0) (n := n.toNat) (fun k H' => Grow K p G1 H1 D k (Inv k) H') (grow_start hD j1 i0) ?_ ?_
    · intro k H' hk hg
      have e0 : (0 : Int) + (k : Int) = (k : Int) := Int.zero_add _
      rw [e0]
      exact grow_turn hD (j1.ne hD) (e.mono x1) (.int (k : Int)) (by omega) hg fun acc i => is k acc (by omega) i
    · rintro H' ⟨G', us, acc, x', j', hD', hG', da, hl, hi⟩
      have hn : H D = none := by
        cases z : H D with
        | none => rfl
        | some o =>
          rw [(x1.some (j1.ne hD) z).choose_spec] at hD
          cases hD
      exact q D us acc G' H' (x1.trans x') j' hn hD' hG' da (id acc hi)
end

/-! ### a def's body against its promise -/
def ends (E : List PyData) (n : Nat) : Ev := E.map Sl.d ++ List.replicate n Sl.un
theorem env_start {K : PySem.W.Frag} {p : Option Addr} {G H : Hp} {N : List Str} {vs : List V} {ds : List PyData} (h : DpAll K G vs ds) (n : Nat) (hn : N.length = vs.length + n) :
    EnvOk K p H G H (start N vs) (ends ds n) := by
  have hl := dpA_len h
  have e1 : N.length - vs.length = n := by omega
  unfold L2.start ends
  rw [e1]
  refine ⟨by rw [List.length_append, List.length_append, List.length_map, List.length_map, List.length_replicate, List.length_replicate, hl], fun i s hs => ?_, fun a b ds' es l _ ha => ?_⟩
  · by_cases hi : i < ds.length
    · rw [List.getElem?_append_left (by rw [List.length_map]; exact hi), List.getElem?_map] at hs
      rw [List.getElem?_append_left (by rw [List.length_map, hl]; exact hi), List.getElem?_map]
      have hd : ds[i]? = some (ds[i]'hi) := List.getElem?_eq_getElem hi
      obtain ⟨v, h1, h2⟩ := dpA_get h hd
      rw [hd] at hs
      cases hs
      rw [h1]
      exact ⟨v, rfl, h2⟩
    · rw [List.getElem?_append_right (by rw [List.length_map]; omega), List.getElem?_replicate] at hs
      split at hs
      · cases hs
        trivial
      · cases hs
  · exfalso
    by_cases hi : a < ds.length
    · rw [List.getElem?_append_left (by rw [List.length_map]; exact hi), List.getElem?_map] at ha
      cases z : ds[a]? with
      | none => rw [z] at ha; cases ha
      | some d => rw [z] at ha; cases ha
    · rw [List.getElem?_append_right (by rw [List.length_map]; omega), List.getElem?_replicate] at ha
      split at ha
      · cases ha
      · cases ha
/-- the body of a def of data -/
theorem body_D {K : PySem.W.Frag} {ι : Type} {n : Nat} {args : ι → List PyData} {pre : ι → Prop} {out : ι → PyData → Prop} {t : TS} {N : List Str} {vs : List V} {H : Hp} {Q : VK} {E : XK} (m : Nat)
    (hN : N.length = n + m) (hsp : spD K n args pre out vs H Q E)
    (h : ∀ (p : Option Addr) (i : ι), pre i → (args i).length = n → S K p (ends (args i) m) t (fun _ => out i .none) (out i) Nev Nev) :
    t { nx := fun _ H' => Q .non H', rt := Q } (start N vs) H := by
  obtain ⟨hn, p, G, i, j, dv, hp, k⟩ := hsp
  refine h p i hp ((dpA_len dv).symm.trans hn) G H G H _ Xt.refl j (env_start dv m (by rw [hn]; exact hN)) _ ?_
  exact ⟨fun σ E G' H' x j' e o => k _ _ G' H' x j' .non o, fun v d G' H' x j' dv' o => k v d G' H' x j' dv' o, fun _ _ _ _ _ _ _ z => z.elim, fun _ _ _ _ _ _ _ z => z.elim⟩
/-- the body of a def whose first argument is the pail -/
theorem body_P {K : PySem.W.Frag} {ι : Type} {n : Nat} {args : ι → List PyData} {pre : ι → Prop} {out : ι → PyData → Prop} {t : TS} {N : List Str} {vs : List V} {H : Hp} {Q : VK} {E : XK} (m : Nat)
    (hN : N.length = n + m) (hsp : spP K n args pre out vs H Q E)
    (h : ∀ (a : Addr) (i : ι), pre i → (args i).length + 1 = n → S K (some a) (.v (.ref a) :: ends (args i) m) t (fun _ => out i .none) (out i) Nev Nev) :
    t { nx := fun _ H' => Q .non H', rt := Q } (start N vs) H := by
  obtain ⟨hn, a, ws, G, i, rfl, j, dv, hp, k⟩ := hsp
  rw [List.length_cons] at hn
  have e := env_start (K := K) (p := some a) (G := G) (H := H) (N := N.tail) dv m (by rw [List.length_tail]; omega)
  have e2 : start N (.ref a :: ws) = some (.ref a) :: start N.tail ws := by
    unfold L2.start
    rw [List.length_tail, List.length_cons, List.map_cons, List.cons_append]
    congr 3
    omega
  rw [e2]
  refine h a i hp (by rw [← dpA_len dv]; exact hn) G H G H _ Xt.refl j ⟨by rw [List.length_cons, List.length_cons, e.len], fun x s hs => ?_, fun x y ds es l hxy hx hy hl => ?_⟩ _ ?_
  · cases x with
    | zero =>
      cases hs
      exact rfl
    | succ x => exact e.at_ x s hs
  · cases x with
    | zero => cases hx
    | succ x =>
      cases y with
      | zero => cases hy
      | succ y => exact e.ap x y ds es l (fun z => hxy (by rw [z])) hx hy hl
  · exact ⟨fun σ E G' H' x j' e o => k _ _ G' H' x j' .non o, fun v d G' H' x j' dv' o => k v d G' H' x j' dv' o, fun _ _ _ _ _ _ _ z => z.elim, fun _ _ _ _ _ _ _ z => z.elim⟩
end Rim

/-! RimB: built-ins and operators over data. -/
namespace Rim
open PySem PySem.Spec L2
variable [Tabs]

/-! ### readings by name -/
def CDivX (_ j : Int) : Prop := j ≠ 0 ∧ j.natAbs.log2 < 9000
abbrev rAdd : R2 := rI0 fun i j => .int (i + j)
abbrev rSub : R2 := rI0 fun i j => .int (i - j)
abbrev rMul : R2 := rI CMulX fun i j => .int (i * j)
abbrev rDiv : R2 := rI CDivX fun i j => .int (i.fdiv j)
abbrev rMod : R2 := rI (fun _ j => 0 < j) fun i j => .int (i % j)
abbrev rPow : R2 := rI CPow fun i j => .int (i ^ j.toNat)
abbrev rLt : R2 := rI0 fun i j => .bl (decide (i < j))
abbrev rLe : R2 := rI0 fun i j => .bl (decide (i ≤ j))
abbrev rGt : R2 := rI0 fun i j => .bl (decide (j < i))
abbrev rGe : R2 := rI0 fun i j => .bl (decide (j ≤ i))
section
variable {X : Cx}
theorem op_fdivX : OpR X (binaryOp .FloorDiv) rDiv := opI fun _ _ _ _ _ _ _ hc q => PyProof.Rows.floordiv_int hc.1 q (Or.inl (PyProof.noPylong_of_log2 hc.2))
def rRepr (K : PySem.W.Frag) : List V → Hp → VK → Prop := fun xs H Q => ∃ (x : V) (d : PyData), xs = [x] ∧ Dp K H x d ∧
  PyData.showable d = true ∧ PyData.hasDict d = false ∧ PyData.depth d ≤ 60 ∧ (PyData.shown d).length ≤ sizeLine ∧ Q (.str (PyData.shown d)) H
theorem cr_repr (hg : X.A.guards = some []) (hu : X.A.units + 64 < cLine) : CallR X (.builtin "repr") (rRepr X.K) := by
  intro pins s σ H xs us Q I r h
  obtain ⟨x, d, rfl, hd, h1, h2, h3, h4, q⟩ := h
  cases r with
  | @cons a b c e r0 r1 =>
    cases r1
    obtain ⟨as, rd⟩ := Dp.reads I d x b hd r0
    have fin : ∀ h' tk, (∀ b o, s.heap.get? b = some o → h'.get? b = some o) →
        EP X pins σ Q (.str (PyData.shown d) tk) { s with heap := h', toks := tk + 1 } := fun h' tk k => ⟨.str _, H, I.kept (t' := tk + 1) k, ⟨_, rfl⟩, q⟩
    cases d with
    | none =>
      cases hd
      cases r0
      exact PySem.P.repr_of_none ⟨.str _, H, I.tok _, ⟨_, rfl⟩, q⟩
    | bool k =>
      cases hd
      cases r0
      refine PySem.P.repr_of_bool ⟨.str _, H, I.tok _, ⟨_, rfl⟩, ?_⟩
      cases k <;> exact q
    | int i =>
      cases hd
      obtain ⟨t, rfl⟩ := r0
      exact PySem.P.repr_of_int (of_decide_eq_true (by simpa only [PyData.showable] using h1)) ⟨.str _, H, I.tok _, ⟨_, rfl⟩, q⟩
    | str y =>
      cases hd
      obtain ⟨t, rfl⟩ := r0
      exact PySem.P.repr_of_str ⟨.str _, H, I.tok _, ⟨_, rfl⟩, q⟩ h4
    | list ds =>
      cases hd
      cases r0
      exact repr_of_reads' rd h1 (PyData.noDict_hsm h2) hg (by omega) (fun _ _ e => e) (fun h' u tk k => ⟨.str _, H, I.kept k, ⟨_, rfl⟩, q⟩) h4
    | tuple ds =>
      cases hd
      cases r0
      exact repr_of_reads' rd h1 (PyData.noDict_hsm h2) hg (by omega) (fun _ _ e => e) (fun h' u tk k => ⟨.str _, H, I.kept k, ⟨_, rfl⟩, q⟩) h4
    | dict kvs => cases hd
def rLenS (K : PySem.W.Frag) : List V → Hp → VK → Prop := fun xs H Q => ∃ p ys, xs = [.ref p] ∧ (SqL K H p ys ∨ SqT K H p ys) ∧ Q (.int ys.length) H
theorem cr_len : CallR X (.builtin "len") (rLenS X.K) := call_len_seq
def rAbs : List V → Hp → VK → Prop := fun xs H Q => ∃ i, xs = [.int i] ∧ Q (.int (if i < 0 then -i else i)) H
theorem cr_abs : CallR X (.builtin "abs") rAbs := call_abs
def rInt1 : List V → Hp → VK → Prop := fun xs H Q => (∃ i, xs = [.int i] ∧ Q (.int i) H) ∨ ∃ k, xs = [.bl k] ∧ Q (.int (if k then 1 else 0)) H
theorem cr_int : CallR X (.type "int") rInt1 := call_int1
def rStrI : List V → Hp → VK → Prop := fun xs H Q => ∃ i, xs = [.int i] ∧ i.natAbs.log2 < 1920 ∧ Q (.str (toString i)) H
theorem cr_strI : CallR X (.type "str") rStrI := call_str_int
def rDivmod : List V → Hp → VK → Prop := fun xs H Q => ∃ i j, xs = [.int i, .int j] ∧ CDiv i j ∧ ∀ p, H p = none → Q (.ref p) (upd H p (.tup [.int (i / j), .int (i % j)]))
theorem cr_divmod : CallR X (.builtin "divmod") rDivmod := call_divmod
def rMax2 : List V → Hp → VK → Prop := fun xs H Q => ∃ i j, xs = [.int i, .int j] ∧ Q (.int (if j > i then j else i)) H
theorem cr_max2 (hc : X.calm = true) : CallR X (.builtin "max") rMax2 := call_max2 hc
def rMin2 : List V → Hp → VK → Prop := fun xs H Q => ∃ i j, xs = [.int i, .int j] ∧ Q (.int (if j < i then j else i)) H
theorem cr_min2 (hc : X.calm = true) : CallR X (.builtin "min") rMin2 := call_min2 hc
def rTupOf (K : PySem.W.Frag) : List V → Hp → VK → Prop := fun xs H Q => ∃ p ys, xs = [.ref p] ∧ ((SqL K H p ys ∧ ∀ l, H l = none → Q (.ref l) (upd H l (.tup ys))) ∨ (SqT K H p ys ∧ Q (.ref p) H))
theorem cr_tupOf : CallR X (.type "tuple") (rTupOf X.K) := call_tuple_of
def rLstOf (K : PySem.W.Frag) : List V → Hp → VK → Prop := fun xs H Q => ∃ p ys, xs = [.ref p] ∧ (SqL K H p ys ∨ SqT K H p ys) ∧ ∀ l, H l = none → Q (.ref l) (upd H l (.lst ys))
theorem cr_lstOf : CallR X (.type "list") (rLstOf X.K) := call_list_of
end

/-! ### what may be shown -/
mutual
def Shw : PyData → Prop
  | .none => True
  | .bool _ => True
  | .int i => i.natAbs < 2 ^ 1900
  | .str x => ∀ c ∈ x.cps.toList, c < 16 ^ 8
  | .list xs => ShwAll xs
  | .tuple xs => ShwAll xs
  | .dict _ => False
def ShwAll : List PyData → Prop
  | [] => True
  | x :: xs => Shw x ∧ ShwAll xs
end
mutual
def cnt : PyData → Nat
  | .none => 1
  | .bool _ => 1
  | .int _ => 1
  | .str x => x.length + 1
  | .list xs => 1 + cntAll xs
  | .tuple xs => 1 + cntAll xs
  | .dict _ => 0
def cntAll : List PyData → Nat
  | [] => 0
  | x :: xs => cnt x + cntAll xs
end
theorem log_of {i : Int} (h : i.natAbs < 2 ^ 1900) : i.natAbs.log2 < 1920 := Nat.lt_of_lt_of_le (PySem.Flt.log2_lt_of (by decide) h) (by decide)
mutual
theorem shw_ok : ∀ d : PyData, Shw d → PyData.showable d = true ∧ PyData.hasDict d = false ∧ (PyData.shown d).length + 2 ≤ 2000 * cnt d
  | .none, _ => ⟨by simp only [PyData.showable], by simp only [PyData.hasDict], by simp only [PyData.shown, cnt]; decide⟩
  | .bool b, _ => ⟨by simp only [PyData.showable], by simp only [PyData.hasDict], by simp only [PyData.shown, cnt]; cases b <;> decide⟩
  | .int i, h => by
    have h1 : i.natAbs < 2 ^ 1900 := by simpa only [Shw] using h
    refine ⟨by simp only [PyData.showable]; exact decide_eq_true (log_of h1), by simp only [PyData.hasDict], ?_⟩
    have h2 := int_text_length_le (k := 1920) (by decide) (log_of h1)
    simp only [PyData.shown, cnt, ofString_length]
    omega
  | .str x, h => by
    have h1 : ∀ c ∈ x.cps.toList, c < 16 ^ 8 := by simpa only [Shw] using h
    refine ⟨by simp only [PyData.showable], by simp only [PyData.hasDict], ?_⟩
    have h2 := StrLaws.reprText_len x h1
    simp only [PyData.shown, cnt]
    omega
  | .list xs, h => by
    obtain ⟨h1, h2, h3⟩ := shwAll_ok xs (by simpa only [Shw] using h)
    refine ⟨by simpa only [PyData.showable] using h1, by simpa only [PyData.hasDict] using h2, ?_⟩
    have h4 := listText_len_le (PyData.shownAll xs)
    have h5 := shownAll_len xs
    simp only [PyData.shown, cnt]
    omega
  | .tuple xs, h => by
    obtain ⟨h1, h2, h3⟩ := shwAll_ok xs (by simpa only [Shw] using h)
    refine ⟨by simpa only [PyData.showable] using h1, by simpa only [PyData.hasDict] using h2, ?_⟩
    have h4 := tupleText_len_le (PyData.shownAll xs)
    have h5 := shownAll_len xs
    simp only [PyData.shown, cnt]
    omega
  | .dict _, h => by simp only [Shw] at h
theorem shownAll_len : ∀ xs : List PyData, (PyData.shownAll xs).length = xs.length
  | [] => by simp only [PyData.shownAll, List.length_nil]
  | x :: xs => by simp only [PyData.shownAll, List.length_cons, shownAll_len xs]
theorem shwAll_ok : ∀ xs : List PyData, ShwAll xs → PyData.showableAll xs = true ∧ PyData.hasDictAll xs = false ∧ ((PyData.shownAll xs).map (·.length)).sum + 2 * xs.length ≤ 2000 * cntAll xs
  | [], _ => ⟨by simp only [PyData.showableAll], by simp only [PyData.hasDictAll], by simp only [PyData.shownAll, cntAll, List.map_nil, List.sum_nil, List.length_nil]; decide⟩
  | x :: xs, h => by
    have h0 : Shw x ∧ ShwAll xs := by simpa only [ShwAll] using h
    obtain ⟨a1, a2, a3⟩ := shw_ok x h0.1
    obtain ⟨b1, b2, b3⟩ := shwAll_ok xs h0.2
    refine ⟨by simp only [PyData.showableAll, a1, b1]; rfl, by simp only [PyData.hasDictAll, a2, b2]; rfl, ?_⟩
    simp only [PyData.shownAll, cntAll, List.map_cons, List.sum_cons, List.length_cons]
    omega
end

/-! ### rules -/
section
variable {K : PySem.W.Frag} {p : Option Addr} {E : Ev} {ta tb te : TE} {Φ : PyData → Prop} {Ψ : List PyData → Prop}
theorem WC_repr {d : PyData} (h : Shw d) (hc : cnt d ≤ 8000) (hd : PyData.depth d ≤ 60) (k : Φ (.str (PyData.shown d))) : WC K p (rRepr K) [d] Φ := by
  intro G H vs j dv Q q
  cases dv with
  | @cons v _ _ _ a b =>
    cases b
    obtain ⟨h1, h2, h3⟩ := shw_ok d h
    refine ⟨v, d, rfl, dp_mono j.sub d v a, h1, h2, hd, ?_, q _ _ G H Xt.refl j (.str _) k⟩
    rw [sizeLine_eq]
    omega
theorem WC_lenT {ds : List PyData} (k : Φ (.int ds.length)) : WC K p (rLenS K) [.tuple ds] Φ := by
  intro G H vs j dv Q q
  cases dv with
  | cons a b =>
    cases b
    obtain ⟨l, xs, rfl, hs, ha⟩ := dp_tup a
    refine ⟨l, xs, rfl, Or.inr (sqT_mono j.sub hs), q _ (.int ds.length) G H Xt.refl j ?_ k⟩
    rw [dpA_len ha]
    exact .int _
theorem WC_lenL {ds : List PyData} (k : Φ (.int ds.length)) : WC K p (rLenS K) [.list ds] Φ := by
  intro G H vs j dv Q q
  cases dv with
  | cons a b =>
    cases b
    obtain ⟨l, xs, rfl, hs, ha⟩ := dp_lst a
    refine ⟨l, xs, rfl, Or.inl (j.sub.seq hs), q _ (.int ds.length) G H Xt.refl j ?_ k⟩
    rw [dpA_len ha]
    exact .int _
/-- len of a list of one's own -/
theorem W_lenM {i : Nat} {ds : List PyData} (hs : E[i]? = some (.m ds)) (k : Φ (.int ds.length)) : W K p E (tCB (rLenS K) (tCons (tVar i) tNil)) Φ := by
  intro H0 G H σ j e Q q
  obtain ⟨l, vs, h1, h2, h3, _⟩ := e.own hs
  refine ⟨_, h1, l, vs, rfl, Or.inl (SqL.of h2), q _ (.int ds.length) G H Xt.refl j ?_ k⟩
  rw [dpA_len h3]
  exact .int _
theorem WC_abs {i : Int} (k : Φ (.int (if i < 0 then -i else i))) : WC K p rAbs [.int i] Φ := by
  intro G H vs j dv Q q
  cases dv with
  | cons a b =>
    cases b
    rw [dp_int a]
    exact ⟨i, rfl, q _ _ G H Xt.refl j (.int _) k⟩
theorem WC_int {i : Int} (k : Φ (.int i)) : WC K p rInt1 [.int i] Φ := by
  intro G H vs j dv Q q
  cases dv with
  | cons a b =>
    cases b
    rw [dp_int a]
    exact Or.inl ⟨i, rfl, q _ _ G H Xt.refl j (.int _) k⟩
theorem WC_gcd {a b : Int} (k : Φ (.int ((Nat.gcd a.natAbs b.natAbs : Nat) : Int))) : WC K p rGcd [.int a, .int b] Φ := by
  intro G H vs j dv Q q
  cases dv with
  | cons x y =>
    cases y with
    | cons y z =>
      cases z
      rw [dp_int x, dp_int y]
      exact ⟨a, b, rfl, q _ _ G H Xt.refl j (.int _) k⟩
theorem WC_max2 {a b : Int} (k : Φ (.int (if b > a then b else a))) : WC K p rMax2 [.int a, .int b] Φ := by
  intro G H vs j dv Q q
  cases dv with
  | cons x y =>
    cases y with
    | cons y z =>
      cases z
      rw [dp_int x, dp_int y]
      exact ⟨a, b, rfl, q _ _ G H Xt.refl j (.int _) k⟩
theorem WC_min2 {a b : Int} (k : Φ (.int (if b < a then b else a))) : WC K p rMin2 [.int a, .int b] Φ := by
  intro G H vs j dv Q q
  cases dv with
  | cons x y =>
    cases y with
    | cons y z =>
      cases z
      rw [dp_int x, dp_int y]
      exact ⟨a, b, rfl, q _ _ G H Xt.refl j (.int _) k⟩
theorem WC_divmod {a b : Int} (h : 0 < b ∧ b < 1073741824) (k : Φ (.tuple [.int (a / b), .int (a % b)])) : WC K p rDivmod [.int a, .int b] Φ := by
  intro G H vs j dv Q q
  cases dv with
  | cons x y =>
    cases y with
    | cons y z =>
      cases z
      rw [dp_int x, dp_int y]
      refine ⟨a, b, rfl, h, fun l hl => ?_⟩
      exact q _ _ _ _ (Xt.laid j hl) (j.laid hl) (.tup (SqT.of upd_same) (.cons (.int _) (.cons (.int _) .nil))) k
theorem WC_tupL {ds : List PyData} (k : Φ (.tuple ds)) : WC K p (rTupOf K) [.list ds] Φ := by
  intro G H vs j dv Q q
  cases dv with
  | cons a b =>
    cases b
    obtain ⟨l, xs, rfl, hs, ha⟩ := dp_lst a
    refine ⟨l, xs, rfl, Or.inl ⟨j.sub.seq hs, fun m hm => ?_⟩⟩
    have x2 := Xt.laid (p := p) j (o := .tup xs) hm
    exact q _ _ _ _ x2 (j.laid hm) (.tup (SqT.of upd_same) (dpA_mono x2.gg ds xs ha)) k
theorem WC_tupT {ds : List PyData} (k : Φ (.tuple ds)) : WC K p (rTupOf K) [.tuple ds] Φ := by
  intro G H vs j dv Q q
  cases dv with
  | cons a b =>
    cases b
    obtain ⟨l, xs, rfl, hs, ha⟩ := dp_tup a
    exact ⟨l, xs, rfl, Or.inr ⟨sqT_mono j.sub hs, q _ _ G H Xt.refl j (.tup hs ha) k⟩⟩
/-- tuple(xs), xs a list of one's own -/
theorem W_tupM {i : Nat} {ds : List PyData} (hs : E[i]? = some (.m ds)) (k : Φ (.tuple ds)) : W K p E (tCB (rTupOf K) (tCons (tVar i) tNil)) Φ := by
  intro H0 G H σ j e Q q
  obtain ⟨l, vs, h1, h2, h3, _⟩ := e.own hs
  refine ⟨_, h1, l, vs, rfl, Or.inl ⟨SqL.of h2, fun m hm => ?_⟩⟩
  have x2 := Xt.laid (p := p) j (o := .tup vs) hm
  exact q _ _ _ _ x2 (j.laid hm) (.tup (SqT.of upd_same) (dpA_mono x2.gg ds vs h3)) k
/-- list(t) -/
theorem WM_lstOf {tr : TA} (h : WA K p E tr fun xs => ∃ ds, (xs = [.tuple ds] ∨ xs = [.list ds]) ∧ Ψ ds) : WM K p E (tCB (rLstOf K) tr) Ψ := by
  intro H0 G H σ j e Q q
  refine h H0 G H σ j e _ fun vs xs G1 H1 x1 j1 dv h1 => ?_
  obtain ⟨ds, hx, hk⟩ := h1
  have fin : ∀ (l : Addr) (us : List V), DpAll K G1 us ds → H1 l = none → Q (.ref l) (upd H1 l (.lst us)) := fun l us da hl => by
    have hn : H l = none := by
      cases z : H l with
      | none => rfl
      | some o =>
        rw [(x1.some (j1.ne hl) z).choose_spec] at hl
        cases hl
    exact q l us ds G1 _ (x1.trans (Xt.made j1 hl)) (j1.madeN hl) hn upd_same (j1.free hl) da hk
  rcases hx with rfl | rfl
  · cases dv with
    | cons a b =>
      cases b
      obtain ⟨m, us, rfl, hs, ha⟩ := dp_tup a
      exact ⟨m, us, rfl, Or.inr (sqT_mono j1.sub hs), fun l hl => fin l us ha hl⟩
  · cases dv with
    | cons a b =>
      cases b
      obtain ⟨m, us, rfl, hs, ha⟩ := dp_lst a
      exact ⟨m, us, rfl, Or.inl (j1.sub.seq hs), fun l hl => fin l us ha hl⟩
theorem WC_all {bs : List Bool} (k : Φ (.bool (bs.all id))) : WC K p (rAll K) [.list (bs.map PyData.bool)] Φ := by
  intro G H vs j dv Q q
  cases dv with
  | cons a b =>
    cases b
    obtain ⟨l, xs, rfl, hs, ha⟩ := dp_lst a
    have e : ∀ (us : List V) (cs : List Bool), DpAll K G us (cs.map PyData.bool) → us = cs.map V.bl := by
      intro us cs
      induction cs generalizing us with
      | nil => intro h; cases h; rfl
      | cons c cs ih =>
        intro h
        cases h with
        | cons h1 h2 => rw [dp_bl h1, ih _ h2]; rfl
    refine ⟨l, bs, rfl, ?_, q _ _ G H Xt.refl j (.bl _) k⟩
    rw [← e xs bs ha]
    exact j.sub.seq hs
/-- t[a:b] of a tuple -/
theorem cut_ds {G : Hp} {vs : List V} {ds : List PyData} (lo hi : Option Int) (h : DpAll K G vs ds) :
    DpAll K G (cutV vs lo hi) ((ds.drop (HT.sIx ds.length 0 lo)).take (HT.sIx ds.length ds.length hi - HT.sIx ds.length 0 lo)) := by
  unfold cutV
  rw [dpA_len h]
  exact dpA_take _ (dpA_drop _ h)

/-! ### isinstance -/
def tyD : PyData → String
  | .none => "NoneType"
  | .bool _ => "bool"
  | .int _ => "int"
  | .str _ => "str"
  | .list _ => "list"
  | .tuple _ => "tuple"
  | .dict _ => "dict"
theorem ty_of {G H : Hp} {v : V} {d : PyData} (s : Same G H) (h : Dp K G v d) : TyX K H v (.type (tyD d)) := by
  cases h with
  | non => exact .base .non
  | bl b => exact .base (.bl b)
  | int i => exact .base (.int i)
  | str x => exact .base (.str x)
  | lst hs ha =>
    rcases s.seq hs with (h | ⟨o, h⟩) | ⟨o, its, n, h1, h2, _⟩
    · exact .base (.lst h)
    · exact .base (.frz h)
    · exact .kList h1 h2
  | tup hs ha =>
    rcases sqT_mono s hs with (h | ⟨o, h⟩) | ⟨o, its, n, h1, h2, _⟩
    · exact .base (.tup h)
    · exact .fTuple h
    · exact .kTuple h1 h2
theorem W_isi {T : String} (h : W K p E ta fun d => ∃ b, kitB (tyD d) T = some b ∧ Φ (.bool b)) : W K p E (tCB (rIsi K) (tCons ta (tCons (tC (.ty T)) tNil))) Φ := by
  intro H0 G H σ j e Q q
  refine h H0 G H σ j e _ fun v d G1 H1 x1 j1 dv h1 => ?_
  obtain ⟨b, hb, hk⟩ := h1
  exact ⟨v, .ty T, _, _, b, rfl, .ty T, ty_of j1.sub dv, kit_ty hb, q _ _ G1 H1 x1 j1 (.bl b) hk⟩
def is_int : PyData → Bool
  | .bool _ => true
  | .int _ => true
  | _ => false
theorem kit_int : ∀ d : PyData, kitB (tyD d) "int" = some (is_int d)
  | .none  => (by decide +kernel : kitB "NoneType" "int" = some false)
  | .bool _ => (by decide +kernel : kitB "bool" "int" = some true)
  | .int _ => (by decide +kernel : kitB "int" "int" = some true)
  | .str _ => (by decide +kernel : kitB "str" "int" = some false)
  | .list _ => (by decide +kernel : kitB "list" "int" = some false)
  | .tuple _ => (by decide +kernel : kitB "tuple" "int" = some false)
  | .dict _ => (by decide +kernel : kitB "dict" "int" = some false)
def is_bool : PyData → Bool
  | .bool _ => true
  | _ => false
theorem kit_bool : ∀ d : PyData, kitB (tyD d) "bool" = some (is_bool d)
  | .none  => (by decide +kernel : kitB "NoneType" "bool" = some false)
  | .bool _ => (by decide +kernel : kitB "bool" "bool" = some true)
  | .int _ => (by decide +kernel : kitB "int" "bool" = some false)
  | .str _ => (by decide +kernel : kitB "str" "bool" = some false)
  | .list _ => (by decide +kernel : kitB "list" "bool" = some false)
  | .tuple _ => (by decide +kernel : kitB "tuple" "bool" = some false)
  | .dict _ => (by decide +kernel : kitB "dict" "bool" = some false)
def is_tuple : PyData → Bool
  | .tuple _ => true
  | _ => false
theorem kit_tuple : ∀ d : PyData, kitB (tyD d) "tuple" = some (is_tuple d)
  | .none  => (by decide +kernel : kitB "NoneType" "tuple" = some false)
  | .bool _ => (by decide +kernel : kitB "bool" "tuple" = some false)
  | .int _ => (by decide +kernel : kitB "int" "tuple" = some false)
  | .str _ => (by decide +kernel : kitB "str" "tuple" = some false)
  | .list _ => (by decide +kernel : kitB "list" "tuple" = some false)
  | .tuple _ => (by decide +kernel : kitB "tuple" "tuple" = some true)
  | .dict _ => (by decide +kernel : kitB "dict" "tuple" = some false)
def is_list : PyData → Bool
  | .list _ => true
  | _ => false
theorem kit_list : ∀ d : PyData, kitB (tyD d) "list" = some (is_list d)
  | .none  => (by decide +kernel : kitB "NoneType" "list" = some false)
  | .bool _ => (by decide +kernel : kitB "bool" "list" = some false)
  | .int _ => (by decide +kernel : kitB "int" "list" = some false)
  | .str _ => (by decide +kernel : kitB "str" "list" = some false)
  | .list _ => (by decide +kernel : kitB "list" "list" = some true)
  | .tuple _ => (by decide +kernel : kitB "tuple" "list" = some false)
  | .dict _ => (by decide +kernel : kitB "dict" "list" = some false)
def is_str : PyData → Bool
  | .str _ => true
  | _ => false
theorem kit_str : ∀ d : PyData, kitB (tyD d) "str" = some (is_str d)
  | .none  => (by decide +kernel : kitB "NoneType" "str" = some false)
  | .bool _ => (by decide +kernel : kitB "bool" "str" = some false)
  | .int _ => (by decide +kernel : kitB "int" "str" = some false)
  | .str _ => (by decide +kernel : kitB "str" "str" = some true)
  | .list _ => (by decide +kernel : kitB "list" "str" = some false)
  | .tuple _ => (by decide +kernel : kitB "tuple" "str" = some false)
  | .dict _ => (by decide +kernel : kitB "dict" "str" = some false)
end
end Rim

/-! RimM: fractions as data, their sizes. -/
namespace Rim
open PySem PySem.Spec L2
variable [Tabs]

/-! ### sizes -/
def Bd (n : Nat) (i : Int) : Prop := i.natAbs < 2 ^ n
theorem Bd.mono {n m : Nat} {i : Int} (h : Bd n i) (k : n ≤ m) : Bd m i := Nat.lt_of_lt_of_le h (Nat.pow_le_pow_right (by decide) k)
theorem Bd.mul {n m : Nat} {i j : Int} (h : Bd n i) (k : Bd m j) : Bd (n + m) (i * j) := by
  unfold Bd
  rw [Int.natAbs_mul, Nat.pow_add]
  exact Nat.mul_lt_mul'' h k
theorem Bd.add {n m : Nat} {i j : Int} (h : Bd n i) (k : Bd m j) : Bd (max n m + 1) (i + j) := by
  have h1 := h.mono (Nat.le_max_left n m)
  have k1 := k.mono (Nat.le_max_right n m)
  unfold Bd at *
  rw [Nat.pow_succ]
  omega
theorem Bd.neg {n : Nat} {i : Int} (h : Bd n i) : Bd n (-i) := by
  unfold Bd at *
  rw [Int.natAbs_neg]
  exact h
theorem Bd.sub {n m : Nat} {i j : Int} (h : Bd n i) (k : Bd m j) : Bd (max n m + 1) (i - j) := by
  rw [Int.sub_eq_add_neg]
  exact h.add k.neg
theorem Bd.lit {n : Nat} {i : Int} (h : i.natAbs < 2 ^ n) : Bd n i := h
theorem Bd.le {n : Nat} {i j : Int} (h : i.natAbs ≤ j.natAbs) (k : Bd n j) : Bd n i := Nat.lt_of_le_of_lt h k
theorem mul_ok {n m : Nat} {i j : Int} (h : Bd n i) (k : Bd m j) (z : n + m ≤ 134217728) : CMulX i j := mulx_ok h k z
theorem div_ok {n : Nat} {i j : Int} (h : Bd n j) (h0 : j ≠ 0) (z : n ≤ 8000) : CDivX i j := by
  refine ⟨h0, Nat.lt_of_le_of_lt ?_ (show 8000 < 9000 by decide)⟩
  have h1 : j.natAbs < 2 ^ 8000 := h.mono z
  have h2 : j.natAbs ≠ 0 := by omega
  exact Nat.le_of_lt ((Nat.log2_lt h2).mpr h1)

/-! ### results by name -/
section
variable {K : PySem.W.Frag} {p : Option Addr} {Φ : PyData → Prop} {i k : Int}
theorem WR_add (q : Φ (.int (i + k))) : WR K p rAdd (.int i) (.int k) Φ := WR_I0 rfl q
theorem WR_sub (q : Φ (.int (i - k))) : WR K p rSub (.int i) (.int k) Φ := WR_I0 rfl q
theorem WR_mul (c : CMulX i k) (q : Φ (.int (i * k))) : WR K p rMul (.int i) (.int k) Φ := WR_I c rfl q
theorem WR_div (c : CDivX i k) (q : Φ (.int (i.fdiv k))) : WR K p rDiv (.int i) (.int k) Φ := WR_I c rfl q
theorem WR_mod (c : 0 < k) (q : Φ (.int (i % k))) : WR K p rMod (.int i) (.int k) Φ := WR_I c rfl q
theorem WR_pow (c : CPow i k) (q : Φ (.int (i ^ k.toNat))) : WR K p rPow (.int i) (.int k) Φ := WR_I c rfl q
theorem WR_lt (q : Φ (.bool (decide (i < k)))) : WR K p rLt (.int i) (.int k) Φ := WR_I0 rfl q
theorem WR_le (q : Φ (.bool (decide (i ≤ k)))) : WR K p rLe (.int i) (.int k) Φ := WR_I0 rfl q
theorem WR_gt (q : Φ (.bool (decide (k < i)))) : WR K p rGt (.int i) (.int k) Φ := WR_I0 rfl q
theorem WR_ge (q : Φ (.bool (decide (k ≤ i)))) : WR K p rGe (.int i) (.int k) Φ := WR_I0 rfl q
theorem S_never {E : Ev} {N B C : Ev → Prop} {R : PyData → Prop} (h : False) : S K p E tNever N R B C := h.elim
end

/-! ### fractions -/
@[reducible] def fr (q : Rat) : PyData := .tuple [.int q.num, .int q.den]
def Rs (n : Nat) (q : Rat) : Prop := Bd n q.num ∧ Bd n (q.den : Int)
theorem Rs.num {n : Nat} {q : Rat} (h : Rs n q) : Bd n q.num := h.1
theorem Rs.den {n : Nat} {q : Rat} (h : Rs n q) : Bd n (q.den : Int) := h.2
theorem Rs.mono {n m : Nat} {q : Rat} (h : Rs n q) (k : n ≤ m) : Rs m q := ⟨h.1.mono k, h.2.mono k⟩
theorem den_ne (q : Rat) : (q.den : Int) ≠ 0 := by have := q.den_nz; omega
theorem den_pos (q : Rat) : 0 < (q.den : Int) := by have := q.den_nz; omega

/-- n over m -/
abbrev qd (n m : Int) : Rat := Rat.divInt n m
theorem qd_div (n m : Int) : qd n m = (n : Rat) / (m : Rat) := Rat.divInt_eq_div n m
theorem q_self (q : Rat) : qd q.num (q.den : Int) = q := Rat.num_divInt_den q
theorem q_over (q : Rat) : q = (q.num : Rat) / ((q.den : Int) : Rat) := by
  rw [← qd_div, q_self]
theorem c_ne {m : Int} (h : m ≠ 0) : (m : Rat) ≠ 0 := fun z => h (Rat.intCast_eq_zero_iff.mp z)
theorem d_ne (q : Rat) : ((q.den : Int) : Rat) ≠ 0 := c_ne (den_ne q)
theorem sgn_gcd (a b : Int) : ((b.gcd a : Nat) : Int) ∣ b.sign * a := by
  have h : ((b.gcd a : Nat) : Int) ∣ a := Int.gcd_dvd_right ..
  exact Int.dvd_trans h (Int.dvd_mul_left _ _)
theorem rs_of {n : Nat} {a b : Int} (ha : Bd n a) (hb : Bd n b) (h0 : b ≠ 0) : Rs n (qd a b) := by
  constructor
  · show (qd a b).num.natAbs < 2 ^ n
    rw [Rat.num_divInt, Int.natAbs_ediv_of_dvd (sgn_gcd a b), Int.natAbs_mul]
    refine Nat.lt_of_le_of_lt (Nat.div_le_self _ _) ?_
    rw [Int.natAbs_sign_of_ne_zero h0, Nat.one_mul]
    exact ha
  · show ((qd a b).den : Int).natAbs < 2 ^ n
    rw [Rat.den_divInt, if_neg h0, Int.natAbs_natCast]
    exact Nat.lt_of_le_of_lt (Nat.div_le_self _ _) hb
theorem q_add (x y : Rat) : qd (x.num * y.den + y.num * x.den) (x.den * y.den) = x + y := by
  conv => rhs; rw [← q_self x, ← q_self y]
  exact (Rat.divInt_add_divInt _ _ (den_ne x) (den_ne y)).symm
theorem q_sub (x y : Rat) : qd (x.num * y.den - y.num * x.den) (x.den * y.den) = x - y := by
  conv => rhs; rw [← q_self x, ← q_self y]
  exact (Rat.divInt_sub_divInt _ _ (den_ne x) (den_ne y)).symm
theorem q_mul (x y : Rat) : qd (x.num * y.num) (x.den * y.den) = x * y := by
  conv => rhs; rw [← q_self x, ← q_self y]
  exact (Rat.divInt_mul_divInt _ _).symm
theorem q_div (x y : Rat) (h : y ≠ 0) : qd (x.num * y.den) (x.den * y.num) = x / y := by
  have h1 := d_ne x
  have h2 := d_ne y
  have h3 : (y.num : Rat) ≠ 0 := c_ne fun z => h (Rat.num_eq_zero.mp z)
  rw [qd_div]
  conv => rhs; rw [q_over x, q_over y]
  rw [Rat.intCast_mul, Rat.intCast_mul]
  generalize ((x.den : Int) : Rat) = a at *
  generalize ((y.den : Int) : Rat) = b at *
  generalize (x.num : Rat) = c at *
  generalize (y.num : Rat) = d at *
  grind
theorem Rs.add {n m : Nat} {x y : Rat} (hx : Rs n x) (hy : Rs m y) : Rs (n + m + 1) (x + y) := by
  rw [← q_add]
  refine rs_of (((hx.1.mul hy.2).add (hy.1.mul hx.2)).mono ?_) ((hx.2.mul hy.2).mono ?_) ?_
  · omega
  · omega
  · exact Int.mul_ne_zero (den_ne x) (den_ne y)
theorem Rs.sub {n m : Nat} {x y : Rat} (hx : Rs n x) (hy : Rs m y) : Rs (n + m + 1) (x - y) := by
  rw [← q_sub]
  refine rs_of (((hx.1.mul hy.2).sub (hy.1.mul hx.2)).mono ?_) ((hx.2.mul hy.2).mono ?_) ?_
  · omega
  · omega
  · exact Int.mul_ne_zero (den_ne x) (den_ne y)
theorem Rs.mul {n m : Nat} {x y : Rat} (hx : Rs n x) (hy : Rs m y) : Rs (n + m) (x * y) := by
  rw [← q_mul]
  exact rs_of (hx.1.mul hy.1) (hx.2.mul hy.2) (Int.mul_ne_zero (den_ne x) (den_ne y))
theorem Rs.div {n m : Nat} {x y : Rat} (hx : Rs n x) (hy : Rs m y) (h : y ≠ 0) : Rs (n + m) (x / y) := by
  rw [← q_div x y h]
  exact rs_of (hx.1.mul hy.2) (hx.2.mul hy.1) (Int.mul_ne_zero (den_ne x) fun z => h (Rat.num_eq_zero.mp z))
theorem Rs.neg {n : Nat} {x : Rat} (hx : Rs n x) : Rs n (-x) := by
  constructor
  · exact (show (-x).num = -x.num from rfl) ▸ hx.1.neg
  · exact hx.2
/-- what reduced reckons -/
theorem red_pos (n m : Int) (h : 0 < m) : n.fdiv ((Nat.gcd n.natAbs m.natAbs : Nat) : Int) = (qd n m).num ∧ m.fdiv ((Nat.gcd n.natAbs m.natAbs : Nat) : Int) = ((qd n m).den : Int) := by
  have e : Nat.gcd n.natAbs m.natAbs = m.gcd n := by rw [Nat.gcd_comm]; rfl
  have hg : (0 : Int) ≤ ((m.gcd n : Nat) : Int) := Int.natCast_nonneg _
  rw [e, Int.fdiv_eq_ediv_of_nonneg _ hg, Int.fdiv_eq_ediv_of_nonneg _ hg]
  constructor
  · rw [Rat.num_divInt, Int.sign_eq_one_of_pos h, Int.one_mul]
  · rw [Rat.den_divInt, if_neg (by omega), Int.natCast_ediv, Int.natAbs_of_nonneg (by omega)]
theorem red_neg (n m : Int) (h : m < 0) : n.fdiv (-((Nat.gcd n.natAbs m.natAbs : Nat) : Int)) = (qd n m).num ∧ m.fdiv (-((Nat.gcd n.natAbs m.natAbs : Nat) : Int)) = ((qd n m).den : Int) := by
  have h1 := red_pos (-n) (-m) (by omega)
  rw [Int.natAbs_neg, Int.natAbs_neg] at h1
  have e : qd (-n) (-m) = qd n m := by
    rw [qd_div, qd_div, Rat.intCast_neg, Rat.intCast_neg]
    have h2 : (m : Rat) ≠ 0 := c_ne (by omega)
    grind
  rw [e] at h1
  have e2 : ∀ a b : Int, a.fdiv (-b) = (-a).fdiv b := fun a b => by
    rw [← Int.neg_fdiv_neg]
    rw [Int.neg_neg]
  rw [e2, e2]
  exact h1

/-! ### numbers -/
structure Cn where
  re : Rat
  im : Rat
@[reducible] def nm (z : Cn) : PyData := .tuple [fr z.re, fr z.im]
def Cs (n : Nat) (z : Cn) : Prop := Rs n z.re ∧ Rs n z.im
theorem Cs.re {n : Nat} {z : Cn} (h : Cs n z) : Rs n z.re := h.1
theorem Cs.im {n : Nat} {z : Cn} (h : Cs n z) : Rs n z.im := h.2
theorem Cs.mono {n m : Nat} {z : Cn} (h : Cs n z) (k : n ≤ m) : Cs m z := ⟨h.1.mono k, h.2.mono k⟩
namespace Cn
def add (x y : Cn) : Cn := ⟨x.re + y.re, x.im + y.im⟩
def sub (x y : Cn) : Cn := ⟨x.re - y.re, x.im - y.im⟩
def mul (x y : Cn) : Cn := ⟨x.re * y.re - x.im * y.im, x.re * y.im + x.im * y.re⟩
def conj (x : Cn) : Cn := ⟨x.re, -x.im⟩
def nsq (x : Cn) : Rat := x.re * x.re + x.im * x.im
def scale (x : Cn) (q : Rat) : Cn := ⟨x.re * q, x.im * q⟩
def div (x y : Cn) : Cn := ⟨(x.re * y.re + x.im * y.im) / y.nsq, (x.im * y.re - x.re * y.im) / y.nsq⟩
end Cn
theorem Cs.add {n m : Nat} {x y : Cn} (hx : Cs n x) (hy : Cs m y) : Cs (n + m + 1) (x.add y) := ⟨hx.1.add hy.1, hx.2.add hy.2⟩
theorem Cs.sub {n m : Nat} {x y : Cn} (hx : Cs n x) (hy : Cs m y) : Cs (n + m + 1) (x.sub y) := ⟨hx.1.sub hy.1, hx.2.sub hy.2⟩
theorem Cs.mul {n m : Nat} {x y : Cn} (hx : Cs n x) (hy : Cs m y) : Cs (n + m + (n + m) + 1) (x.mul y) := ⟨(hx.1.mul hy.1).sub (hx.2.mul hy.2), (hx.1.mul hy.2).add (hx.2.mul hy.1)⟩
theorem Cs.conj {n : Nat} {x : Cn} (hx : Cs n x) : Cs n x.conj := ⟨hx.1, hx.2.neg⟩
theorem Cs.nsq {n : Nat} {x : Cn} (hx : Cs n x) : Rs (n + n + (n + n) + 1) x.nsq := (hx.1.mul hx.1).add (hx.2.mul hx.2)
end Rim

/-! RimH: constants of the top as data; how keywords bind. -/
namespace Rim
open PySem PySem.Spec L2
variable [Tabs]

mutual
/-- the value u of the written part reads as the data d -/
def kD (K : PySem.W.Frag) (u : Value) : PyData → Bool
  | .none => (match u with
    | .none => true
    | _ => false)
  | .bool b => (match u with
    | .bool c => b == c
    | _ => false)
  | .int i => (match u with
    | .int j _ => decide (i = j)
    | _ => false)
  | .str x => (match u with
    | .str y _ => decide (x = y)
    | _ => false)
  | .tuple ds => (match u with
    | .ref a => (match K.lookup a with
      | some ⟨.type c, _, .seq its _, _⟩ => decide (c = "tuple") && (decide (its.size ≤ sizeLine) && kDs K its.toList ds)
      | _ => false)
    | _ => false)
  | _ => false
def kDs (K : PySem.W.Frag) (us : List Value) : List PyData → Bool
  | [] => (match us with
    | [] => true
    | _ => false)
  | d :: ds => (match us with
    | u :: us => kD K u d && kDs K us ds
    | _ => false)
end
mutual
theorem kD_ok {K : PySem.W.Frag} : ∀ (d : PyData) (u : Value), kD K u d = true → ∃ v, RelV v u ∧ ∀ G, Dp K G v d
  | .none, u, h => by
    unfold kD at h
    cases u with
    | none => exact ⟨.non, rfl, fun G => .non⟩
    | _ => cases h
  | .bool b, u, h => by
    unfold kD at h
    cases u with
    | bool c =>
      have e : b = c := eq_of_beq h
      exact ⟨.bl b, by rw [e]; rfl, fun G => .bl b⟩
    | _ => cases h
  | .int i, u, h => by
    unfold kD at h
    cases u with
    | int j t =>
      have e : i = j := of_decide_eq_true h
      exact ⟨.int i, ⟨t, by rw [e]⟩, fun G => .int i⟩
    | _ => cases h
  | .str x, u, h => by
    unfold kD at h
    cases u with
    | str j t =>
      have e : x = j := of_decide_eq_true h
      exact ⟨.str x, ⟨t, by rw [e]⟩, fun G => .str x⟩
    | _ => cases h
  | .tuple ds, u, h => by
    unfold kD at h
    cases u with
    | ref a =>
      dsimp only at h
      cases q : K.lookup a with
      | none =>
        rw [q] at h
        cases h
      | some o =>
        obtain ⟨oc, od, dt, sl⟩ := o
        rw [q] at h
        cases oc with
        | type c =>
          cases dt with
          | seq its n =>
            obtain ⟨h1, h2⟩ := He.ba h
            obtain ⟨h3, h4⟩ := He.ba h2
            obtain ⟨vs, r, hd⟩ := kDs_ok ds its.toList h4
            refine ⟨.ref a, rfl, fun G => .tup (Or.inr ⟨_, its, n, q, ?_, rfl, of_decide_eq_true h3, r⟩) (hd G)⟩
            exact congrArg Value.type (of_decide_eq_true h1)
          | _ => cases h
        | _ => cases h
    | _ => cases h
  | .list _, u, h => by
    unfold kD at h
    cases h
  | .dict _, u, h => by
    unfold kD at h
    cases h
theorem kDs_ok {K : PySem.W.Frag} : ∀ (ds : List PyData) (us : List Value), kDs K us ds = true → ∃ vs, Vals vs us ∧ ∀ G, DpAll K G vs ds
  | [], us, h => by
    unfold kDs at h
    cases us with
    | nil => exact ⟨[], .nil, fun G => .nil⟩
    | cons _ _ => cases h
  | d :: ds, us, h => by
    unfold kDs at h
    cases us with
    | nil => cases h
    | cons u us =>
      obtain ⟨h1, h2⟩ := He.ba h
      obtain ⟨v, r, a⟩ := kD_ok d u h1
      obtain ⟨vs, rs, as⟩ := kDs_ok ds us h2
      exact ⟨v :: vs, .cons r rs, fun G => .cons (a G) (as G)⟩
end
/-- the module's name x is the data d -/
def conB (K : PySem.W.Frag) (q : Str × PyData) : Bool := match PySem.W.nsIn K mainGlobals q.1 with
  | some (some u) => kD K u q.2
  | _ => false
def impB (K : PySem.W.Frag) (q : Str × String) : Bool := He.eqO (PySem.W.nsIn K mainGlobals q.1) (some (some (.builtin q.2)))
def exB (cs : List (Str × PyData)) (is : List (Str × String)) (K : PySem.W.Frag) : Bool := cs.all (conB K) && is.all (impB K)
structure Con (K : PySem.W.Frag) (mg : Str → Option Value) (x : Str) (d : PyData) : Prop where
  ex : ∃ (v : V) (u : Value), mg x = some u ∧ RelV v u ∧ ∀ G, Dp K G v d
theorem con_ok {K : PySem.W.Frag} {h : Heap} {mg : Str → Option Value} {cs : List (Str × PyData)} {is : List (Str × String)} (X : K.In h) (G : h.Ns mainGlobals mg) (e : exB cs is K = true) (i : Nat) {q : Str × PyData} (hi : cs[i]? = some q) : Con K mg q.1 q.2 := by
  have h1 := List.all_eq_true.mp (He.ba e).1 q (List.mem_of_getElem? hi)
  unfold conB at h1
  cases z : PySem.W.nsIn K mainGlobals q.1 with
  | none =>
    rw [z] at h1
    cases h1
  | some o =>
    cases o with
    | none =>
      rw [z] at h1
      cases h1
    | some u =>
      rw [z] at h1
      obtain ⟨v, r, d⟩ := kD_ok q.2 u h1
      exact ⟨v, u, PySem.W.mg_of X G z, r, d⟩
theorem imp_ok {K : PySem.W.Frag} {h : Heap} {mg : Str → Option Value} {cs : List (Str × PyData)} {is : List (Str × String)} (X : K.In h) (G : h.Ns mainGlobals mg) (e : exB cs is K = true) (i : Nat) {q : Str × String} (hi : is[i]? = some q) : mg q.1 = some (.builtin q.2) :=
  PySem.W.mg_of X G (He.eqO_ok (List.all_eq_true.mp (He.ba e).2 q (List.mem_of_getElem? hi)))

/-! ### keywords -/
section
variable {K : PySem.W.Frag} {x qual : Str} {params : Arguments} {body : List Stmt} {scope : Scope} {dvs : List V} {f : Addr} {fd : FuncData} {ps : List Str}
/-- no defaults, all by keywords: g puts them in order -/
theorem kb_none (F : FunD K x qual params body scope [] [] f fd) (ks : List Str) (g : {α : Type} → List α → List α) (hrel : ∀ {zs : List V} {ws : List Value}, Vals zs ws → Vals (g zs) (g ws))
    (h : ∀ (kV doc pm : Value) (an : Option Addr) (cdv ct : Value) (ws : List Value), ws.length = ks.length → bindArgs (PySem.W.fnOf x qual params body scope .none kV doc pm an cdv ct) ⟨[], ks.zip ws⟩ = pure (ps.zip (g ws))) :
    KBn K fd ps 0 ks (fun _ ws => g ws) (fun _ zs => g zs) := by
  obtain ⟨oc, od, dV, kV, doc, pm, an, cdv, ct, osl, rfl, lk, hcd, hD, hK⟩ := F.ex
  rcases hD with ⟨_, rfl⟩ | ⟨e, _⟩
  · refine ⟨fun s us ws _ hu hw => ?_, fun _ r => hrel r⟩
    cases us with
    | nil => exact .of_eq (h kV doc pm an cdv ct ws hw)
    | cons _ _ => cases hu
  · exact absurd rfl e
/-- defaults, none of which is wanted -/
theorem kb_dfl (F : FunD K x qual params body scope dvs [] f fd) (hd : dvs ≠ []) (ks : List Str) (g : {α : Type} → List α → List α) (hrel : ∀ {zs : List V} {ws : List Value}, Vals zs ws → Vals (g zs) (g ws))
    (h : ∀ (T : Addr) (kV doc pm : Value) (an : Option Addr) (cdv ct : Value) (ws its : List Value), ws.length = ks.length → its.length = dvs.length →
      ∃ k, bindArgs (PySem.W.fnOf x qual params body scope (.ref T) kV doc pm an cdv ct) ⟨[], ks.zip ws⟩ = seqItems? (.ref T) >>= k ∧ k (some its.toArray) = pure (ps.zip (g ws))) :
    KBn K fd ps 0 ks (fun _ ws => g ws) (fun _ zs => g zs) := by
  obtain ⟨oc, od, dV, kV, doc, pm, an, cdv, ct, osl, rfl, lk, hcd, hD, hK⟩ := F.ex
  rcases hD with ⟨e, _⟩ | ⟨_, T, o, its, m, rfl, lT, oT, rT⟩
  · exact absurd e hd
  · refine ⟨fun s us ws X hu hw => ?_, fun _ r => hrel r⟩
    cases us with
    | nil =>
      obtain ⟨k, e1, e2⟩ := h T kV doc pm an cdv ct ws its hw rT.length.symm
      refine BindsTo.of_looks fun M => ?_
      rw [e1]
      exact looks_items X lT oT (.of_pure e2)
    | cons _ _ => cases hu
end
end Rim

/-! RimL: what the laws' own helpers want: the pail, slices, a law's last row. -/
namespace Rim
open PySem PySem.Spec L2
variable [Tabs]

theorem szl_of {n : Nat} (h : Nat.ble n 1000 = true) : n ≤ sizeLine := Nat.le_trans (Nat.le_of_ble_eq_true h) (by decide)
abbrev rMulS : R2 := rI CMul fun i j => .int (i * j)

section
variable {K : PySem.W.Frag} {p : Option Addr} {E : Ev} {ta tb te : TE} {Φ : PyData → Prop} {Ψ : List PyData → Prop} {N B C : Ev → Prop} {R : PyData → Prop} {a : Addr}
theorem WR_mulS {i k : Int} (c : CMul i k) (q : Φ (.int (i * k))) : WR K p rMulS (.int i) (.int k) Φ := WR_I c rfl q

/-! ### slices -/
def cutD (ds : List PyData) (lo hi : Option Int) : List PyData := (ds.drop (HT.sIx ds.length 0 lo)).take (HT.sIx ds.length ds.length hi - HT.sIx ds.length 0 lo)
def WO (K : PySem.W.Frag) (p : Option Addr) (E : Ev) (t : TO) (Θ : Option Int → Prop) : Prop :=
  ∀ (H0 G H : Hp) (σ : L2.St), J p G H → EnvOk K p H0 G H σ E → ∀ Q : Option Int → Hp → Prop,
    (∀ o G' H', Xt p G H G' H' → J p G' H' → Θ o → Q o H') → t σ H Q
theorem WO_none {Θ : Option Int → Prop} (k : Θ none) : WO K p E tNoPart Θ := fun H0 G H σ j e Q q => q none G H Xt.refl j k
theorem WO_some {Θ : Option Int → Prop} (h : W K p E te fun d => ∃ i, d = .int i ∧ Θ (some i)) : WO K p E (tPart te) Θ := fun H0 G H σ j e Q q =>
  h H0 G H σ j e _ fun v d G' H' x j' dv hd => by
    obtain ⟨i, rfl, k⟩ := hd
    exact ⟨i, dp_int dv, q (some i) G' H' x j' k⟩
theorem WM_slL {tl th : TO} (h : W K p E te fun d => ∃ ds, d = .list ds ∧ WO K p E tl fun lo => WO K p E th fun hi => Ψ (cutD ds lo hi)) : WM K p E (tSl (rSlL K) te tl th) Ψ := by
  intro H0 G H σ j e Q q
  refine h H0 G H σ j e _ fun v d G1 H1 x1 j1 dv h1 => ?_
  obtain ⟨ds, rfl, h1⟩ := h1
  refine h1 H0 G1 H1 σ j1 (e.mono x1) _ fun lo G2 H2 x2 j2 h2 => ?_
  refine h2 H0 G2 H2 σ j2 ((e.mono x1).mono x2) _ fun hi G3 H3 x3 j3 h3 => ?_
  obtain ⟨l, xs, rfl, hs, ha⟩ := dp_lst dv
  have x13 := x1.trans (x2.trans x3)
  have g13 := x2.gg.trans x3.gg
  refine ⟨l, xs, rfl, (g13.trans j3.sub).seq hs, fun m hm => ?_⟩
  have hn : H m = none := by
    cases z : H m with
    | none => rfl
    | some o =>
      rw [(x13.some (j3.ne hm) z).choose_spec] at hm
      cases hm
  exact q m _ _ G3 _ (x13.trans (Xt.made j3 hm)) (j3.madeN hm) hn upd_same (j3.free hm) (cut_ds lo hi (dpA_mono g13 ds xs ha)) h3
/-- t[a:b], not the whole -/
theorem W_slT {tl th : TO} (h : W K p E te fun d => ∃ ds, d = .tuple ds ∧ WO K p E tl fun lo => WO K p E th fun hi =>
    ¬ (HT.sIx ds.length 0 lo = 0 ∧ HT.sIx ds.length ds.length hi = ds.length) ∧ Φ (.tuple (cutD ds lo hi))) : W K p E (tSl (rSlT K) te tl th) Φ := by
  intro H0 G H σ j e Q q
  refine h H0 G H σ j e _ fun v d G1 H1 x1 j1 dv h1 => ?_
  obtain ⟨ds, rfl, h1⟩ := h1
  refine h1 H0 G1 H1 σ j1 (e.mono x1) _ fun lo G2 H2 x2 j2 h2 => ?_
  refine h2 H0 G2 H2 σ j2 ((e.mono x1).mono x2) _ fun hi G3 H3 x3 j3 h3 => ?_
  obtain ⟨l, xs, rfl, hs, ha⟩ := dp_tup dv
  have x13 := x1.trans (x2.trans x3)
  have g13 := x2.gg.trans x3.gg
  have hl := dpA_len ha
  refine ⟨l, xs, rfl, sqT_mono (g13.trans j3.sub) hs, ?_, fun m hm => ?_⟩
  · rw [hl]
    exact h3.1
  · have x4 := Xt.laid (p := p) j3 (o := .tup (cutV xs lo hi)) hm
    exact q _ _ _ _ (x13.trans x4) (j3.laid hm) (.tup (SqT.of upd_same) (dpA_mono x4.gg _ _ (cut_ds lo hi (dpA_mono g13 ds xs ha)))) h3.2

/-- xs + ys, xs a list of one's own, ys a new one -/
theorem WM_catV {i : Nat} {ds : List PyData} (hs : E[i]? = some (.m ds)) (h : WM K p E tb fun es => ds.length + es.length ≤ sizeLine ∧ Ψ (ds ++ es)) : WM K p E (tOp rCat (tVar i) tb) Ψ := by
  intro H0 G H σ j e Q q
  obtain ⟨l, vs, z1, z2, z3, z4, z5, z6⟩ := e.own hs
  refine ⟨_, z1, h H0 G H σ j e _ fun m us es G1 H1 x1 j1 hn hl hg dv h1 => ?_⟩
  have d3 := dpA_mono x1.gg ds vs z3
  refine ⟨l, m, vs, us, rfl, rfl, x1.hh l _ z5 (fun _ z => by cases z) z2, hl, by rw [dpA_len d3, dpA_len dv]; exact h1.1, fun n hnn => ?_⟩
  have hn0 : H n = none := by
    cases z : H n with
    | none => rfl
    | some o =>
      rw [(x1.some (j1.ne hnn) z).choose_spec] at hnn
      cases hnn
  exact q n _ _ G1 _ (x1.trans (Xt.made j1 hnn)) (j1.madeN hnn) hn0 upd_same (j1.free hnn) (dpA_append d3 dv) h1.2
/-- [te for x in a list], each by a function -/
theorem WM_mapL {i : Nat} {f : PyData → PyData} {tl : TE} (hi : i < E.length)
    (h : W K p E tl fun d => ∃ ds, d = .list ds ∧ ds.length ≤ sizeLine ∧ (∀ x, x ∈ ds → W K p (E.set i (.d x)) te fun y => y = f x) ∧ Ψ (ds.map f)) :
    WM K p E (tLc (iList K tl) (gName i) tYes te [i]) Ψ := by
  refine WM_lcL (h.imp fun d hd => ?_)
  obtain ⟨ds, rfl, hz, hw, hk⟩ := hd
  refine ⟨ds, rfl, hz, fun k acc => acc = (ds.take k).map f, by simp, fun k x acc hx ha => turn_name hi (WT_yes ⟨fun _ => (hw x (List.mem_of_getElem? hx)).imp fun y hy => ?_, fun z => Bool.noConfusion z⟩), fun acc ha => ?_⟩
  · show acc ++ [y] = List.map f (List.take (k + 1) ds)
    rw [show acc = List.map f (List.take k ds) from ha, hy, List.take_add_one, hx]
    simp
  · rw [ha, List.take_length]
    exact hk

/-! ### the pail -/
/-- what a place of it holds -/
def InP (i x : Int) : Prop := i = 1 → 0 ≤ x ∧ x < 2147483648
theorem W_pail {k : Nat} {i : Int} (h0 : 0 ≤ i ∧ i < 3) (ha : E[k]? = some (.v (.ref a))) (q : ∀ x, InP i x → Φ (.int x)) : W K (some a) E (tOp (rIxL K) (tVar k) (tC (.int i))) Φ := by
  intro H0 G H σ j e Q z
  obtain ⟨_, x, y, w, hp, hy⟩ := j.pl a rfl
  refine ⟨_, e.val ha, ?_⟩
  have hc : i = 0 ∨ i = 1 ∨ i = 2 := by omega
  rcases hc with rfl | rfl | rfl
  · exact ⟨a, _, 0, .int x, rfl, rfl, SqL.of hp, rfl, z _ _ G H Xt.refl j (.int x) (q x fun h => by omega)⟩
  · exact ⟨a, _, 1, .int y, rfl, rfl, SqL.of hp, rfl, z _ _ G H Xt.refl j (.int y) (q y fun _ => hy)⟩
  · exact ⟨a, _, 2, .int w, rfl, rfl, SqL.of hp, rfl, z _ _ G H Xt.refl j (.int w) (q w fun h => by omega)⟩
theorem pail_upd {G H : Hp} {us : List V} (j : J (some a) G H) (h : ∃ x y z : Int, us = [.int x, .int y, .int z] ∧ (0 ≤ y ∧ y < 2147483648)) : J (some a) G (upd H a (.lst us)) ∧ Xt (some a) G H G (upd H a (.lst us)) := by
  obtain ⟨x, y, z, rfl, hy⟩ := h
  have hg := (j.pl a rfl).1
  have hnt : ∀ b, Tabs.tb b → b ≠ a := fun b hb z => by
    obtain ⟨_, ps, e, _⟩ := j.tt b hb
    obtain ⟨_, q1, q2, q3, e2, _⟩ := j.pl a rfl
    rw [z, e2] at e
    cases e
  refine ⟨⟨fun b o e => ?_, fun b hb => ?_, fun b hb => ?_⟩, ⟨Same.refl G, fun b o hb _ e => ?_, fun b ps hb e => ⟨ps, ?_⟩, fun b _ _ h => h⟩⟩
  · rw [upd_ne (ne_of_none e hg)]
    exact j.sub b o e
  · cases hb
    exact ⟨hg, x, y, z, upd_same, hy⟩
  · obtain ⟨h1, ps, h2⟩ := j.tt b hb
    exact ⟨h1, ps, by rw [upd_ne (hnt b hb)]; exact h2⟩
  · have hne : b ≠ a := fun q => hb (by rw [q])
    rw [upd_ne hne]
    exact e
  · have hne : b ≠ a := fun q => hb (by rw [q])
    rw [upd_ne hne]
    exact e
theorem set_three {x y z w : Int} {i : Int} (h0 : 0 ≤ i ∧ i < 3) (hy : 0 ≤ y ∧ y < 2147483648) (hw : InP i w) : ∃ a b c : Int, ([.int x, .int y, .int z] : List V).set i.toNat (.int w) = [.int a, .int b, .int c] ∧ (0 ≤ b ∧ b < 2147483648) := by
  have hc : i = 0 ∨ i = 1 ∨ i = 2 := by omega
  rcases hc with rfl | rfl | rfl
  · exact ⟨w, y, z, rfl, hy⟩
  · exact ⟨x, w, z, rfl, hw rfl⟩
  · exact ⟨x, y, w, rfl, hy⟩
theorem ix_three {i : Int} (h0 : 0 ≤ i ∧ i < 3) : ixN 3 i = some i.toNat := by
  unfold ixN
  rw [if_pos h0.1, if_pos (by omega)]
/-- pail[i] = e -/
theorem S_pail {k : Nat} {i : Int} (h0 : 0 ≤ i ∧ i < 3) (ha : E[k]? = some (.v (.ref a))) (h : W K (some a) E te fun d => ∃ x, d = .int x ∧ InP i x ∧ N E) :
    S K (some a) E (tAsg te (gSub (tVar k) (tC (.int i)) rSetL)) N R B C := fun G0 H0 G H σ x j e D q =>
  h H0 G H σ j e _ fun v d G1 H1 x1 j1 dv h1 => by
    obtain ⟨w, rfl, hw, hn⟩ := h1
    obtain ⟨_, y1, y2, y3, hp, hy⟩ := j1.pl a rfl
    have e1 := e.mono x1
    refine ⟨_, e1.val ha, a, _, i, i.toNat, rfl, rfl, hp, ix_three h0, ?_⟩
    rw [dp_int dv]
    obtain ⟨j2, x2⟩ := pail_upd (us := ([.int y1, .int y2, .int y3] : List V).set i.toNat (.int w)) j1 (set_three h0 hy hw)
    exact q.nx σ E G1 _ ((x.trans x1).trans x2) j2 (e1.mono x2) hn
/-- pail[i], x = e -/
theorem S_pailP {k m : Nat} {i : Int} (h0 : 0 ≤ i ∧ i < 3) (ha : E[k]? = some (.v (.ref a))) (h : W K (some a) E te fun d => ∃ x y, d = .tuple [.int x, .int y] ∧ InP i x ∧ m < E.length ∧ N (E.set m (.d (.int y)))) :
    S K (some a) E (tAsg te (gTup K 2 (gCons (gSub (tVar k) (tC (.int i)) rSetL) (gCons (gName m) gNil)))) N R B C := fun G0 H0 G H σ x j e D q =>
  h H0 G H σ j e _ fun v d G1 H1 x1 j1 dv h1 => by
    obtain ⟨w, u, rfl, hw, hm, hn⟩ := h1
    obtain ⟨b, xs, rfl, hs, hxs⟩ := dp_tup dv
    cases hxs with
    | cons d1 hxs =>
      cases hxs with
      | cons d2 hxs =>
        cases hxs
        cases d1
        cases d2
        obtain ⟨_, y1, y2, y3, hp, hy⟩ := j1.pl a rfl
        have e1 := e.mono x1
        refine ⟨b, _, rfl, sqT_mono j1.sub hs, rfl, _, _, rfl, _, e1.val ha, a, _, i, i.toNat, rfl, rfl, hp, ix_three h0, ?_⟩
        obtain ⟨j2, x2⟩ := pail_upd (us := ([.int y1, .int y2, .int y3] : List V).set i.toNat (.int w)) j1 (set_three h0 hy hw)
        refine ⟨_, _, rfl, rfl, ?_⟩
        exact q.nx _ _ G1 _ ((x.trans x1).trans x2) j2 ((e1.mono x2).setD (by rw [e.len]; exact hm) (.int u)) hn

/-! ### a def that hands back a new list of its own -/
def SM (K : PySem.W.Frag) (p : Option Addr) (E : Ev) (t : TS) (RM : List PyData → Prop) : Prop :=
  ∀ (G0 H0 G H : Hp) (σ : L2.St), Xt p G0 H0 G H → J p G H → EnvOk K p H0 G H σ E → ∀ D : Ends,
    (∀ l vs ds G' H', Xt p G0 H0 G' H' → J p G' H' → H0 l = none → H' l = some (.lst vs) → G' l = none → DpAll K G' vs ds → RM ds → D.rt (.ref l) H') → t D σ H
theorem SM_seq {t u : TS} {RM : List PyData → Prop} (h : S K p E t (fun E' => SM K p E' u RM) (fun _ => False) Nev Nev) : SM K p E (tSeq t u) RM := fun G0 H0 G H σ x j e D q =>
  h G0 H0 G H σ x j e { D with nx := u D } ⟨fun σ' E' G' H' x' j' e' s => s G0 H0 G' H' σ' x' j' e' D q, fun _ _ _ _ _ _ _ z => z.elim, fun _ _ _ _ _ _ _ z => z.elim, fun _ _ _ _ _ _ _ z => z.elim⟩
theorem SM_ret {RM : List PyData → Prop} (h : WM K p E te RM) : SM K p E (tRet te) RM := fun G0 H0 G H σ x j e D q =>
  h H0 G H σ j e _ fun l vs ds G' H' x' j' hn hl hg dv hd => q l vs ds G' H' (x.trans x') j' (x.fresh j hn) hl hg dv hd
end

def spPail (K : PySem.W.Frag) : Sp := fun vs H Q _ => vs.length = 2 ∧ ∃ (G : Hp) (ns : List Int) (t : Int), J none G H ∧ DpAll K G vs [.list (ns.map .int), .int t] ∧ 0 ≤ t ∧
  ∀ l (x y z : Int) G' H', Xt none G H G' H' → J none G' H' → H l = none → G' l = none → H' l = some (.lst [.int x, .int y, .int z]) → (0 ≤ y ∧ y < 2147483648) → Q (.ref l) H'
theorem body_pail {K : PySem.W.Frag} {t : TS} {N : List Str} {vs : List V} {H : Hp} {Q : VK} {E : XK} (m : Nat) (hN : N.length = 2 + m) (hsp : spPail K vs H Q E)
    (h : ∀ (ns : List Int) (t0 : Int), 0 ≤ t0 → SM K none (ends [.list (ns.map .int), .int t0] m) t fun ds => ∃ x y z : Int, ds = [.int x, .int y, .int z] ∧ (0 ≤ y ∧ y < 2147483648)) :
    t { nx := fun _ H' => Q .non H', rt := Q } (L2.start N vs) H := by
  obtain ⟨hn, G, ns, t0, j, dv, ht, k⟩ := hsp
  refine h ns t0 ht G H G H _ Xt.refl j (env_start dv m (by rw [hn]; exact hN)) _ fun l us ds G' H' x' j' h0 hl hg da hr => ?_
  obtain ⟨x, y, z, rfl, hy⟩ := hr
  cases da with
  | cons d1 da =>
    cases da with
    | cons d2 da =>
      cases da with
      | cons d3 da =>
        cases da
        cases d1
        cases d2
        cases d3
        exact k l x y z G' H' x' j' h0 hg hl hy
/-- right(pail(script, turn)) -/
theorem W_turn {K : PySem.W.Frag} {E : Ev} {tr : TA} {X Y : XK} {Φ : PyData → Prop} {ι : Type} {args : ι → List PyData} {pre : ι → Prop} {out : ι → PyData → Prop} (i : ι) (hi : args i = []) (hp : pre i)
    (h : WA K none E tr fun ds => ∃ (ns : List Int) (t : Int), ds = [.list (ns.map .int), .int t] ∧ 0 ≤ t ∧ ∀ d, out i d → Φ d) :
    W K none E (tCall (spP K 1 args pre out) [] Y (tCons (tCall (spPail K) [] X tr) tNil)) Φ := by
  intro H0 G H σ j e Q q
  refine h H0 G H σ j e _ fun vs ds G1 H1 x1 j1 dv h1 => ?_
  obtain ⟨ns, t, rfl, ht, hk⟩ := h1
  rw [List.append_nil]
  refine ⟨dpA_len dv, G1, ns, t, j1, dv, ht, fun l x y z G2 H2 x2 j2 hn hg hl hy => ?_⟩
  have j3 : J (some l) G2 H2 := ⟨j2.sub, fun b hb => (by
    cases hb
    exact ⟨hg, x, y, z, hl, hy⟩), j2.tt⟩
  refine ⟨rfl, l, [], G2, i, rfl, j3, by rw [hi]; exact .nil, hp, fun v d G3 H3 x3 j4 dv' hd => ?_⟩
  have hn0 : H l = none := by
    cases w : H l with
    | none => rfl
    | some o =>
      rw [(x1.some (by simp) w).choose_spec] at hn
      cases hn
  have x12 := x1.trans x2
  refine q v d G3 H3 ⟨x12.gg.trans x3.gg, fun b o _ hz hb => ?_, fun b ps _ hb => ?_, fun b _ hb hG => ?_⟩ ⟨j4.sub, fun b hb => (by cases hb), j4.tt⟩ dv' (hk d hd)
  · have hne : some l ≠ some b := fun w => by
      cases w
      rw [hn0] at hb
      cases hb
    exact x3.hh b o hne hz (x12.hh b o (by simp) hz hb)
  · have hne : some l ≠ some b := fun w => by
      cases w
      rw [hn0] at hb
      cases hb
    obtain ⟨qs, hq⟩ := x12.tb b ps (by simp) hb
    exact x3.tb b qs hne hq
  · have hne : some l ≠ some b := fun w => by
      cases w
      exact hb hn0
    refine x3.fr b hne ?_ (x12.fr b (by simp) hb hG)
    cases w : H b with
    | none => exact absurd w hb
    | some o =>
      rw [(x12.some (by simp) w).choose_spec]
      exact Option.some_ne_none _
/-- the law's own promise -/
def spLaw (K : PySem.W.Frag) : Sp := fun vs H Q _ => vs.length = 1 ∧ ∃ (a : Addr) (ns : List Int), vs = [.ref a] ∧ SqL K H a (ns.map V.int) ∧ ns.length ≤ 63 ∧ (∀ b, Tabs.tb b → TabO H b) ∧ ∀ H', Q (.bl true) H'
theorem dp_ints {K : PySem.W.Frag} {G : Hp} : ∀ ns : List Int, DpAll K G (ns.map V.int) (ns.map PyData.int)
  | [] => .nil
  | n :: r => .cons (.int n) (dp_ints r)
open Classical in
/-- H without the tables -/
noncomputable def noT (H : Hp) : Hp := fun b => if Tabs.tb b then none else H b
theorem noT_sub {H : Hp} : Same (noT H) H := fun b o e => by
  unfold noT at e
  split at e
  · cases e
  · exact e
theorem noT_at {H : Hp} {b : Addr} (h : ¬ Tabs.tb b) : noT H b = H b := by
  unfold noT
  rw [if_neg h]
theorem sqL_noT {K : PySem.W.Frag} {H : Hp} {a : Addr} {xs : List V} (ht : ∀ b, Tabs.tb b → TabO H b) (h : SqL K H a xs) : SqL K (noT H) a xs := by
  have key : ∀ o, H a = some o → (∀ ps, o ≠ .tbl ps) → noT H a = some o := fun o e n => by
    rw [noT_at fun q => ?_]
    · exact e
    · obtain ⟨ps, z, _⟩ := ht a q
      rw [e] at z
      exact n ps (Option.some.inj z)
  rcases h with (h | ⟨o, h⟩) | h
  · exact Or.inl (Or.inl (key _ h fun _ z => by cases z))
  · exact Or.inl (Or.inr ⟨o, key _ h fun _ z => by cases z⟩)
  · exact Or.inr h
theorem body_law {K : PySem.W.Frag} {t : TS} {N : List Str} {vs : List V} {H : Hp} {Q : VK} {E : XK} (m : Nat) (hN : N.length = 1 + m) (hsp : spLaw K vs H Q E)
    (h : ∀ ns : List Int, ns.length ≤ 63 → S K none (ends [.list (ns.map .int)] m) t (fun _ => False) (fun d => d = .bool true) Nev Nev) :
    t { nx := fun _ H' => Q .non H', rt := Q } (L2.start N vs) H := by
  obtain ⟨hn, a, ns, rfl, hs, hl, ht, k⟩ := hsp
  have j : J none (noT H) H := ⟨noT_sub, fun b hb => (by cases hb), fun b hb => ⟨by unfold noT; rw [if_pos hb], ht b hb⟩⟩
  refine h ns hl (noT H) H (noT H) H _ Xt.refl j (env_start (vs := [.ref a]) (ds := [.list (ns.map .int)]) (.cons (.lst (sqL_noT ht hs) (dp_ints ns)) .nil) m hN) _ ?_
  refine ⟨fun _ _ _ _ _ _ _ z => z.elim, fun v d G' H' _ _ dv z => ?_, fun _ _ _ _ _ _ _ z => z.elim, fun _ _ _ _ _ _ _ z => z.elim⟩
  subst z
  cases dv
  exact k H'
end Rim

namespace Rim
open PySem PySem.Spec L2
variable [Tabs]
section
variable {K : PySem.W.Frag} {p : Option Addr} {E : Ev} {N : Ev → Prop} {R : PyData → Prop} {B C : Ev → Prop}
/-- a, b, c = e1, e2, e3 into three names -/
theorem S_par3 {i k m : Nat} {tr : TA} (hi : i < E.length) (hk : k < E.length) (hm : m < E.length) (h : WA K p E tr fun ds => ∃ a b c, ds = [a, b, c] ∧ N (((E.set i (.d a)).set k (.d b)).set m (.d c))) : S K p E (tPar3 i k m tr) N R B C := fun G0 H0 G H σ x j e D q =>
  h H0 G H σ j e _ fun vs ds G' H' x' j' dv hd => by
    obtain ⟨a, b, c, rfl, hn⟩ := hd
    cases dv with
    | cons da dv =>
      cases dv with
      | cons db dv =>
        cases dv with
        | cons dc dv =>
          cases dv
          refine ⟨_, _, _, rfl, q.nx _ _ G' H' (x.trans x') j' ((((e.mono x').setD (by rw [e.len]; exact hi) da).setD ?_ db).setD ?_ dc) hn⟩
          · rw [List.length_set, e.len]
            exact hk
          · rw [List.length_set, List.length_set, e.len]
            exact hm
end
end Rim

/-! RimO: an environment written out anew. -/
namespace Rim
open PySem PySem.Spec L2
variable [Tabs]
/-- the environment by another name -/
theorem S_env {K : PySem.W.Frag} {p : Option Addr} {E E2 : Ev} {t : TS} {N B C : Ev → Prop} {R : PyData → Prop} (e : E = E2) (h : S K p E2 t N R B C) : S K p E t N R B C := e ▸ h
end Rim

/-! RimD: what a piece of a program asks, as plain functions over data; each beside the piece itself. -/
namespace Rim
open PySem PySem.Spec L2
variable [Tabs]

/-! ### environments that compute -/
def geE : Ev → Nat → Sl
  | [], _ => .un
  | s :: _, 0 => s
  | _ :: E, i + 1 => geE E i
def puE : Ev → Nat → Sl → (Ev → Prop) → Prop
  | [], _, _, _ => False
  | _ :: E, 0, s, N => N (s :: E)
  | x :: E, i + 1, s, N => puE E i s fun E' => N (x :: E')
theorem geE_ok : ∀ {E : Ev} {i : Nat} {s : Sl}, geE E i = s → s ≠ .un → E[i]? = some s
  | [], _, _, h, n => absurd h.symm n
  | _ :: _, 0, _, h, _ => by rw [← h]; rfl
  | _ :: E, i + 1, s, h, n => by
    rw [List.getElem?_cons_succ]
    exact geE_ok (E := E) h n
theorem puE_ok : ∀ {E : Ev} {i : Nat} {s : Sl} {N : Ev → Prop}, puE E i s N → i < E.length ∧ N (E.set i s)
  | [], _, _, _, h => h.elim
  | _ :: _, 0, _, _, h => ⟨Nat.succ_pos _, h⟩
  | x :: E, i + 1, s, N, h => by
    have z := puE_ok (E := E) (N := fun E' => N (x :: E')) h
    exact ⟨Nat.succ_lt_succ z.1, z.2⟩

/-! ### the forms -/
abbrev WE := Ev → (PyData → Prop) → Prop
abbrev WL := Ev → (List PyData → Prop) → Prop
abbrev WB := Ev → (Bool → Prop) → Prop
abbrev WO2 := PyData → PyData → (PyData → Prop) → Prop
abbrev WF := List PyData → (PyData → Prop) → Prop
abbrev WG := PyData → Ev → (Ev → Prop) → Prop
structure Post where
  N : Ev → Prop
  R : PyData → Prop
  B : Ev → Prop
  C : Ev → Prop
abbrev WS := Ev → Post → Prop

structure DE (X : Cx) (p : Option Addr) (e : Expr) (t : TE) (f : WE) : Prop where
  py : PE X e t
  ok : ∀ E Φ, f E Φ → W X.K p E t Φ
structure DM (X : Cx) (p : Option Addr) (e : Expr) (t : TE) (f : WL) : Prop where
  py : PE X e t
  ok : ∀ E Ψ, f E Ψ → WM X.K p E t Ψ
structure DA (X : Cx) (p : Option Addr) (es : List Expr) (t : TA) (f : WL) : Prop where
  py : PA X es t
  ok : ∀ E Ψ, f E Ψ → WA X.K p E t fun xs => xs.length = es.length ∧ Ψ xs
structure DT (X : Cx) (p : Option Addr) (e : Expr) (t : TT) (f : WB) : Prop where
  py : PT X e t
  ok : ∀ E Θ, f E Θ → WT X.K p E t Θ
structure DW (X : Cx) (p : Option Addr) (e : Expr) (t : TT) (f : WB) : Prop where
  py : PW X e t
  ok : ∀ E Θ, f E Θ → WT X.K p E t Θ
structure DS (X : Cx) (p : Option Addr) (s : Stmt) (t : TS) (f : WS) : Prop where
  py : PS X s t
  ok : ∀ E (P : Post), f E P → S X.K p E t P.N P.R P.B P.C
structure DSs (X : Cx) (p : Option Addr) (s : List Stmt) (t : TS) (f : WS) : Prop where
  py : PSs X s t
  ok : ∀ E (P : Post), f E P → S X.K p E t P.N P.R P.B P.C
structure DG (X : Cx) (p : Option Addr) (tg : Expr) (g : TG) (f : WG) : Prop where
  py : PG X tg g
  ok : ∀ d E N, f d E N → TGok X.K p E g d N
structure DGs (X : Cx) (p : Option Addr) (tg : List Expr) (g : TGs) (f : List PyData → Ev → (Ev → Prop) → Prop) : Prop where
  py : PGs X tg g
  ok : ∀ d E N, f d E N → TGsok X.K p E g d N
/-- an operator (binaryOp, compareOp, a subscript) -/
structure DO (X : Cx) (P : R2 → Prop) (r : R2) (o : WO2) : Prop where
  py : P r
  ok : ∀ p x y Φ, o x y Φ → WR X.K p r x y Φ

section
variable {K : PySem.W.Frag} {p : Option Addr} {E : Ev} {t u : TE} {tt tu : TT} {ta : TA} {Φ Φ' : PyData → Prop} {Ψ Ψ' : List PyData → Prop} {Θ Θ' : Bool → Prop}
theorem WM.imp (h : WM K p E t Ψ) (k : ∀ d, Ψ d → Ψ' d) : WM K p E t Ψ' :=
  fun H0 G H σ j e Q q => h H0 G H σ j e Q fun l vs ds G' H' x j' hn hl hg dv hd => q l vs ds G' H' x j' hn hl hg dv (k ds hd)
theorem WA.imp (h : WA K p E ta Ψ) (k : ∀ d, Ψ d → Ψ' d) : WA K p E ta Ψ' :=
  fun H0 G H σ j e Q q => h H0 G H σ j e Q fun vs ds G' H' x j' dv hd => q vs ds G' H' x j' dv (k ds hd)
theorem WT.imp (h : WT K p E tt Θ) (k : ∀ d, Θ d → Θ' d) : WT K p E tt Θ' :=
  fun H0 G H σ j e Q q => h H0 G H σ j e Q fun b G' H' x j' hd => q b G' H' x j' (k b hd)
theorem WR.imp {r : R2} {x y : PyData} (h : WR K p r x y Φ) (k : ∀ d, Φ d → Φ' d) : WR K p r x y Φ' :=
  fun G H v u j dv du Q q => h G H v u j dv du Q fun w d G' H' x' j' dw hd => q w d G' H' x' j' dw (k d hd)
end

/-! ### names, constants -/
def vVar (i : Nat) : WE := fun E Φ => match geE E i with
  | .d d => Φ d
  | _ => False
def vC (d : PyData) : WE := fun _ Φ => Φ d
section
variable {X : Cx} {p : Option Addr} {e a b c : Expr} {es : List Expr} {ta tb tc : TE} {fa fb fc : WE} {tA : TA} {fA : WL} {pos : Pos}
theorem de_var {i : Nat} {x : Str} (hN : X.N[i]? = some x) (hv : Vis X.env.scope x) (hd : (x == ("__debug__" : Str)) = false := by decide) (hcd : (x == ("__classdict__" : Str)) = false := by decide) :
    DE X p (.Name x pos) (tVar i) (vVar i) := by
  refine ⟨pe_var hN hv hd hcd, fun E Φ h => ?_⟩
  unfold vVar at h
  split at h
  · rename_i d q
    exact W_var (geE_ok q Sl.noConfusion) h
  · exact h.elim
theorem de_int {i : Int} {j : Nat} : DE X p (.Constant (.int i) j pos) (tC (.int i)) (vC (.int i)) := ⟨pe_int, fun _ _ h => W_int h⟩
theorem de_bl {b : Bool} {j : Nat} : DE X p (.Constant (.bool b) j pos) (tC (.bl b)) (vC (.bool b)) := ⟨pe_bl, fun _ _ h => W_bl h⟩
theorem de_non {j : Nat} : DE X p (.Constant .none j pos) (tC .non) (vC .none) := ⟨pe_non, fun _ _ h => W_non h⟩
theorem de_str {x : Str} {j : Nat} : DE X p (.Constant (.str x) j pos) (tC (.str x)) (vC (.str x)) := ⟨pe_str, fun _ _ h => W_str h⟩
theorem de_con {x : Str} {v : V} {u : Value} {d : PyData} (hg : Gl X x) (hm : X.mg x = some u) (r : RelV v u) (hd : ∀ G, Dp X.K G v d) (hdb : (x == ("__debug__" : Str)) = false := by decide) :
    DE X p (.Name x pos) (tC v) (vC d) := ⟨pe_glob hg hm r hdb, fun _ _ h => W_con hd h⟩

/-! ### operators -/
def vOp (o : WO2) (f g : WE) : WE := fun E Φ => f E fun x => g E fun y => o x y Φ
theorem vOp_ok {K : PySem.W.Frag} {r : R2} {o : WO2} (ho : ∀ x y Φ, o x y Φ → WR K p r x y Φ) (ha : ∀ E Φ, fa E Φ → W K p E ta Φ) (hb : ∀ E Φ, fb E Φ → W K p E tb Φ) (E : Ev) (Φ : PyData → Prop)
    (h : vOp o fa fb E Φ) : W K p E (tOp r ta tb) Φ :=
  W_op ((ha E _ h).imp fun x hx => (hb E _ hx).imp fun y hy => ho x y Φ hy)
theorem de_op {op : Operator} {r : R2} {o : WO2} (ho : DO X (OpR X (binaryOp op)) r o) (ha : DE X p a ta fa) (hb : DE X p b tb fb) : DE X p (.BinOp a op b pos) (tOp r ta tb) (vOp o fa fb) :=
  ⟨pe_op ho.py ha.py hb.py, vOp_ok (ho.ok p) ha.ok hb.ok⟩
theorem de_cmp {op : CmpOp} {r : R2} {o : WO2} (ho : DO X (OpR X (compareOp op)) r o) (ha : DE X p a ta fa) (hb : DE X p b tb fb) (hm : behindInMarks op b = false) : DE X p (.Compare a [op] [b] pos) (tOp r ta tb) (vOp o fa fb) :=
  ⟨pe_cmpR ho.py ha.py hb.py hm, vOp_ok (ho.ok p) ha.ok hb.ok⟩
theorem de_ix {r : R2} {o : WO2} (ho : DO X (IxR X) r o) (ha : DE X p a ta fa) (hb : DE X p b tb fb) (hs : PlainIx b) : DE X p (.Subscript a b pos) (tOp r ta tb) (vOp o fa fb) :=
  ⟨pe_ix ho.py ha.py hb.py hs, vOp_ok (ho.ok p) ha.ok hb.ok⟩
def vTest (f : WE) : WB := fun E Θ => f E fun d => match d with
  | .bool b => Θ b
  | _ => False
theorem vTest_ok {K : PySem.W.Frag} (ha : ∀ E Φ, fa E Φ → W K p E ta Φ) (E : Ev) (Θ : Bool → Prop) (h : vTest fa E Θ) : W K p E ta fun x => ∃ b, x = .bool b ∧ Θ b :=
  (ha E _ h).imp fun x hx => by
    cases x with
    | bool b => exact ⟨b, rfl, hx⟩
    | _ => exact hx.elim
theorem dt_cmp {op : CmpOp} {r : R2} {o : WO2} (ho : DO X (OpR X (compareOp op)) r o) (ha : DE X p a ta fa) (hb : DE X p b tb fb) (hm : behindInMarks op b = false) : DT X p (.Compare a [op] [b] pos) (tTest (tOp r ta tb)) (vTest (vOp o fa fb)) :=
  ⟨pt_cmpR ho.py ha.py hb.py hm, fun E Θ h => WT_test (vTest_ok (vOp_ok (ho.ok p) ha.ok hb.ok) E Θ h)⟩

def oAdd : WO2 := fun x y Φ => match x, y with
  | .int a, .int b => Φ (.int (a + b))
  | .str a, .str b => a.length + b.length ≤ sizeLine ∧ Φ (.str (a ++ b))
  | .tuple a, .tuple b => a.length + b.length ≤ sizeLine ∧ Φ (.tuple (a ++ b))
  | .list a, .list b => a.length + b.length ≤ sizeLine ∧ Φ (.list (a ++ b))
  | _, _ => False
def oSub : WO2 := fun x y Φ => match x, y with
  | .int a, .int b => Φ (.int (a - b))
  | _, _ => False
def oMul : WO2 := fun x y Φ => match x, y with
  | .int a, .int b => (CMulX a b ∨ CMul a b) ∧ Φ (.int (a * b))
  | _, _ => False
def oDiv : WO2 := fun x y Φ => match x, y with
  | .int a, .int b => CDivX a b ∧ Φ (.int (a.fdiv b))
  | _, _ => False
def oMod : WO2 := fun x y Φ => match x, y with
  | .int a, .int b => 0 < b ∧ Φ (.int (a % b))
  | _, _ => False
def oPow : WO2 := fun x y Φ => match x, y with
  | .int a, .int b => CPow a b ∧ Φ (.int (a ^ b.toNat))
  | _, _ => False
def oLt : WO2 := fun x y Φ => match x, y with
  | .int a, .int b => Φ (.bool (decide (a < b)))
  | _, _ => False
def oLe : WO2 := fun x y Φ => match x, y with
  | .int a, .int b => Φ (.bool (decide (a ≤ b)))
  | _, _ => False
def oGt : WO2 := fun x y Φ => match x, y with
  | .int a, .int b => Φ (.bool (decide (b < a)))
  | _, _ => False
def oGe : WO2 := fun x y Φ => match x, y with
  | .int a, .int b => Φ (.bool (decide (b ≤ a)))
  | _, _ => False
def oEq : WO2 := fun x y Φ => match x, y with
  | .int a, .int b => Φ (.bool (decide (a = b)))
  | .str a, .str b => Φ (.bool (decide (a = b)))
  | x, y => SeqAt.shaped x = true ∧ SeqAt.shaped y = true ∧ Φ (.bool (PyData.eqv x y))
def oNe : WO2 := fun x y Φ => match x, y with
  | .int a, .int b => Φ (.bool (!decide (a = b)))
  | .str a, .str b => Φ (.bool (!decide (a = b)))
  | x, y => SeqAt.shaped x = true ∧ SeqAt.shaped y = true ∧ Φ (.bool (!PyData.eqv x y))
def isNone : PyData → Bool
  | .none => true
  | _ => false
def oIsN : WO2 := fun x y Φ => match y with
  | .none => Φ (.bool (isNone x))
  | .bool b => (match x with
    | .bool a => Φ (.bool (decide (a = b)))
    | _ => False)
  | _ => False
def oNotN : WO2 := fun x y Φ => match y with
  | .none => Φ (.bool (!isNone x))
  | .bool b => (match x with
    | .bool a => Φ (.bool (!decide (a = b)))
    | _ => False)
  | _ => False
def oIx : WO2 := fun x y Φ => match x, y with
  | .tuple ds, .int i => (match atI ds i with
    | some d => Φ d
    | none => False)
  | .list ds, .int i => (match atI ds i with
    | some d => Φ d
    | none => False)
  | _, _ => False
end

/-! ### what Python does of it -/
def rOr (r r' : R2) : R2 := fun x y H Q => r x y H Q ∨ r' x y H Q
section
variable {X : Cx} {f : Value → Value → Sem Value} {r r' : R2}
theorem opr_or (h : OpR X f r) (h' : OpR X f r') : OpR X f (rOr r r') := fun pins s σ H x y v u Q I rx ry q =>
  q.elim (fun q => h pins s σ H x y v u Q I rx ry q) fun q => h' pins s σ H x y v u Q I rx ry q
end
section
variable {K : PySem.W.Frag} {p : Option Addr} {r r' : R2} {x y : PyData} {Φ : PyData → Prop}
theorem WR.inl (h : WR K p r x y Φ) : WR K p (rOr r r') x y Φ := fun G H v u j dv du Q q => Or.inl (h G H v u j dv du Q q)
theorem WR.inr (h : WR K p r' x y Φ) : WR K p (rOr r r') x y Φ := fun G H v u j dv du Q q => Or.inr (h G H v u j dv du Q q)
/-- lists of any standing -/
def rCatS (K : PySem.W.Frag) : R2 := fun x y H Q => ∃ l b xs ys, x = .ref l ∧ y = .ref b ∧ SqL K H l xs ∧ SqL K H b ys ∧ (xs.length ≤ sizeLine → ys.length ≤ sizeLine → xs.length + ys.length ≤ sizeLine) ∧
  ∀ q, H q = none → Q (.ref q) (upd H q (.lst (xs ++ ys)))
theorem op_catS {X : Cx} : OpR X (binaryOp .Add) (rCatS X.K) := by
  intro pins s σ H x y v u Q I rx ry h
  obtain ⟨l, b, xs, ys, rfl, rfl, h1, h2, hz0, q⟩ := h
  cases rx
  cases ry
  obtain ⟨its, r1, ⟨o, n, e1, c1, d1, s1⟩, z1⟩ := I.list h1
  obtain ⟨its2, r2, ⟨o2, n2, e2, c2, d2, s2⟩, z2⟩ := I.list h2
  have hz := hz0 z1 z2
  obtain ⟨oc, od, oa, os⟩ := o
  obtain ⟨oc2, od2, oa2, os2⟩ := o2
  cases c1
  cases d1
  cases s1
  cases c2
  cases d2
  cases s2
  have ea : its.toArray ++ its2.toArray = (its ++ its2).toArray := by simp
  have hz3 : its.toArray.size + its2.toArray.size ≤ sizeLine := by
    rw [List.size_toArray, List.size_toArray, ← r1.length, ← r2.length]
    exact hz
  refine concat_meets ⟨_, e1, rfl⟩ ⟨_, e2, rfl⟩ PySem.noFill_list_add PySem.seq_list_add PySem.F.slot_list_add PySem.F.entry_list_add (PySem.F.args_list_add_2 _ _) (PyProof.Rows.list_addW l b its.toArray its2.toArray n n2 none none os os2 hz3) ⟨e1, e2, ?_⟩
  rw [ea]
  exact ⟨.ref _, _, I.lnew (t' := s.toks) (r1.append r2) (by rw [List.length_append]; exact hz), rfl, q _ I.fresh⟩
theorem WR_catS {a b : List PyData} (hz : a.length + b.length ≤ sizeLine) (q : Φ (.list (a ++ b))) : WR K p (rCatS K) (.list a) (.list b) Φ := by
  intro G H v u j dv du Q z
  obtain ⟨l, xs, rfl, h1, d1⟩ := dp_lst dv
  obtain ⟨m, ys, rfl, h2, d2⟩ := dp_lst du
  refine ⟨l, m, xs, ys, rfl, rfl, j.sub.seq h1, j.sub.seq h2, fun _ _ => by rw [dpA_len d1, dpA_len d2]; exact hz, fun n hn => ?_⟩
  have x2 := Xt.laid (p := p) j (o := .lst (xs ++ ys)) hn
  exact z _ _ _ _ x2 (j.laid hn) (.lst (SqL.of upd_same) (dpA_append (dpA_mono x2.gg a xs d1) (dpA_mono x2.gg b ys d2))) q
theorem WR_catA {a b : List PyData} (hz : a.length + b.length ≤ sizeLine) (q : Φ (.tuple (a ++ b))) : WR K p (rCatA K) (.tuple a) (.tuple b) Φ := by
  intro G H v u j dv du Q z
  obtain ⟨l, xs, rfl, h1, d1⟩ := dp_tup dv
  obtain ⟨m, ys, rfl, h2, d2⟩ := dp_tup du
  have n1 : xs = [] → a = [] := fun e => List.eq_nil_of_length_eq_zero (by rw [← dpA_len d1, e]; rfl)
  have n2 : ys = [] → b = [] := fun e => List.eq_nil_of_length_eq_zero (by rw [← dpA_len d2, e]; rfl)
  refine ⟨l, m, xs, ys, rfl, rfl, sqT_mono j.sub h1, sqT_mono j.sub h2, by rw [dpA_len d1, dpA_len d2]; exact hz, fun e => ?_, fun _ e => ?_, fun _ _ n hn => ?_⟩
  · rw [n1 e] at q
    exact z _ (.tuple b) G H Xt.refl j (.tup h2 d2) q
  · rw [n2 e, List.append_nil] at q
    exact z _ (.tuple a) G H Xt.refl j (.tup h1 d1) q
  · have x2 := Xt.laid (p := p) j (o := .tup (xs ++ ys)) hn
    exact z _ _ _ _ x2 (j.laid hn) (.tup (SqT.of upd_same) (dpA_append (dpA_mono x2.gg a xs d1) (dpA_mono x2.gg b ys d2))) q
def rAddS : R2 := fun x y H Q => ∃ i j, x = .str i ∧ y = .str j ∧ i.length + j.length ≤ sizeLine ∧ Q (.str (i ++ j)) H
theorem WR_addS {a b : Str} (hz : a.length + b.length ≤ sizeLine) (q : Φ (.str (a ++ b))) : WR K p rAddS (.str a) (.str b) Φ := by
  intro G H v u j dv du Q z
  exact ⟨a, b, dp_str dv, dp_str du, hz, z _ (.str _) G H Xt.refl j (.str _) q⟩
theorem WR_mulS2 {i k : Int} (c : CMul i k) (q : Φ (.int (i * k))) : WR K p rMulS (.int i) (.int k) Φ := WR_I c rfl q
def rIsN0 : R2 := fun x y H Q => y = .non ∧ Q (.bl (decide (x = .non))) H
def rNotN0 : R2 := fun x y H Q => y = .non ∧ Q (.bl (!decide (x = .non))) H
theorem isn_dp {G : Hp} {v : V} (h : Dp K G v x) : decide (v = V.non) = isNone x := by
  cases h with
  | non => rfl
  | _ => exact decide_eq_false (by intro z; cases z)
theorem WR_isN (q : Φ (.bool (isNone x))) : WR K p rIsN0 x .none Φ := by
  intro G H v u j dv du Q z
  cases du
  refine ⟨rfl, ?_⟩
  rw [isn_dp dv]
  exact z _ _ G H Xt.refl j (.bl _) q
theorem WR_isB {a b : Bool} (q : Φ (.bool (decide (a = b)))) : WR K p rIsB (.bool a) (.bool b) Φ := by
  intro G H v u j dv du Q z
  exact ⟨a, b, dp_bl dv, dp_bl du, z _ _ G H Xt.refl j (.bl _) q⟩
theorem WR_notB {a b : Bool} (q : Φ (.bool (!decide (a = b)))) : WR K p rNotB (.bool a) (.bool b) Φ := by
  intro G H v u j dv du Q z
  exact ⟨a, b, dp_bl dv, dp_bl du, z _ _ G H Xt.refl j (.bl _) q⟩
theorem WR_notN (q : Φ (.bool (!isNone x))) : WR K p rNotN0 x .none Φ := by
  intro G H v u j dv du Q z
  cases du
  refine ⟨rfl, ?_⟩
  rw [isn_dp dv]
  exact z _ _ G H Xt.refl j (.bl _) q
end
section
variable {X : Cx}
theorem do_add : DO X (OpR X (binaryOp .Add)) (rOr rAdd (rOr rAddS (rOr (rCatA X.K) (rCatS X.K)))) oAdd := by
  refine ⟨opr_or op_add (opr_or op_add_str (opr_or op_catA op_catS)), fun p x y Φ h => ?_⟩
  cases x <;> cases y <;> first
    | exact h.elim
    | exact (WR_add h).inl
    | exact (WR_addS h.1 h.2).inl.inr
    | exact (WR_catA h.1 h.2).inl.inr.inr
    | exact (WR_catS h.1 h.2).inr.inr.inr
theorem do_sub : DO X (OpR X (binaryOp .Sub)) rSub oSub := by
  refine ⟨op_sub, fun p x y Φ h => ?_⟩
  cases x <;> cases y <;> first
    | exact h.elim
    | exact WR_sub h
theorem do_mul : DO X (OpR X (binaryOp .Mult)) (rOr rMul rMulS) oMul := by
  refine ⟨opr_or op_mulX op_mul, fun p x y Φ h => ?_⟩
  cases x <;> cases y <;> first
    | exact h.elim
    | exact h.1.elim (fun c => (WR_mul c h.2).inl) fun c => (WR_mulS2 c h.2).inr
theorem do_div : DO X (OpR X (binaryOp .FloorDiv)) rDiv oDiv := by
  refine ⟨op_fdivX, fun p x y Φ h => ?_⟩
  cases x <;> cases y <;> first
    | exact h.elim
    | exact WR_div h.1 h.2
theorem do_mod : DO X (OpR X (binaryOp .Mod)) rMod oMod := by
  refine ⟨op_mod, fun p x y Φ h => ?_⟩
  cases x <;> cases y <;> first
    | exact h.elim
    | exact WR_mod h.1 h.2
theorem do_pow : DO X (OpR X (binaryOp .Pow)) rPow oPow := by
  refine ⟨op_pow, fun p x y Φ h => ?_⟩
  cases x <;> cases y <;> first
    | exact h.elim
    | exact WR_pow h.1 h.2
theorem do_lt : DO X (OpR X (compareOp .Lt)) rLt oLt := by
  refine ⟨op_lt, fun p x y Φ h => ?_⟩
  cases x <;> cases y <;> first
    | exact h.elim
    | exact WR_lt h
theorem do_le : DO X (OpR X (compareOp .LtE)) rLe oLe := by
  refine ⟨op_le, fun p x y Φ h => ?_⟩
  cases x <;> cases y <;> first
    | exact h.elim
    | exact WR_le h
theorem do_gt : DO X (OpR X (compareOp .Gt)) rGt oGt := by
  refine ⟨op_gt, fun p x y Φ h => ?_⟩
  cases x <;> cases y <;> first
    | exact h.elim
    | exact WR_gt h
theorem do_ge : DO X (OpR X (compareOp .GtE)) rGe oGe := by
  refine ⟨op_ge, fun p x y Φ h => ?_⟩
  cases x <;> cases y <;> first
    | exact h.elim
    | exact WR_ge h
theorem do_eq (hu : X.A.units + 64 < cLine) : DO X (OpR X (compareOp .Eq)) (rOr rEq (rEqD X.K)) oEq := by
  refine ⟨opr_or op_eq (op_eqD hu), fun p x y Φ h => ?_⟩
  cases x <;> cases y <;> first
    | exact (WR_eqI h).inl
    | exact (WR_eqS h).inl
    | exact (WR_eqD h.1 h.2.1 h.2.2).inr
theorem do_ne (hu : X.A.units + 64 < cLine) : DO X (OpR X (compareOp .NotEq)) (rOr rNe (rNeD X.K)) oNe := by
  refine ⟨opr_or op_ne (op_neD hu), fun p x y Φ h => ?_⟩
  cases x <;> cases y <;> first
    | exact (WR_neI h).inl
    | exact (WR_neS h).inl
    | exact (WR_neD h.1 h.2.1 h.2.2).inr
theorem do_isN : DO X (OpR X (compareOp .Is)) (rOr rIsN0 rIsB) oIsN := by
  refine ⟨opr_or op_isN op_isBl, fun p x y Φ h => ?_⟩
  cases y <;> first
    | exact h.elim
    | exact (WR_isN h).inl
    | (cases x <;> first
      | exact h.elim
      | exact (WR_isB h).inr)
theorem do_notN : DO X (OpR X (compareOp .IsNot)) (rOr rNotN0 rNotB) oNotN := by
  refine ⟨opr_or op_notN op_notBl, fun p x y Φ h => ?_⟩
  cases y <;> first
    | exact h.elim
    | exact (WR_notN h).inl
    | (cases x <;> first
      | exact h.elim
      | exact (WR_notB h).inr)
def rIx2 (K : PySem.W.Frag) : R2 := rOr (rIxT K) (rIxL K)
theorem ix_or {r r' : R2} (h : IxR X r) (h' : IxR X r') : IxR X (rOr r r') := fun a b pins s σ H x y v u Q I rx ry q =>
  q.elim (fun q => h a b pins s σ H x y v u Q I rx ry q) fun q => h' a b pins s σ H x y v u Q I rx ry q
theorem do_ix : DO X (IxR X) (rIx2 X.K) oIx := by
  refine ⟨ix_or ix_tup ix_list, fun p x y Φ h => ?_⟩
  cases x with
  | tuple ds =>
    cases y with
    | int i =>
      have h2 : (match atI ds i with
        | some d => Φ d
        | none => False) := h
      split at h2 <;> rename_i z
      · exact (WR_ixT z h2).inl
      · exact h2.elim
    | _ => exact h.elim
  | list ds =>
    cases y with
    | int i =>
      have h2 : (match atI ds i with
        | some d => Φ d
        | none => False) := h
      split at h2 <;> rename_i z
      · exact (WR_ixL z h2).inr
      · exact h2.elim
    | _ => exact h.elim
  | _ => exact h.elim
end
end Rim

/-! RimE: arguments, displays, tests, calls, built-ins, slices. -/
namespace Rim
open PySem PySem.Spec L2
variable [Tabs]

def ifB (k : Bool) (a b : Prop) : Prop := match k with
  | true => a
  | false => b
theorem ifB_t {a b : Prop} : ifB true a b = a := rfl
theorem ifB_f {a b : Prop} : ifB false a b = b := rfl
theorem ifB_in {k : Bool} {a b : Prop} (ht : k = true → a) (hf : k = false → b) : ifB k a b := by
  cases k
  · exact hf rfl
  · exact ht rfl
theorem ifB_to {k : Bool} {a b : Prop} (h : ifB k a b) : (k = true → a) ∧ (k = false → b) := by
  cases k
  · exact ⟨fun z => Bool.noConfusion z, fun _ => h⟩
  · exact ⟨fun _ => h, fun z => Bool.noConfusion z⟩

section
variable {X : Cx} {p : Option Addr} {e a b c : Expr} {es : List Expr} {te ta tb tc : TE} {fe fa fb fc : WE} {tA : TA} {fA : WL} {pos : Pos} {tt tu : TT} {ft fu : WB} {gM : WL}

/-! ### own lists as data -/
def vOf (f : WL) : WE := fun E Φ => f E fun ds => Φ (.list ds)
theorem de_of (h : DM X p e te gM) : DE X p e te (vOf gM) := ⟨h.py, fun E Φ q => W_of_WM (h.ok E _ q)⟩

/-! ### arguments -/
def vNil : WL := fun _ Ψ => Ψ []
def vCons (f : WE) (g : WL) : WL := fun E Ψ => f E fun x => g E fun xs => Ψ (x :: xs)
theorem da_nil : DA X p [] tNil vNil := ⟨pa_nil, fun _ _ h => WA_nil ⟨rfl, h⟩⟩
theorem da_cons (he : DE X p e te fe) (hr : DA X p es tA fA) (hs : starEach (e :: es) X.env = (false, eval e X.env) :: starEach es X.env := by rfl) : DA X p (e :: es) (tCons te tA) (vCons fe fA) :=
  ⟨pa_cons he.py hr.py hs, fun E Ψ h => WA_cons ((he.ok E _ h).imp fun x hx => (hr.ok E _ hx).imp fun xs hxs => ⟨by rw [List.length_cons, List.length_cons, hxs.1], hxs.2⟩)⟩
def vTup (f : WL) : WE := fun E Φ => f E fun xs => Φ (.tuple xs)
theorem de_tup {k : Nat} (h : DA X p es tA fA) (hz : Nat.ble es.length 1000 = true := by rfl) : DE X p (.Tuple es k pos) (tTup tA) (vTup fA) :=
  ⟨pe_tup h.py, fun E Φ q => W_tup ((h.ok E _ q).imp fun xs hx => ⟨by rw [hx.1]; exact szl_of hz, hx.2⟩)⟩
theorem dm_lst (h : DA X p es tA fA) (hz : Nat.ble es.length 1000 = true := by rfl) : DM X p (.List es pos) (tLst tA) fA :=
  ⟨pe_lst h.py, fun E Ψ q => WM_lst ((h.ok E _ q).imp fun xs hx => ⟨by rw [hx.1]; exact szl_of hz, hx.2⟩)⟩

/-! ### tests -/
theorem dt_val (h : DE X p e te fe) (he : ∀ whole, isTrue e X.env whole = (do let v ← whole; standAt e.pos; holding [v] (truthy v)) := by intro _; rfl) : DT X p e (tB te) (vTest fe) :=
  ⟨pt_val h.py he, fun E Θ q => WT_B (vTest_ok h.ok E Θ q)⟩
/-- any value's truth -/
def truD (d : PyData) (Θ : Bool → Prop) : Prop := match d with
  | .none => Θ false
  | .bool b => Θ b
  | .int i => Θ (i != 0)
  | .list ds => Θ (!ds.isEmpty)
  | .tuple ds => Θ (!ds.isEmpty)
  | _ => False
def vTru (f : WE) : WB := fun E Θ => f E fun d => truD d Θ
theorem isEmpty_len {α β : Type} {xs : List α} {ys : List β} (h : xs.length = ys.length) : xs.isEmpty = ys.isEmpty := by
  cases xs <;> cases ys <;> simp_all
theorem tru_dp {K : PySem.W.Frag} {G H : Hp} {v : V} {d : PyData} {Θ : Bool → Prop} (s : Same G H) (dv : Dp K G v d) (h : truD d Θ) : ∃ k, TruV K v H k ∧ Θ k := by
  cases d with
  | none => cases dv; exact ⟨false, rfl, h⟩
  | bool b => cases dv; exact ⟨b, rfl, h⟩
  | int i => cases dv; exact ⟨_, rfl, h⟩
  | list ds =>
    obtain ⟨l, xs, rfl, hs, ha⟩ := dp_lst dv
    refine ⟨_, Or.inl ⟨xs, s.seq hs, rfl⟩, ?_⟩
    rw [isEmpty_len (dpA_len ha)]
    exact h
  | tuple ds =>
    obtain ⟨l, xs, rfl, hs, ha⟩ := dp_tup dv
    refine ⟨_, Or.inr (Or.inl ⟨xs, sqT_mono s hs, rfl⟩), ?_⟩
    rw [isEmpty_len (dpA_len ha)]
    exact h
  | _ => exact h.elim
def tTru (K : PySem.W.Frag) (t : TE) : TT := fun σ H Q => t σ H fun x H' => ∃ k, TruV K x H' k ∧ Q k H'
theorem WT_tru {K : PySem.W.Frag} {E : Ev} {Θ : Bool → Prop} (h : W K p E te fun d => truD d Θ) : WT K p E (tTru K te) Θ := by
  intro H0 G H σ j e Q q
  refine h H0 G H σ j e _ fun v d G1 H1 x1 j1 dv h1 => ?_
  obtain ⟨k, hk, ht⟩ := tru_dp j1.sub dv h1
  exact ⟨k, hk, q k G1 H1 x1 j1 ht⟩
theorem dt_tru (h : DE X p e te fe) (he : ∀ whole, isTrue e X.env whole = (do let v ← whole; standAt e.pos; holding [v] (truthy v)) := by intro _; rfl) : DT X p e (tTru X.K te) (vTru fe) :=
  ⟨pt_truth h.py he, fun E Θ q => WT_tru (h.ok E _ q)⟩
/-- the truth of a list of one's own -/
def vTruV (i : Nat) : WB := fun E Θ => match geE E i with
  | .m ds => Θ (!ds.isEmpty)
  | .d d => vTru (vC d) E Θ
  | _ => False
theorem dt_truV {i : Nat} {x : Str} (hN : X.N[i]? = some x) (hv : Vis X.env.scope x) (hd : (x == ("__debug__" : Str)) = false := by decide) (hcd : (x == ("__classdict__" : Str)) = false := by decide)
    (he : ∀ whole, isTrue (.Name x pos) X.env whole = (do let v ← whole; standAt (Expr.Name x pos).pos; holding [v] (truthy v)) := by intro _; rfl) : DT X p (.Name x pos) (tTru X.K (tVar i)) (vTruV i) := by
  refine ⟨pt_truth (pe_var hN hv hd hcd) he, fun E Θ h => ?_⟩
  unfold vTruV at h
  split at h
  · rename_i ds q
    intro H0 G H σ j e Q z
    obtain ⟨l, vs, h1, h2, h3, _⟩ := e.own (geE_ok q Sl.noConfusion)
    refine ⟨_, h1, !ds.isEmpty, Or.inl ⟨vs, SqL.of h2, ?_⟩, z _ G H Xt.refl j h⟩
    rw [isEmpty_len (dpA_len h3)]
  · rename_i d q
    exact WT_tru (W_var (geE_ok q Sl.noConfusion) h)
  · exact h.elim
def vNot (f : WB) : WB := fun E Θ => f E fun b => Θ (!b)
theorem dt_not (h : DT X p e tt ft) : DT X p (.UnaryOp .Not e pos) (tNot tt) (vNot ft) := ⟨pt_not h.py, fun E Θ q => WT_not (h.ok E _ q)⟩
def vAnd (f g : WB) : WB := fun E Θ => f E fun b => ifB b (g E Θ) (Θ false)
def vOr (f g : WB) : WB := fun E Θ => f E fun b => ifB b (Θ true) (g E Θ)
theorem dw_and1 (h : DT X p a tt ft) : DW X p (.BoolOp .And [a] pos) tt ft := ⟨pw_and1 h.py, h.ok⟩
theorem dw_or1 (h : DT X p a tt ft) : DW X p (.BoolOp .Or [a] pos) tt ft := ⟨pw_or1 h.py, h.ok⟩
theorem dw_and {rest : List Expr} (h : DT X p a tt ft) (k : DW X p (.BoolOp .And (b :: rest) pos) tu fu) : DW X p (.BoolOp .And (a :: b :: rest) pos) (tAnd tt tu) (vAnd ft fu) :=
  ⟨pw_and h.py k.py, fun E Θ q => WT_and ((h.ok E _ q).imp fun x hx => ⟨fun z => k.ok E Θ ((ifB_to hx).1 z), (ifB_to hx).2⟩)⟩
theorem dw_or {rest : List Expr} (h : DT X p a tt ft) (k : DW X p (.BoolOp .Or (b :: rest) pos) tu fu) : DW X p (.BoolOp .Or (a :: b :: rest) pos) (tOr tt tu) (vOr ft fu) :=
  ⟨pw_or h.py k.py, fun E Θ q => WT_or ((h.ok E _ q).imp fun x hx => ⟨(ifB_to hx).1, fun z => k.ok E Θ ((ifB_to hx).2 z)⟩)⟩
theorem dt_w (h : DW X p e tt ft) : DT X p e tt ft := ⟨h.py.pt, h.ok⟩

/-! ### values of tests -/
def booD (d : PyData) (Θ : Bool → Prop) : Prop := match d with
  | .bool b => Θ b
  | _ => False
def vNotV (f : WE) : WE := fun E Φ => f E fun d => booD d fun b => Φ (.bool (!b))
def vAndV (f g : WE) : WE := fun E Φ => f E fun d => booD d fun b => ifB b (g E Φ) (Φ (.bool false))
def vOrV (f g : WE) : WE := fun E Φ => f E fun d => booD d fun b => ifB b (Φ (.bool true)) (g E Φ)
theorem bool_of {Θ : Bool → Prop} {d : PyData} (h : booD d Θ) : ∃ b, d = .bool b ∧ Θ b := by
  cases d with
  | bool b => exact ⟨b, rfl, h⟩
  | _ => exact h.elim
theorem de_not (h : DE X p a ta fa) : DE X p (.UnaryOp .Not a pos) (tNotV ta) (vNotV fa) := ⟨pe_not h.py, fun E Φ q => W_notV ((h.ok E _ q).imp fun x hx => bool_of (Θ := fun b => Φ (.bool (!b))) hx)⟩
theorem de_one {op : BoolOp} (h : DE X p a ta fa) : DE X p (.BoolOp op [a] pos) ta fa := ⟨pe_one h.py, h.ok⟩
theorem de_and {rest : List Expr} (h : DE X p a ta fa) (k : DE X p (.BoolOp .And (b :: rest) pos) tb fb) : DE X p (.BoolOp .And (a :: b :: rest) pos) (tAndV ta tb) (vAndV fa fb) :=
  ⟨pe_and h.py k.py, fun E Φ q => W_andV ((h.ok E _ q).imp fun x hx => by
    obtain ⟨c, rfl, hc⟩ := bool_of (Θ := fun c => ifB c (fb E Φ) (Φ (.bool false))) hx
    exact ⟨c, rfl, fun z => k.ok E Φ ((ifB_to hc).1 z), (ifB_to hc).2⟩)⟩
theorem de_or {rest : List Expr} (h : DE X p a ta fa) (k : DE X p (.BoolOp .Or (b :: rest) pos) tb fb) : DE X p (.BoolOp .Or (a :: b :: rest) pos) (tOrV ta tb) (vOrV fa fb) :=
  ⟨pe_or h.py k.py, fun E Φ q => W_orV ((h.ok E _ q).imp fun x hx => by
    obtain ⟨c, rfl, hc⟩ := bool_of (Θ := fun c => ifB c (Φ (.bool true)) (fb E Φ)) hx
    exact ⟨c, rfl, (ifB_to hc).1, fun z => k.ok E Φ ((ifB_to hc).2 z)⟩)⟩
def vIf (f : WB) (g h : WE) : WE := fun E Φ => f E fun b => ifB b (g E Φ) (h E Φ)
theorem de_if (hc : DT X p c tt ft) (ha : DE X p a ta fa) (hb : DE X p b tb fb) : DE X p (.IfExp c a b pos) (tIf tt ta tb) (vIf ft fa fb) :=
  ⟨pe_ifExp hc.py ha.py hb.py, fun E Φ q => W_if ((hc.ok E _ q).imp fun x hx => ⟨fun z => ha.ok E Φ ((ifB_to hx).1 z), fun z => hb.ok E Φ ((ifB_to hx).2 z)⟩)⟩
def vNeg (f : WE) : WE := fun E Φ => f E fun d => match d with
  | .int i => Φ (.int (-i))
  | _ => False
theorem de_neg (h : DE X p a ta fa) : DE X p (.UnaryOp .USub a pos) (tUn (rU fun i => .int (-i)) ta) (vNeg fa) :=
  ⟨pe_un un_neg h.py, fun E Φ q => W_neg ((h.ok E _ q).imp fun x hx => by
    cases x with
    | int i => exact ⟨i, rfl, hx⟩
    | _ => exact hx.elim)⟩

/-! ### a place in a list of one's own -/
def vIxV (i : Nat) (f : WE) : WE := fun E Φ => match geE E i with
  | .d d => f E fun y => oIx d y Φ
  | .m ds => f E fun y => oIx (.list ds) y Φ
  | _ => False
theorem W_inr {K : PySem.W.Frag} {E : Ev} {Φ : PyData → Prop} {r r' : R2} (h : W K p E (tOp r' ta tb) Φ) (m : ∀ (σ : L2.St) (H : Hp) (Q Q' : VK), (∀ v H, Q v H → Q' v H) → ta σ H Q → ta σ H Q')
    (n : ∀ (σ : L2.St) (H : Hp) (Q Q' : VK), (∀ v H, Q v H → Q' v H) → tb σ H Q → tb σ H Q') : W K p E (tOp (rOr r r') ta tb) Φ := fun H0 G H σ j e Q q =>
  m σ H _ _ (fun v H1 h1 => n σ H1 _ _ (fun u H2 h2 => Or.inr h2) h1) (h H0 G H σ j e Q q)
theorem W_ixV {K : PySem.W.Frag} {E : Ev} {Φ : PyData → Prop} {i : Nat} {ds : List PyData} (hs : E[i]? = some (.m ds)) (h : W K p E tb fun y => oIx (.list ds) y Φ) : W K p E (tOp (rIx2 K) (tVar i) tb) Φ := by
  intro H0 G H σ j e Q q
  obtain ⟨l, vs, z1, z2, z3, z4, z5, z6⟩ := e.own hs
  refine ⟨_, z1, h H0 G H σ j e _ fun u y G1 H1 x1 j1 du h1 => ?_⟩
  cases y with
  | int k =>
    have h2 : (match atI ds k with
      | some d => Φ d
      | none => False) := h1
    split at h2 <;> rename_i w
    · obtain ⟨v, hv, dv⟩ := at_of_ds (dpA_mono x1.gg ds vs z3) w
      exact Or.inr ⟨l, vs, k, v, rfl, dp_int du, SqL.of (x1.hh l _ z5 (fun _ z => by cases z) z2), hv, q v _ G1 H1 x1 j1 dv h2⟩
    · exact h2.elim
  | _ => exact h1.elim
theorem de_ixV {i : Nat} {x : Str} {p1 : Pos} (hN : X.N[i]? = some x) (hv : Vis X.env.scope x) (hb : DE X p b tb fb) (hs : PlainIx b) (hd : (x == ("__debug__" : Str)) = false := by decide) (hcd : (x == ("__classdict__" : Str)) = false := by decide) :
    DE X p (.Subscript (.Name x p1) b pos) (tOp (rIx2 X.K) (tVar i) tb) (vIxV i fb) := by
  refine ⟨pe_ix do_ix.py (pe_var hN hv hd hcd) hb.py hs, fun E Φ h => ?_⟩
  unfold vIxV at h
  split at h
  · rename_i d q
    exact W_op (W_var (geE_ok q Sl.noConfusion) ((hb.ok E _ h).imp fun y hy => do_ix.ok p d y Φ hy))
  · rename_i ds q
    exact W_ixV (geE_ok q Sl.noConfusion) (hb.ok E _ h)
  · exact h.elim
end
end Rim

/-! RimF: a list of one's own looked at; calls; built-ins; slices. -/
namespace Rim
open PySem PySem.Spec L2
variable [Tabs]

/-! ### a list of one's own, looked at while nothing keeps it -/
def flD : PyData → Bool
  | .none | .bool _ | .int _ | .str _ => true
  | _ => false
section
variable {K : PySem.W.Frag} {p : Option Addr} {H0 G H : Hp} {σ : L2.St} {E : Ev}
theorem flat_dp {G G' : Hp} {v : V} {d : PyData} (h : flD d = true) (k : Dp K G' v d) : Dp K G v d := by
  cases k with
  | non => exact .non
  | bl b => exact .bl b
  | int i => exact .int i
  | str x => exact .str x
  | _ => cases h
def moE : Ev → Nat → List PyData → Ev
  | [], _, _ => []
  | _ :: E, 0, ds => .d (.list ds) :: E
  | x :: E, i + 1, ds => x :: moE E i ds
theorem moE_eq : ∀ {E : Ev} {i : Nat} {ds : List PyData}, moE E i ds = E.set i (.d (.list ds))
  | [], _, _ => rfl
  | _ :: _, 0, _ => rfl
  | x :: E, i + 1, ds => congrArg (x :: ·) (moE_eq (E := E))
theorem EnvOk.view (e : EnvOk K p H0 G H σ E) {i : Nat} {ds : List PyData} (hs : E[i]? = some (.m ds)) {l : Addr} {vs : List V} (h1 : σ[i]? = some (some (.ref l))) (h2 : H l = some (.lst vs)) (h3 : DpAll K G vs ds)
    (h4 : G l = none) : EnvOk K p H0 (upd G l (.lst vs)) H σ (E.set i (.d (.list ds))) := by
  have e1 : Same G (upd G l (.lst vs)) := fun a o z => by
    rw [upd_ne (ne_of_none z h4)]
    exact z
  have hE : i < E.length := (List.getElem?_eq_some_iff.mp hs).1
  refine ⟨by rw [List.length_set]; exact e.len, fun k s hk => ?_, fun a b ds' es m hab ha hb z1 => ?_⟩
  · rw [get_set hE] at hk
    by_cases w : k = i
    · rw [if_pos w] at hk
      cases hk
      exact ⟨.ref l, by rw [w]; exact h1, .lst (SqL.of upd_same) (dpA_mono e1 ds vs h3)⟩
    · rw [if_neg w] at hk
      have z := e.at_ k s hk
      cases s with
      | un => trivial
      | v v => exact z
      | d d =>
        obtain ⟨v, z1, z2⟩ := z
        exact ⟨v, z1, dp_mono e1 d v z2⟩
      | m es =>
        obtain ⟨m, us, z1, z2, z3, z4, z5⟩ := z
        have hne : m ≠ l := fun y => e.ap i k ds es l (Ne.symm w) hs hk h1 (by rw [← y]; exact z1)
        exact ⟨m, us, z1, z2, dpA_mono e1 es us z3, by rw [upd_ne hne]; exact z4, z5⟩
  · rw [get_set hE] at ha hb
    by_cases qa : a = i
    · rw [if_pos qa] at ha
      cases ha
    · by_cases qb : b = i
      · rw [if_pos qb] at hb
        cases hb
      · rw [if_neg qa] at ha
        rw [if_neg qb] at hb
        exact e.ap a b ds' es m hab ha hb z1
end
section
variable {X : Cx} {p : Option Addr} {e a b c : Expr} {es : List Expr} {te ta tb tc : TE} {fe fa fb fc : WE} {tA : TA} {fA : WL} {pos : Pos} {tt tu : TT} {ft fu : WB} {gM : WL}
/-- e with the list at i looked at: what comes is flat -/
def vView (i : Nat) (f : WE) : WE := fun E Φ => match geE E i with
  | .m ds => f (moE E i ds) fun d => flD d = true ∧ Φ d
  | _ => f E Φ
theorem W_view {K : PySem.W.Frag} {E : Ev} {Φ : PyData → Prop} {i : Nat} {ds : List PyData} (hs : E[i]? = some (.m ds)) (h : W K p (E.set i (.d (.list ds))) te fun d => flD d = true ∧ Φ d) : W K p E te Φ := by
  intro H0 G H σ j e Q q
  obtain ⟨l, vs, h1, h2, h3, h4, h5, h6⟩ := e.own hs
  refine h H0 (upd G l (.lst vs)) H σ (j.frozen h2 h5) (e.view hs h1 h2 h3 h4) Q fun v d G' H' x' j' dv hd => ?_
  have s1 : Same G (upd G l (.lst vs)) := fun a o z => by
    rw [upd_ne (ne_of_none z h4)]
    exact z
  exact q v d G H' ⟨Same.refl G, x'.hh, x'.tb, fun _ _ _ z => z⟩ ⟨(s1.trans x'.gg).trans j'.sub, fun a ha => ⟨(j.pl a ha).1, (j'.pl a ha).2⟩, fun a ha => ⟨(j.tt a ha).1, (j'.tt a ha).2⟩⟩ (flat_dp hd.1 dv) hd.2
theorem de_view (i : Nat) (h : DE X p e te fe) : DE X p e te (vView i fe) := by
  refine ⟨h.py, fun E Φ q => ?_⟩
  unfold vView at q
  split at q
  · rename_i ds w
    rw [moE_eq] at q
    exact W_view (geE_ok w Sl.noConfusion) (h.ok _ _ q)
  · exact h.ok E Φ q
def vViewT (i : Nat) (f : WB) : WB := fun E Θ => match geE E i with
  | .m ds => f (moE E i ds) Θ
  | _ => f E Θ
theorem WT_view {K : PySem.W.Frag} {E : Ev} {Θ : Bool → Prop} {i : Nat} {ds : List PyData} (hs : E[i]? = some (.m ds)) (h : WT K p (E.set i (.d (.list ds))) tt Θ) : WT K p E tt Θ := by
  intro H0 G H σ j e Q q
  obtain ⟨l, vs, h1, h2, h3, h4, h5, h6⟩ := e.own hs
  refine h H0 (upd G l (.lst vs)) H σ (j.frozen h2 h5) (e.view hs h1 h2 h3 h4) Q fun b G' H' x' j' hd => ?_
  have s1 : Same G (upd G l (.lst vs)) := fun a o z => by
    rw [upd_ne (ne_of_none z h4)]
    exact z
  exact q b G H' ⟨Same.refl G, x'.hh, x'.tb, fun _ _ _ z => z⟩ ⟨(s1.trans x'.gg).trans j'.sub, fun a ha => ⟨(j.pl a ha).1, (j'.pl a ha).2⟩, fun a ha => ⟨(j.tt a ha).1, (j'.tt a ha).2⟩⟩ hd
theorem dt_view (i : Nat) (h : DT X p e tt ft) : DT X p e tt (vViewT i ft) := by
  refine ⟨h.py, fun E Φ q => ?_⟩
  unfold vViewT at q
  split at q
  · rename_i ds w
    rw [moE_eq] at q
    exact WT_view (geE_ok w Sl.noConfusion) (h.ok _ _ q)
  · exact h.ok E Φ q

/-! ### built-ins -/
structure DB (X : Cx) (f : Value) (r : List V → Hp → VK → Prop) (o : WF) : Prop where
  py : CallR X f r
  ok : ∀ p xs Φ, o xs Φ → WC X.K p r xs Φ
def vB (o : WF) (f : WL) : WE := fun E Φ => f E fun xs => o xs Φ
theorem de_cb {id : String} {r : List V → Hp → VK → Prop} {o : WF} {x : Str} {px : Pos} (hb : DB X (.builtin id) r o) (hg : Gl X x) (hm : X.mg x = none) (hv : bootBuiltins x = some (.builtin id)) (ha : DA X p (e :: es) tA fA)
    (hn : x ≠ "__name__" := by decide) (hdb : (x == ("__debug__" : Str)) = false := by decide) (he : starEach (e :: es) X.env = (false, eval e X.env) :: starEach es X.env := by rfl)
    (hpl : (backTo pos (starEach es X.env)).any (·.1) = false := by rfl) : DE X p (.Call (.Name x px) (e :: es) [] pos) (tCB r tA) (vB o fA) :=
  ⟨pe_callB hb.py hg hm hv ha.py hn hdb he hpl, fun E Φ q => W_cb ((ha.ok E _ q).imp fun xs hx => hb.ok p xs Φ hx.2)⟩
theorem de_cty {T : String} {r : List V → Hp → VK → Prop} {o : WF} {x : Str} {px : Pos} (hb : DB X (.type T) r o) (hg : Gl X x) (hm : X.mg x = none) (hv : bootBuiltins x = some (.type T)) (ha : DA X p (e :: es) tA fA)
    (hn : x ≠ "__name__" := by decide) (hdb : (x == ("__debug__" : Str)) = false := by decide) (he : starEach (e :: es) X.env = (false, eval e X.env) :: starEach es X.env := by rfl)
    (hpl : (backTo pos (starEach es X.env)).any (·.1) = false := by rfl) : DE X p (.Call (.Name x px) (e :: es) [] pos) (tCB r tA) (vB o fA) :=
  ⟨pe_callTy hb.py hg hm hv ha.py hn hdb he hpl, fun E Φ q => W_cb ((ha.ok E _ q).imp fun xs hx => hb.ok p xs Φ hx.2)⟩
def oLen : WF := fun xs Φ => match xs with
  | [.list ds] => Φ (.int ds.length)
  | [.tuple ds] => Φ (.int ds.length)
  | _ => False
theorem db_len : DB X (.builtin "len") (rLenS X.K) oLen := by
  refine ⟨cr_len, fun p xs Φ h => ?_⟩
  unfold oLen at h
  split at h
  · exact WC_lenL h
  · exact WC_lenT h
  · exact h.elim
def oAbs : WF := fun xs Φ => match xs with
  | [.int i] => Φ (.int (if i < 0 then -i else i))
  | _ => False
theorem db_abs : DB X (.builtin "abs") rAbs oAbs := by
  refine ⟨cr_abs, fun p xs Φ h => ?_⟩
  unfold oAbs at h
  split at h
  · exact WC_abs h
  · exact h.elim
def oRepr : WF := fun xs Φ => match xs with
  | [d] => PyData.showable d = true ∧ PyData.hasDict d = false ∧ PyData.depth d ≤ 60 ∧ (PyData.shown d).length ≤ sizeLine ∧ Φ (.str (PyData.shown d))
  | _ => False
theorem db_repr (hg : X.A.guards = some []) (hu : X.A.units + 64 < cLine) : DB X (.builtin "repr") (rRepr X.K) oRepr := by
  refine ⟨cr_repr hg hu, fun p xs Φ h => ?_⟩
  unfold oRepr at h
  split at h
  · obtain ⟨h1, h2, h3, h4, k⟩ := h
    rename_i d
    intro G H vs j dv Q q
    cases dv with
    | @cons v _ _ _ a b =>
      cases b
      exact ⟨v, d, rfl, dp_mono j.sub d v a, h1, h2, h3, h4, q _ _ G H Xt.refl j (.str _) k⟩
  · exact h.elim
def oDivmod : WF := fun xs Φ => match xs with
  | [.int a, .int b] => (0 < b ∧ b < 1073741824) ∧ Φ (.tuple [.int (a / b), .int (a % b)])
  | _ => False
theorem db_divmod : DB X (.builtin "divmod") rDivmod oDivmod := by
  refine ⟨cr_divmod, fun p xs Φ h => ?_⟩
  unfold oDivmod at h
  split at h
  · exact WC_divmod h.1 h.2
  · exact h.elim
def oMax : WF := fun xs Φ => match xs with
  | [.int a, .int b] => Φ (.int (if b > a then b else a))
  | _ => False
theorem db_max (hc : X.calm = true) : DB X (.builtin "max") rMax2 oMax := by
  refine ⟨cr_max2 hc, fun p xs Φ h => ?_⟩
  unfold oMax at h
  split at h
  · exact WC_max2 h
  · exact h.elim
def oMin : WF := fun xs Φ => match xs with
  | [.int a, .int b] => Φ (.int (if b < a then b else a))
  | _ => False
theorem db_min (hc : X.calm = true) : DB X (.builtin "min") rMin2 oMin := by
  refine ⟨cr_min2 hc, fun p xs Φ h => ?_⟩
  unfold oMin at h
  split at h
  · exact WC_min2 h
  · exact h.elim
def oTupOf : WF := fun xs Φ => match xs with
  | [.list ds] => Φ (.tuple ds)
  | [.tuple ds] => Φ (.tuple ds)
  | _ => False
theorem db_tup : DB X (.type "tuple") (rTupOf X.K) oTupOf := by
  refine ⟨cr_tupOf, fun p xs Φ h => ?_⟩
  unfold oTupOf at h
  split at h
  · exact WC_tupL h
  · exact WC_tupT h
  · exact h.elim
def oInt : WF := fun xs Φ => match xs with
  | [.int i] => Φ (.int i)
  | [.bool b] => Φ (.int (if b then 1 else 0))
  | _ => False
theorem db_int : DB X (.type "int") rInt1 oInt := by
  refine ⟨cr_int, fun p xs Φ h => ?_⟩
  unfold oInt at h
  split at h
  · exact WC_int h
  · rename_i b
    intro G H vs j dv Q q
    cases dv with
    | cons a z =>
      cases z
      rw [dp_bl a]
      exact Or.inr ⟨b, rfl, q _ _ G H Xt.refl j (.int _) h⟩
  · exact h.elim
def oStr : WF := fun xs Φ => match xs with
  | [.int i] => i.natAbs.log2 < 1920 ∧ Φ (.str (toString i : String))
  | _ => False
theorem db_str : DB X (.type "str") rStrI oStr := by
  refine ⟨cr_strI, fun p xs Φ h => ?_⟩
  unfold oStr at h
  split at h
  · rename_i i
    intro G H vs j dv Q q
    cases dv with
    | cons a z =>
      cases z
      rw [dp_int a]
      exact ⟨i, rfl, h.1, q _ _ G H Xt.refl j (.str _) h.2⟩
  · exact h.elim
def oGcd : WF := fun xs Φ => match xs with
  | [.int a, .int b] => Φ (.int ((Nat.gcd a.natAbs b.natAbs : Nat) : Int))
  | _ => False
def allB : List PyData → Option Bool
  | [] => some true
  | .bool b :: xs => (allB xs).map fun c => b && c
  | _ => none
theorem allB_ok : ∀ {ds : List PyData} {b : Bool}, allB ds = some b → ∃ bs : List Bool, ds = bs.map PyData.bool ∧ b = bs.all id
  | [], b, h => ⟨[], rfl, by cases h; rfl⟩
  | .bool c :: xs, b, h => by
    cases z : allB xs with
    | none => rw [allB, z] at h; cases h
    | some d =>
      rw [allB, z] at h
      cases h
      obtain ⟨bs, e1, e2⟩ := allB_ok z
      exact ⟨c :: bs, by rw [e1]; rfl, by rw [e2]; rfl⟩
  | .none :: _, _, h => by cases h
  | .int _ :: _, _, h => by cases h
  | .str _ :: _, _, h => by cases h
  | .list _ :: _, _, h => by cases h
  | .tuple _ :: _, _, h => by cases h
  | .dict _ :: _, _, h => by cases h
def oAll : WF := fun xs Φ => match xs with
  | [.list ds] => (match allB ds with
    | some b => Φ (.bool b)
    | none => False)
  | _ => False
theorem db_all (hc : X.calm = true) : DB X (.builtin "all") (rAll X.K) oAll := by
  refine ⟨cr_all hc, fun p xs Φ h => ?_⟩
  unfold oAll at h
  split at h
  · split at h <;> rename_i w
    · obtain ⟨bs, rfl, rfl⟩ := allB_ok w
      exact WC_all h
    · exact h.elim
  · exact h.elim
/-- isinstance(e, T) -/
def vIsi (g : PyData → Bool) (f : WE) : WE := fun E Φ => f E fun d => Φ (.bool (g d))
theorem de_isi {T : String} {g : PyData → Bool} {x : Str} {px : Pos} (hT : ∀ d, kitB (tyD d) T = some (g d)) (hg : Gl X x) (hm : X.mg x = none) (hv : bootBuiltins x = some (.builtin "isinstance")) (h1 : DE X p a ta fa) (h2 : PE X b (tC (.ty T)))
    (hn : x ≠ "__name__" := by decide) (hdb : (x == ("__debug__" : Str)) = false := by decide) (he : starEach (a :: [b]) X.env = (false, eval a X.env) :: starEach [b] X.env := by rfl) (he2 : starEach (b :: []) X.env = (false, eval b X.env) :: starEach [] X.env := by rfl)
    (hpl : (backTo pos (starEach [b] X.env)).any (·.1) = false := by rfl) : DE X p (.Call (.Name x px) [a, b] [] pos) (tCB (rIsi X.K) (tCons ta (tCons (tC (.ty T)) tNil))) (vIsi g fa) :=
  ⟨pe_callB call_isi hg hm hv (pa_cons h1.py (pa_cons h2 pa_nil he2) he) hn hdb he hpl, fun E Φ q => W_isi ((h1.ok E _ q).imp fun d hd => ⟨_, hT d, hd⟩)⟩
/-- tuple(xs), xs a list of one's own -/
def vTupV (i : Nat) : WE := fun E Φ => match geE E i with
  | .d d => oTupOf [d] Φ
  | .m ds => Φ (.tuple ds)
  | _ => False
theorem de_tupV {i : Nat} {x y : Str} {p1 px : Pos} (hN : X.N[i]? = some y) (hvv : Vis X.env.scope y) (hg : Gl X x) (hm : X.mg x = none) (hv : bootBuiltins x = some (.type "tuple")) (hd : (y == ("__debug__" : Str)) = false := by decide) (hcd : (y == ("__classdict__" : Str)) = false := by decide)
    (hn : x ≠ "__name__" := by decide) (hdb : (x == ("__debug__" : Str)) = false := by decide) (he : starEach [.Name y p1] X.env = (false, eval (.Name y p1) X.env) :: starEach [] X.env := by rfl)
    (hpl : (backTo pos (starEach [] X.env)).any (·.1) = false := by rfl) : DE X p (.Call (.Name x px) [.Name y p1] [] pos) (tCB (rTupOf X.K) (tCons (tVar i) tNil)) (vTupV i) := by
  refine ⟨pe_callTy cr_tupOf hg hm hv (pa_cons (pe_var hN hvv hd hcd) pa_nil he) hn hdb he hpl, fun E Φ h => ?_⟩
  unfold vTupV at h
  split at h
  · rename_i d q
    exact W_cb (WA_cons (W_var (geE_ok q Sl.noConfusion) (WA_nil (db_tup.ok p [d] Φ h))))
  · rename_i ds q
    exact W_tupM (geE_ok q Sl.noConfusion) h
  · exact h.elim
/-- list(e): a new list of one's own -/
def vLst (f : WE) : WL := fun E Ψ => f E fun d => match d with
  | .tuple ds => Ψ ds
  | .list ds => Ψ ds
  | _ => False
theorem dm_list {x : Str} {px : Pos} (h : DE X p e te fe) (hg : Gl X x) (hm : X.mg x = none) (hv : bootBuiltins x = some (.type "list")) (hn : x ≠ "__name__" := by decide) (hdb : (x == ("__debug__" : Str)) = false := by decide)
    (he : starEach [e] X.env = (false, eval e X.env) :: starEach [] X.env := by rfl) (hpl : (backTo pos (starEach [] X.env)).any (·.1) = false := by rfl) :
    DM X p (.Call (.Name x px) [e] [] pos) (tCB (rLstOf X.K) (tCons te tNil)) (vLst fe) :=
  ⟨pe_callTy cr_lstOf hg hm hv (pa_cons h.py pa_nil he) hn hdb he hpl, fun E Ψ q => WM_lstOf (WA_cons ((h.ok E _ q).imp fun d hd => WA_nil (by
    cases d with
    | tuple ds => exact ⟨ds, Or.inl rfl, hd⟩
    | list ds => exact ⟨ds, Or.inr rfl, hd⟩
    | _ => exact hd.elim)))⟩

/-! ### slices -/
structure DOp (X : Cx) (p : Option Addr) (o : Option Expr) (t : TO) (f : Ev → (Option Int → Prop) → Prop) : Prop where
  py : PO X o t
  ok : ∀ E Θ, f E Θ → WO X.K p E t Θ
def vPart (f : WE) : Ev → (Option Int → Prop) → Prop := fun E Θ => f E fun d => match d with
  | .int i => Θ (some i)
  | _ => False
theorem do_none : DOp X p none tNoPart (fun _ Θ => Θ none) := ⟨po_none, fun _ _ h => WO_none h⟩
theorem do_some (h : DE X p e te fe) : DOp X p (some e) (tPart te) (vPart fe) := ⟨po_some h.py, fun E Θ q => WO_some ((h.ok E _ q).imp fun d hd => by
  cases d with
  | int i => exact ⟨i, rfl, hd⟩
  | _ => exact hd.elim)⟩
section
variable {lo hi : Option Expr} {tl th : TO} {fl fh : Ev → (Option Int → Prop) → Prop} {p2 : Pos}
/-- a list's slice: a new list of one's own -/
def vSlL (f : WE) (fl fh : Ev → (Option Int → Prop) → Prop) : WL := fun E Ψ => f E fun d => match d with
  | .list ds => fl E fun l => fh E fun h => Ψ (cutD ds l h)
  | _ => False
theorem dm_sl (h : DE X p e te fe) (h1 : DOp X p lo tl fl) (h2 : DOp X p hi th fh) : DM X p (.Subscript e (.Slice lo hi none p2) pos) (tSl (rSlL X.K) te tl th) (vSlL fe fl fh) := by
  refine ⟨pe_slice sl_list h.py h1.py h2.py, fun E Ψ q => WM_slL ((h.ok E _ q).imp fun d hd => ?_)⟩
  cases d with
  | list ds => exact ⟨ds, rfl, fun H0 G H σ j e Q q => h1.ok E _ hd H0 G H σ j e Q fun o G' H' x j z => q o G' H' x j (h2.ok E _ z)⟩
  | _ => exact hd.elim
def vSlT (f : WE) (fl fh : Ev → (Option Int → Prop) → Prop) : WE := fun E Φ => f E fun d => match d with
  | .tuple ds => fl E fun l => fh E fun h => Φ (.tuple (cutD ds l h))
  | _ => False
theorem de_slT (h : DE X p e te fe) (h1 : DOp X p lo tl fl) (h2 : DOp X p hi th fh) : DE X p (.Subscript e (.Slice lo hi none p2) pos) (tSl (rSlA X.K) te tl th) (vSlT fe fl fh) := by
  refine ⟨pe_slice sl_tupA h.py h1.py h2.py, fun E Φ q => ?_⟩
  intro H0 G H σ j e Q z
  refine h.ok E _ q H0 G H σ j e _ fun v d G1 H1 x1 j1 dv hd => ?_
  cases d with
  | tuple ds =>
    refine h1.ok E _ hd H0 G1 H1 σ j1 (e.mono x1) _ fun l G2 H2 x2 j2 k2 => ?_
    refine h2.ok E _ k2 H0 G2 H2 σ j2 ((e.mono x1).mono x2) _ fun hh G3 H3 x3 j3 k3 => ?_
    obtain ⟨m, xs, rfl, hs, ha⟩ := dp_tup dv
    have x13 := x1.trans (x2.trans x3)
    have g13 := x2.gg.trans x3.gg
    have da := dpA_mono g13 ds xs ha
    refine ⟨m, xs, rfl, sqT_mono (g13.trans j3.sub) hs, fun w => ?_, fun w n hn => ?_⟩
    · rw [dpA_len ha] at w
      have e1 : cutD ds l hh = ds := by
        unfold cutD
        rw [w.1, w.2, List.drop_zero, Nat.sub_zero, List.take_length]
      rw [e1] at k3
      exact z _ _ G3 H3 x13 j3 (.tup (sqT_mono g13 hs) da) k3
    · have x4 := Xt.laid (p := p) j3 (o := .tup (cutV xs l hh)) hn
      exact z _ _ _ _ (x13.trans x4) (j3.laid hn) (.tup (SqT.of upd_same) (dpA_mono x4.gg _ _ (cut_ds l hh da))) k3
  | _ => exact hd.elim
/-- a slice of a list of one's own -/
def vSlV (i : Nat) (fl fh : Ev → (Option Int → Prop) → Prop) : WL := fun E Ψ => match geE E i with
  | .m ds => fl E fun l => fh E fun h => Ψ (cutD ds l h)
  | .d (.list ds) => fl E fun l => fh E fun h => Ψ (cutD ds l h)
  | _ => False
end
end
end Rim

/-! RimG: calls of defs by what they come to; what is walked; comprehensions; loops; statements; a def's body. -/
namespace Rim
open PySem PySem.Spec L2
variable [Tabs]

/-! ### defs by what they come to -/
def spF (K : PySem.W.Frag) (n : Nat) (F : WF) : Sp := fun vs H Q _ =>
  vs.length = n ∧ ∃ (p : Option Addr) (G : Hp) (ds : List PyData) (Φ : PyData → Prop), J p G H ∧ DpAll K G vs ds ∧ F ds Φ ∧
    ∀ v d G' H', Xt p G H G' H' → J p G' H' → Dp K G' v d → Φ d → Q v H'
/-- the first argument is the laws' pail -/
def spQ (K : PySem.W.Frag) (n : Nat) (F : Addr → WF) : Sp := fun vs H Q _ =>
  vs.length = n ∧ ∃ (a : Addr) (ws : List V) (G : Hp) (ds : List PyData) (Φ : PyData → Prop), vs = .ref a :: ws ∧ J (some a) G H ∧ DpAll K G ws ds ∧ F a ds Φ ∧
    ∀ v d G' H', Xt (some a) G H G' H' → J (some a) G' H' → Dp K G' v d → Φ d → Q v H'
def mkF (n m : Nat) (b : WS) : WF := fun ds Φ => ds.length = n ∧ b (ends ds m) ⟨fun _ => Φ .none, Φ, Nev, Nev⟩
def mkQ (n m : Nat) (b : Addr → WS) : Addr → WF := fun a ds Φ => ds.length + 1 = n ∧ b a (.v (.ref a) :: ends ds m) ⟨fun _ => Φ .none, Φ, Nev, Nev⟩
/-- so many arguments -/
def Ari (n : Nat) (F : WF) : Prop := ∀ ds Φ, F ds Φ → ds.length = n
theorem mkF_ari {n m : Nat} {b : WS} : Ari n (mkF n m b) := fun _ _ h => h.1
def AriQ (n : Nat) (F : Addr → WF) : Prop := ∀ a ds Φ, F a ds Φ → ds.length + 1 = n
theorem mkQ_ari {n m : Nat} {b : Addr → WS} : AriQ n (mkQ n m b) := fun _ _ _ h => h.1
theorem spF_len {K : PySem.W.Frag} {n : Nat} {F : WF} {vs : List V} {H : Hp} {Q : VK} {E : XK} (h : spF K n F vs H Q E) : vs.length = n := h.1
theorem spQ_len {K : PySem.W.Frag} {n : Nat} {F : Addr → WF} {vs : List V} {H : Hp} {Q : VK} {E : XK} (h : spQ K n F vs H Q E) : vs.length = n := h.1
theorem body_F {K : PySem.W.Frag} {n : Nat} {b : WS} {t : TS} {N : List Str} {vs : List V} {H : Hp} {Q : VK} {E : XK} (m : Nat) (hN : N.length = n + m) (hsp : spF K n (mkF n m b) vs H Q E)
    (h : ∀ (p : Option Addr) E P, b E P → S K p E t P.N P.R P.B P.C) : t { nx := fun _ H' => Q .non H', rt := Q } (start N vs) H := by
  obtain ⟨hn, p, G, ds, Φ, j, dv, ⟨hl, hb⟩, k⟩ := hsp
  refine h p _ _ hb G H G H _ Xt.refl j (env_start dv m (by rw [hn]; exact hN)) _ ?_
  exact ⟨fun σ E G' H' x j' e o => k _ _ G' H' x j' .non o, fun v d G' H' x j' dv' o => k v d G' H' x j' dv' o, fun _ _ _ _ _ _ _ z => z.elim, fun _ _ _ _ _ _ _ z => z.elim⟩
theorem env_pail {K : PySem.W.Frag} {G H : Hp} {N : List Str} {a : Addr} {ws : List V} {ds : List PyData} (dv : DpAll K G ws ds) (m : Nat) (hN : N.length = ws.length + 1 + m) :
    EnvOk K (some a) H G H (start N (.ref a :: ws)) (.v (.ref a) :: ends ds m) := by
  have e := env_start (K := K) (p := some a) (G := G) (H := H) (N := N.tail) dv m (by rw [List.length_tail]; omega)
  have e2 : start N (.ref a :: ws) = some (.ref a) :: start N.tail ws := by
    unfold L2.start
    rw [List.length_tail, List.length_cons, List.map_cons, List.cons_append]
    congr 3
    omega
  rw [e2]
  refine ⟨by rw [List.length_cons, List.length_cons, e.len], fun x s hs => ?_, fun x y ds es l hxy hx hy hl => ?_⟩
  · cases x with
    | zero =>
      cases hs
      exact rfl
    | succ x => exact e.at_ x s hs
  · cases x with
    | zero => cases hx
    | succ x =>
      cases y with
      | zero => cases hy
      | succ y => exact e.ap x y ds es l (fun z => hxy (by rw [z])) hx hy hl
theorem body_Q {K : PySem.W.Frag} {n : Nat} {b : Addr → WS} {t : TS} {N : List Str} {vs : List V} {H : Hp} {Q : VK} {E : XK} (m : Nat) (hN : N.length = n + m) (hsp : spQ K n (mkQ n m b) vs H Q E)
    (h : ∀ (a : Addr), vs.head? = some (.ref a) → ∀ E P, b a E P → S K (some a) E t P.N P.R P.B P.C) : t { nx := fun _ H' => Q .non H', rt := Q } (start N vs) H := by
  obtain ⟨hn, a, ws, G, ds, Φ, rfl, j, dv, ⟨hl, hb⟩, k⟩ := hsp
  rw [List.length_cons] at hn
  refine h a rfl _ _ hb G H G H _ Xt.refl j (env_pail dv m (by omega)) _ ?_
  exact ⟨fun σ E G' H' x j' e o => k _ _ G' H' x j' .non o, fun v d G' H' x j' dv' o => k v d G' H' x j' dv' o, fun _ _ _ _ _ _ _ z => z.elim, fun _ _ _ _ _ _ _ z => z.elim⟩
section
variable {X : Cx} {p : Option Addr} {e a b c : Expr} {es : List Expr} {te ta tb tc : TE} {fe fa fb fc : WE} {tA : TA} {fA : WL} {pos : Pos} {tt tu : TT} {ft fu : WB} {gM : WL}
  {CX : CXT} {k n : Nat} {f : Addr} {fd : FuncData} {ps ks : List Str} {F : WF} {ds : List Value} {E0 : XK} {x : Str} {px : Pos}
/-! ### calls -/
def vCall (F : WF) (f : WL) : WE := fun E Φ => f E fun xs => F xs Φ
theorem de_call (hf : FnG X.prog X.w X.K X.mg X.base CX k f fd ps (spF X.K n F)) (hF : Ari n F) (hr : Room k X.A) (hgu : X.A.guards = some [])
    (hg : Gl X x) (hm : X.mg x = some (.ref f)) (hk : PySem.W.keepIn X.K (.ref f) = true) (hb : Binds X.K fd ps []) (hx : Passes CX X E0) (ha : DA X p (e :: es) tA fA)
    (hdb : (x == ("__debug__" : Str)) = false := by decide)
    (he : starEach (e :: es) X.env = (false, eval e X.env) :: starEach es X.env := by rfl)
    (hpl : (backTo pos (starEach es X.env)).any (·.1) = false := by rfl) :
    DE X p (.Call (.Name x px) (e :: es) [] pos) (tCall (spF X.K n F) [] E0 tA) (vCall F fA) := by
  refine ⟨pe_callG hf hr hgu hg hm hk hb .nil hx ha.py hdb he hpl, fun E Φ q => ?_⟩
  intro H0 G H σ j e Q z
  refine ha.ok E _ q H0 G H σ j e _ fun vs xs G1 H1 x1 j1 dvs h1 => ?_
  rw [List.append_nil]
  exact ⟨(dpA_len dvs).trans (hF _ _ h1.2), p, G1, xs, Φ, j1, dvs, h1.2, fun v d G2 H2 x2 j2 dv hd => z v d G2 H2 (x1.trans x2) j2 dv hd⟩
/-- defaults behind -/
def vCallD (F : WF) (dd : List PyData) (f : WL) : WE := fun E Φ => f E fun xs => F (xs ++ dd) Φ
theorem de_callD {dvs : List V} {dd : List PyData} (hf : FnG X.prog X.w X.K X.mg X.base CX k f fd ps (spF X.K n F)) (hF : Ari n F) (hdd : ∀ G, DpAll X.K G dvs dd) (hr : Room k X.A) (hgu : X.A.guards = some [])
    (hg : Gl X x) (hm : X.mg x = some (.ref f)) (hk : PySem.W.keepIn X.K (.ref f) = true) (hb : Binds X.K fd ps ds) (hvd : Vals dvs ds) (hx : Passes CX X E0) (ha : DA X p (e :: es) tA fA)
    (hdb : (x == ("__debug__" : Str)) = false := by decide)
    (he : starEach (e :: es) X.env = (false, eval e X.env) :: starEach es X.env := by rfl)
    (hpl : (backTo pos (starEach es X.env)).any (·.1) = false := by rfl) :
    DE X p (.Call (.Name x px) (e :: es) [] pos) (tCall (spF X.K n F) dvs E0 tA) (vCallD F dd fA) := by
  refine ⟨pe_callG hf hr hgu hg hm hk hb hvd hx ha.py hdb he hpl, fun E Φ q => ?_⟩
  intro H0 G H σ j e Q z
  refine ha.ok E _ q H0 G H σ j e _ fun vs xs G1 H1 x1 j1 dvs' h1 => ?_
  have da := dpA_append dvs' (hdd G1)
  exact ⟨(dpA_len da).trans (hF _ _ h1.2), p, G1, xs ++ dd, Φ, j1, da, h1.2, fun v d G2 H2 x2 j2 dv hd => z v d G2 H2 (x1.trans x2) j2 dv hd⟩
/-- by keywords alone: g puts the values in order (defaults among them) -/
def vCallK (F : WF) (g : List PyData → List PyData) (f : WL) : WE := fun E Φ => f E fun xs => F (g xs) Φ
structure DK (X : Cx) (p : Option Addr) (kws : List Keyword) (t : TA) (f : WL) : Prop where
  py : PK X kws t
  ok : ∀ E Ψ, f E Ψ → WA X.K p E t fun xs => xs.length = kws.length ∧ Ψ xs
theorem de_callK {kws : List Keyword} {g : List Value → List Value → List Value} {gV : List V → List V → List V} {gD : List PyData → List PyData} (hf : FnG X.prog X.w X.K X.mg X.base CX k f fd ps (spF X.K n F)) (hF : Ari n F)
    (hgd : ∀ (G : Hp) (vs : List V) (ds : List PyData), DpAll X.K G vs ds → ds.length = ks.length → DpAll X.K G (gV [] vs) (gD ds)) (hr : Room k X.A) (hgu : X.A.guards = some [])
    (hg : Gl X x) (hm : X.mg x = some (.ref f)) (hk : PySem.W.keepIn X.K (.ref f) = true) (hb : KBn X.K fd ps 0 ks g gV) (hx : Passes CX X E0) (hkw : DK X p kws tA fA) (hkl : kws.length = ks.length := by rfl)
    (hall : (backToKw pos (keywordEach kws X.env)).all (·.1.isSome) = true := by rfl)
    (hks : (backToKw pos (keywordEach kws X.env)).filterMap (·.1) = ks := by rfl)
    (hdb : (x == ("__debug__" : Str)) = false := by decide)
    (hpl : ((backTo pos (starEach [] X.env)).any (·.1) || (backToKw pos (keywordEach kws X.env)).any (·.1.isNone)) = false := by rfl) :
    DE X p (.Call (.Name x px) [] kws pos) (tCallN 0 ks.length (spF X.K n F) gV E0 tNil tA) (vCallK F gD fA) := by
  refine ⟨pe_callGK hf hr hgu hg hm hk hb hx hkw.py hall hks hdb hpl, fun E Φ q => ?_⟩
  intro H0 G H σ j e Q z
  refine hkw.ok E _ q H0 G H σ j e _ fun vs xs G1 H1 x1 j1 dvs h1 => ?_
  have da := hgd G1 vs xs dvs (h1.1.trans hkl)
  exact ⟨rfl, (dpA_len dvs).trans (h1.1.trans hkl), (dpA_len da).trans (hF _ _ h1.2), p, G1, gD xs, Φ, j1, da, h1.2, fun v d G2 H2 x2 j2 dv hd => z v d G2 H2 (x1.trans x2) j2 dv hd⟩
/-- the pail ahead -/
def vCallQ (k : Nat) (a : Addr) (F : Addr → WF) (f : WL) : WE := fun E Φ => geE E k = .v (.ref a) ∧ f E fun xs => F a xs Φ
theorem de_callQ {ap : Addr} {i : Nat} {e1 : Expr} {FQ : Addr → WF} (hf : FnG X.prog X.w X.K X.mg X.base CX k f fd ps (spQ X.K n FQ)) (hF : AriQ n FQ) (hr : Room k X.A) (hgu : X.A.guards = some [])
    (hg : Gl X x) (hm : X.mg x = some (.ref f)) (hk : PySem.W.keepIn X.K (.ref f) = true) (hb : Binds X.K fd ps []) (hx : Passes CX X E0) (hp : PE X e1 (tVar i)) (ha : DA X (some ap) es tA fA)
    (hdb : (x == ("__debug__" : Str)) = false := by decide)
    (he : starEach (e1 :: es) X.env = (false, eval e1 X.env) :: starEach es X.env := by rfl)
    (hpl : (backTo pos (starEach es X.env)).any (·.1) = false := by rfl) :
    DE X (some ap) (.Call (.Name x px) (e1 :: es) [] pos) (tCall (spQ X.K n FQ) [] E0 (tCons (tVar i) tA)) (vCallQ i ap FQ fA) := by
  refine ⟨pe_callG hf hr hgu hg hm hk hb .nil hx (pa_cons hp ha.py he) hdb he hpl, fun E Φ q => ?_⟩
  obtain ⟨q1, q2⟩ := q
  intro H0 G H σ j e Q z
  refine ⟨_, e.val (geE_ok q1 Sl.noConfusion), ?_⟩
  refine ha.ok E _ q2 H0 G H σ j e _ fun vs xs G1 H1 x1 j1 dvs h1 => ?_
  show spQ X.K n FQ ((.ref ap :: vs) ++ []) H1 Q E0
  rw [List.append_nil]
  refine ⟨?_, ap, vs, G1, xs, Φ, rfl, j1, dvs, h1.2, fun v d G2 H2 x2 j2 dv hd => z v d G2 H2 (x1.trans x2) j2 dv hd⟩
  rw [List.length_cons, dpA_len dvs]
  exact hF _ _ _ h1.2
theorem dk_nil : DK X p [] tNil vNil := ⟨pk_nil, fun _ _ h => WA_nil ⟨rfl, h⟩⟩
theorem dk_cons {kws : List Keyword} {nm : Option Str} {kpos : Pos} (h : DE X p e te fe) (r : DK X p kws tA fA) : DK X p (⟨nm, e, kpos⟩ :: kws) (tCons te tA) (vCons fe fA) :=
  ⟨pk_cons h.py r.py, fun E Ψ q => WA_cons ((h.ok E _ q).imp fun x hx => (r.ok E _ hx).imp fun xs hxs => ⟨by rw [List.length_cons, List.length_cons, hxs.1], hxs.2⟩)⟩
end

/-! ### targets -/
/-- target g takes d; only the slots vs change -/
def TGv (K : PySem.W.Frag) (p : Option Addr) (E : Ev) (g : TG) (vs : List Nat) (d : PyData) (N : Ev → Prop) : Prop :=
  ∀ (H0 G H : Hp) (σ : L2.St) (v : V), J p G H → EnvOk K p H0 G H σ E → Dp K G v d → ∀ Q : L2.St → Hp → Prop,
    (∀ σ' E', EnvOk K p H0 G H σ' E' → N E' → σ'.length = σ.length → (∀ j, j ∉ vs → σ'[j]? = σ[j]?) → Q σ' H) → g v σ H Q
def TGvs (K : PySem.W.Frag) (p : Option Addr) (E : Ev) (g : TGs) (vs : List Nat) (ds : List PyData) (N : Ev → Prop) : Prop :=
  ∀ (H0 G H : Hp) (σ : L2.St) (us : List V), J p G H → EnvOk K p H0 G H σ E → DpAll K G us ds → ∀ Q : L2.St → Hp → Prop,
    (∀ σ' E', EnvOk K p H0 G H σ' E' → N E' → σ'.length = σ.length → (∀ j, j ∉ vs → σ'[j]? = σ[j]?) → Q σ' H) → g us σ H Q
structure DV (X : Cx) (p : Option Addr) (tg : Expr) (g : TG) (vs : List Nat) (f : WG) : Prop where
  py : PG X tg g
  ok : ∀ d E N, f d E N → TGv X.K p E g vs d N
structure DVs (X : Cx) (p : Option Addr) (tg : List Expr) (g : TGs) (vs : List Nat) (f : List PyData → Ev → (Ev → Prop) → Prop) : Prop where
  py : PGs X tg g
  ok : ∀ d E N, f d E N → TGvs X.K p E g vs d N
section
variable {X : Cx} {p : Option Addr} {pos : Pos}
def vgN (i : Nat) : WG := fun d E N => puE E i (.d d) N
def vgNil : List PyData → Ev → (Ev → Prop) → Prop := fun ds E N => match ds with
  | [] => N E
  | _ => False
def vgCons (f : WG) (g : List PyData → Ev → (Ev → Prop) → Prop) : List PyData → Ev → (Ev → Prop) → Prop := fun ds E N => match ds with
  | d :: ds => f d E fun E' => g ds E' N
  | _ => False
def vgT (n : Nat) (f : List PyData → Ev → (Ev → Prop) → Prop) : WG := fun d E N => match d with
  | .tuple ds => ds.length = n ∧ f ds E N
  | .list ds => ds.length = n ∧ f ds E N
  | _ => False
/-- several names = a tuple or a list of that length -/
def gBoth (K : PySem.W.Frag) (n : Nat) (t : TGs) : TG := fun v σ H Q => gTup K n t v σ H Q ∨ gLst K n t v σ H Q
theorem pg_both {es : List Expr} {k : Nat} {t : TGs} {n : Nat} (hc : X.calm = true) (h : PGs X es t) (hn : (assignEach es X.env).length = n := by rfl) (hst : (assignEach es X.env).findIdx? (·.1) = none := by rfl) :
    PG X (.Tuple es k pos) (gBoth X.K n t) :=
  ⟨fun pins s σ H v u Q I r hw => hw.elim (fun z => (pg_tup hc h hn hst).run pins s σ H v u Q I r z) fun z => (pg_lst hc h hn hst).run pins s σ H v u Q I r z⟩
theorem dv_name {i : Nat} {x : Str} (hN : X.N.Nodup) (hi : X.N[i]? = some x) (hx : Loc X.env.scope x) (hf : X.fn x = true ∨ X.env.scope.names.lookup x = some .local := by first | exact .inl rfl | exact .inr rfl | assumption) :
    DV X p (.Name x pos) (gName i) [i] (vgN i) := by
  refine ⟨pg_name hN hi hx hf, fun d E N h => ?_⟩
  obtain ⟨h1, h2⟩ := puE_ok h
  intro H0 G H σ v j e dv Q q
  have hs : i < σ.length := by rw [e.len]; exact h1
  refine q _ _ (e.setD hs dv) h2 (List.length_set ..) fun k hk => ?_
  rw [List.getElem?_set_ne (fun z => hk (by rw [z]; exact List.mem_singleton.mpr rfl))]
theorem dvs_nil : DVs X p [] gNil [] vgNil := by
  refine ⟨pgs_nil, fun ds E N h => ?_⟩
  intro H0 G H σ us j e dv Q q
  cases ds with
  | nil =>
    cases dv
    exact ⟨rfl, q σ E e h rfl fun _ _ => rfl⟩
  | cons _ _ => exact h.elim
theorem dvs_cons {tg : Expr} {tgs : List Expr} {g : TG} {gs : TGs} {vs ws : List Nat} {f : WG} {fs : List PyData → Ev → (Ev → Prop) → Prop} (h1 : DV X p tg g vs f) (h2 : DVs X p tgs gs ws fs)
    (hs : (assignEach (tg :: tgs) X.env).map (·.2) = assign tg X.env :: (assignEach tgs X.env).map (·.2) := by rfl) : DVs X p (tg :: tgs) (gCons g gs) (vs ++ ws) (vgCons f fs) := by
  refine ⟨pgs_cons h1.py h2.py hs, fun ds E N h => ?_⟩
  intro H0 G H σ us j e dv Q q
  cases ds with
  | nil => exact h.elim
  | cons d ds =>
    cases dv with
    | cons d1 dr =>
      refine ⟨_, _, rfl, h1.ok d E _ h H0 G H σ _ j e d1 _ fun σ1 E1 e1 k1 l1 a1 => ?_⟩
      refine h2.ok ds E1 _ k1 H0 G H σ1 _ j e1 dr _ fun σ2 E2 e2 k2 l2 a2 => ?_
      refine q σ2 E2 e2 k2 (l2.trans l1) fun k hk => ?_
      rw [a2 k fun z => hk (List.mem_append_right _ z), a1 k fun z => hk (List.mem_append_left _ z)]
theorem dv_tup {tgs : List Expr} {k : Nat} {gs : TGs} {n : Nat} {vs : List Nat} {fs : List PyData → Ev → (Ev → Prop) → Prop} (hc : X.calm = true) (h : DVs X p tgs gs vs fs)
    (hn : (assignEach tgs X.env).length = n := by rfl) (hst : (assignEach tgs X.env).findIdx? (·.1) = none := by rfl) : DV X p (.Tuple tgs k pos) (gBoth X.K n gs) vs (vgT n fs) := by
  refine ⟨pg_both hc h.py hn hst, fun d E N q => ?_⟩
  intro H0 G H σ v j e dv Q z
  cases d with
  | tuple ds =>
    obtain ⟨a, xs, rfl, hs, ha⟩ := dp_tup dv
    exact Or.inl ⟨a, xs, rfl, sqT_mono j.sub hs, (dpA_len ha).trans q.1, h.ok ds E N q.2 H0 G H σ xs j e ha Q z⟩
  | list ds =>
    obtain ⟨a, xs, rfl, hs, ha⟩ := dp_lst dv
    exact Or.inr ⟨a, xs, rfl, j.sub.seq hs, (dpA_len ha).trans q.1, h.ok ds E N q.2 H0 G H σ xs j e ha Q z⟩
  | _ => exact q.elim
theorem DV.tg {tg : Expr} {g : TG} {vs : List Nat} {f : WG} (h : DV X p tg g vs f) {d : PyData} {E : Ev} {N : Ev → Prop} (q : f d E N) : TGok X.K p E g d N :=
  fun H0 G H σ v j e dv Q z => h.ok d E N q H0 G H σ v j e dv Q fun σ' E' e' k _ _ => z σ' E' e' k
theorem wipe_at (σ : L2.St) : ∀ (vs : List Nat) (j : Nat), (wipe σ vs)[j]? = if j ∈ vs ∧ j < σ.length then some none else σ[j]?
  | [], j => by simp [wipe]
  | v :: vs, j => by
    show ((wipe σ vs).set v none)[j]? = _
    rw [List.getElem?_set]
    have ih := wipe_at σ vs j
    have hl := wipe_length σ vs
    by_cases h : v = j
    · subst h
      rw [if_pos rfl, hl]
      by_cases h2 : v < σ.length
      · rw [if_pos h2, if_pos ⟨List.mem_cons_self .., h2⟩]
      · rw [if_neg h2, if_neg fun z => h2 z.2, List.getElem?_eq_none (by omega)]
    · rw [if_neg h, ih]
      have e : (j ∈ v :: vs ∧ j < σ.length) ↔ (j ∈ vs ∧ j < σ.length) := by
        rw [List.mem_cons]
        exact ⟨fun z => ⟨z.1.resolve_left (Ne.symm h), z.2⟩, fun z => ⟨Or.inr z.1, z.2⟩⟩
      simp only [e]
theorem wipe_same {σ σ' : L2.St} {vs : List Nat} (hl : σ'.length = (wipe σ vs).length) (h : ∀ j, j ∉ vs → σ'[j]? = (wipe σ vs)[j]?) : wipe σ' vs = wipe σ vs := by
  have l0 := wipe_length σ vs
  refine List.ext_getElem? fun j => ?_
  rw [wipe_at]
  by_cases hj : j ∈ vs
  · rw [wipe_at]
    have e : σ'.length = σ.length := hl.trans l0
    rw [e]
    by_cases h2 : j < σ.length
    · rw [if_pos ⟨hj, h2⟩, if_pos ⟨hj, h2⟩]
    · rw [if_neg fun z => h2 z.2, if_neg fun z => h2 z.2, List.getElem?_eq_none (by omega), List.getElem?_eq_none (by omega)]
  · rw [if_neg fun z => hj z.1, h j hj]
end

/-! ### what is walked -/
/-- from G1, H1 on the walk gives the data xs, one by one -/
structure WalkD (K : PySem.W.Frag) (p : Option Addr) (Rel : Hp → Hp → Prop) (Jt : It) (xs : List PyData) : Prop where
  ex : ∃ (Gd : Hp → Prop) (Y : Nat → Hp → V → Hp → Prop), Walk Jt xs.length Gd Y ∧ (∀ G H, Rel G H → J p G H → Gd H) ∧
    ∀ i G H v H', i < xs.length → Rel G H → J p G H → Y i H v H' → ∃ G' d, Xt p G H G' H' ∧ J p G' H' ∧ xs[i]? = some d ∧ Dp K G' v d
def WI (K : PySem.W.Frag) (p : Option Addr) (E : Ev) (wi : TI) (Ψ : List PyData → Prop) : Prop :=
  ∀ (H0 G H : Hp) (σ : L2.St), J p G H → EnvOk K p H0 G H σ E → ∀ R : It → Hp → Prop,
    (∀ Jt xs G' H', Xt p G H G' H' → J p G' H' → WalkD K p (fun G2 _ => Same G' G2) Jt xs → Ψ xs → R Jt H') → wi σ H R
/-- while nothing else happens than what an expression does -/
def WIx (K : PySem.W.Frag) (p : Option Addr) (E : Ev) (wi : TI) (Ψ : List PyData → Prop) : Prop :=
  ∀ (H0 G H : Hp) (σ : L2.St), J p G H → EnvOk K p H0 G H σ E → ∀ R : It → Hp → Prop,
    (∀ Jt xs G' H', Xt p G H G' H' → J p G' H' → WalkD K p (fun G2 H2 => Xt p G' H' G2 H2) Jt xs → Ψ xs → R Jt H') → wi σ H R
theorem WI.x {K : PySem.W.Frag} {p : Option Addr} {E : Ev} {wi : TI} {Ψ : List PyData → Prop} (h : WI K p E wi Ψ) : WIx K p E wi Ψ := fun H0 G H σ j e R q =>
  h H0 G H σ j e R fun Jt xs G' H' x j' w z => q Jt xs G' H' x j' (by
    obtain ⟨Gd, Y, w1, w2, w3⟩ := w.ex
    exact ⟨⟨Gd, Y, w1, fun G2 H2 r => w2 G2 H2 r.gg, fun i G2 H2 v H3 hi r => w3 i G2 H2 v H3 hi r.gg⟩⟩) z
structure DI (X : Cx) (p : Option Addr) (tg iter : Expr) (wi : TI) (f : WL) : Prop where
  py : PI X tg iter wi
  ok : ∀ E Ψ, f E Ψ → WI X.K p E wi Ψ
structure DIx (X : Cx) (p : Option Addr) (tg iter : Expr) (wi : TI) (f : WL) : Prop where
  py : PI X tg iter wi
  ok : ∀ E Ψ, f E Ψ → WIx X.K p E wi Ψ
theorem DI.x {X : Cx} {p : Option Addr} {tg iter : Expr} {wi : TI} {f : WL} (h : DI X p tg iter wi f) : DIx X p tg iter wi f := ⟨h.py, fun E Ψ q => (h.ok E Ψ q).x⟩

section
variable {K : PySem.W.Frag} {p : Option Addr} {a b : Addr} {xs ys : List V} {ds es : List PyData} {G1 : Hp}
theorem wd_of {Jt : It} {n : Nat} {Gd : Hp → Prop} {Y : Nat → Hp → V → Hp → Prop} {zs : List PyData} (hn : zs.length = n) (w : Walk Jt n Gd Y) (hg : ∀ G H, Same G1 G → J p G H → Gd H)
    (hy : ∀ i G H v H', i < n → Same G1 G → J p G H → Y i H v H' → ∃ G' d, Xt p G H G' H' ∧ J p G' H' ∧ zs[i]? = some d ∧ Dp K G' v d) : WalkD K p (fun G2 _ => Same G1 G2) Jt zs := by
  subst hn
  exact ⟨⟨_, _, w, hg, hy⟩⟩
theorem wd_list (hs : SqL K G1 a xs) (ha : DpAll K G1 xs ds) : WalkD K p (fun G2 _ => Same G1 G2) (Itl K a) ds := by
  have hl := dpA_len ha
  refine ⟨⟨_, _, hl ▸ walk_list (xs := xs), fun G H r j => (r.trans j.sub).seq hs, fun i G H v H' hi r j y => ?_⟩⟩
  obtain ⟨rfl, hv⟩ := y
  obtain ⟨d, hd, dv⟩ := dpA_at ha hv
  exact ⟨G, d, Xt.refl, j, hd, dp_mono r d v dv⟩
theorem wd_tup (hs : SqT K G1 a xs) (ha : DpAll K G1 xs ds) : WalkD K p (fun G2 _ => Same G1 G2) (Itt K a) ds := by
  have hl := dpA_len ha
  refine ⟨⟨_, _, hl ▸ walk_tup (xs := xs), fun G H r j => sqT_mono (r.trans j.sub) hs, fun i G H v H' hi r j y => ?_⟩⟩
  obtain ⟨rfl, hv⟩ := y
  obtain ⟨d, hd, dv⟩ := dpA_at ha hv
  exact ⟨G, d, Xt.refl, j, hd, dp_mono r d v dv⟩
def rgD (lo : Int) (n : Nat) : List PyData := (List.range n).map fun (i : Nat) => .int (lo + (i : Int))
theorem wd_range {lo : Int} {n : Nat} : WalkD K p (fun G2 _ => Same G1 G2) (Itr lo n) (rgD lo n) := by
  have hl : (rgD lo n).length = n := by simp [rgD]
  refine wd_of hl (walk_range (lo := lo) (n := n)) (fun G H r j => trivial) fun i G H v H' hi r j y => ?_
  obtain ⟨rfl, hv⟩ := y
  refine ⟨G, .int (lo + (i : Int)), Xt.refl, j, by simp [rgD, hi], ?_⟩
  rw [hv]
  exact .int _
theorem wd_rangeC {lo c : Int} {n : Nat} : WalkD K p (fun G2 _ => Same G1 G2) (Itc lo c n) ((List.range n).map fun (i : Nat) => PyData.int (lo + (i : Int) * c)) := by
  have hl : ((List.range n).map fun (i : Nat) => PyData.int (lo + (i : Int) * c)).length = n := by simp
  refine wd_of hl (walk_rangeC (lo := lo) (c := c) (n := n)) (fun G H r j => trivial) fun i G H v H' hi r j y => ?_
  obtain ⟨rfl, hv⟩ := y
  refine ⟨G, .int (lo + (i : Int) * c), Xt.refl, j, by simp [hi], ?_⟩
  rw [hv]
  exact .int _
theorem wd_pair {Jt : It} {n : Nat} {Gd : Hp → Prop} {fx fy : Nat → Option V} {zs : List PyData} (hn : zs.length = n) (w : Walk Jt n Gd (YPair fx fy)) (hg : ∀ G H, Same G1 G → J p G H → Gd H)
    (h : ∀ i x y, i < n → fx i = some x → fy i = some y → ∃ d e, zs[i]? = some (.tuple [d, e]) ∧ Dp K G1 x d ∧ Dp K G1 y e) : WalkD K p (fun G2 _ => Same G1 G2) Jt zs := by
  subst hn
  refine ⟨⟨_, _, w, fun G H r j => hg G H r j, fun i G H v H' hi r j y => ?_⟩⟩
  obtain ⟨T, x, y, rfl, hT, rfl, hx, hy⟩ := y
  obtain ⟨d, e, hz, dx, dy⟩ := h i x y hi hx hy
  have x2 := Xt.laid (p := p) j (o := .tup [x, y]) hT
  exact ⟨_, _, x2, j.laid hT, hz, .tup (SqT.of upd_same) (.cons (dp_mono (r.trans x2.gg) d x dx) (.cons (dp_mono (r.trans x2.gg) e y dy) .nil))⟩
def enD (ds : List PyData) : List PyData := (ds.zipIdx).map fun q => .tuple [.int (q.2 : Nat), q.1]
theorem wd_enum (hs : SqL K G1 a xs) (ha : DpAll K G1 xs ds) : WalkD K p (fun G2 _ => Same G1 G2) (Ite K a) (enD ds) := by
  have hl := dpA_len ha
  refine wd_pair (by simp [enD, hl]) walk_enum (fun G H r j => (r.trans j.sub).seq hs) fun i x y hi hx hy => ?_
  cases hx
  obtain ⟨d, hd, dv⟩ := dpA_at ha hy
  refine ⟨.int (i : Nat), d, ?_, .int _, dv⟩
  simp [enD, hd]
def ziD (ds es : List PyData) : List PyData := (ds.zip es).map fun q => .tuple [q.1, q.2]
theorem wd_zipL (h1 : SqL K G1 a xs) (ha : DpAll K G1 xs ds) (h2 : SqL K G1 b ys) (hb : DpAll K G1 ys es) : WalkD K p (fun G2 _ => Same G1 G2) (Itz K a b) (ziD ds es) := by
  have l1 := dpA_len ha
  have l2 := dpA_len hb
  refine wd_pair (n := min xs.length ys.length) (by simp [ziD, l1, l2]) (walk_zip (xs := xs) (ys := ys) rfl) (fun G H r j => ⟨(r.trans j.sub).seq h1, (r.trans j.sub).seq h2⟩) fun i x y hi hx hy => ?_
  obtain ⟨d, hd, dv⟩ := dpA_at ha hx
  obtain ⟨d2, hd2, dv2⟩ := dpA_at hb hy
  refine ⟨d, d2, ?_, dv, dv2⟩
  simp [ziD, hd, hd2, List.zip, List.getElem?_zipWith]
theorem walk_zipT {n : Nat} (hn : n = min xs.length ys.length) : Walk (RZ.ItzT K a b) n (fun H => SqT K H a xs ∧ SqT K H b ys) (YPair (fun i => xs[i]?) (fun i => ys[i]?)) := by
  subst hn
  refine ⟨fun i H hi q => ?_, fun H q => ⟨xs, ys, q.1, q.2, by omega⟩, fun i H v H' _ q y => ?_⟩
  · exact ⟨xs, ys, xs[i]'(by omega), ys[i]'(by omega), q.1, q.2, List.getElem?_eq_getElem _, List.getElem?_eq_getElem _⟩
  · obtain ⟨T, x, z, h1, h2, h3, h4, h5⟩ := y
    exact ⟨T, x, z, h1, h2, h3, h4 xs q.1, h5 ys q.2⟩
theorem wd_zipT (h1 : SqT K G1 a xs) (ha : DpAll K G1 xs ds) (h2 : SqT K G1 b ys) (hb : DpAll K G1 ys es) : WalkD K p (fun G2 _ => Same G1 G2) (RZ.ItzT K a b) (ziD ds es) := by
  have l1 := dpA_len ha
  have l2 := dpA_len hb
  refine wd_pair (n := min xs.length ys.length) (by simp [ziD, l1, l2]) (walk_zipT (xs := xs) (ys := ys) rfl) (fun G H r j => ⟨sqT_mono (r.trans j.sub) h1, sqT_mono (r.trans j.sub) h2⟩) fun i x y hi hx hy => ?_
  obtain ⟨d, hd, dv⟩ := dpA_at ha hx
  obtain ⟨d2, hd2, dv2⟩ := dpA_at hb hy
  refine ⟨d, d2, ?_, dv, dv2⟩
  simp [ziD, hd, hd2, List.zip, List.getElem?_zipWith]
theorem wd_rev (hs : SqL K G1 a xs) (ha : DpAll K G1 xs ds) : WalkD K p (fun G2 _ => Same G1 G2) (Itv K a xs.length) ds.reverse := by
  have hl := dpA_len ha
  refine wd_of (by rw [List.length_reverse, ← hl]) (walk_rev (K := K) (a := a) (xs := xs)) (fun G H r j => (r.trans j.sub).seq hs) fun i G H v H' hi r j y => ?_
  obtain ⟨rfl, hv⟩ := y
  obtain ⟨d, hd, dv⟩ := dpA_at ha hv
  refine ⟨G, d, Xt.refl, j, ?_, dp_mono r d v dv⟩
  rw [List.getElem?_reverse (by rw [← hl]; exact hi), ← hl]
  exact hd
theorem walk_revT : Walk (RT.ItvT K a xs.length) xs.length (fun H => SqT K H a xs) (fun i H x H' => H' = H ∧ xs[xs.length - 1 - i]? = some x) :=
  ⟨fun i _ hi q => ⟨hi, xs, xs[xs.length - 1 - i]'(by omega), q, List.getElem?_eq_getElem _⟩, fun _ _ => Nat.le_refl _, fun _ _ _ _ _ q y => ⟨y.1, y.2 xs q⟩⟩
theorem wd_revT (hs : SqT K G1 a xs) (ha : DpAll K G1 xs ds) : WalkD K p (fun G2 _ => Same G1 G2) (RT.ItvT K a xs.length) ds.reverse := by
  have hl := dpA_len ha
  refine wd_of (by rw [List.length_reverse, ← hl]) (walk_revT (K := K) (a := a) (xs := xs)) (fun G H r j => sqT_mono (r.trans j.sub) hs) fun i G H v H' hi r j y => ?_
  obtain ⟨rfl, hv⟩ := y
  obtain ⟨d, hd, dv⟩ := dpA_at ha hv
  refine ⟨G, d, Xt.refl, j, ?_, dp_mono r d v dv⟩
  rw [List.getElem?_reverse (by rw [← hl]; exact hi), ← hl]
  exact hd
end
end Rim

/-! RimI: what loops and comprehensions go over; comprehensions; statements. -/
namespace Rim
open PySem PySem.Spec L2
variable [Tabs]
section
variable {X : Cx} {p : Option Addr} {tg e a b c : Expr} {es : List Expr} {te ta tb tc : TE} {fe fa fb fc : WE} {tA : TA} {fA : WL} {pos px : Pos} {tt tu : TT} {ft fu : WB} {gM : WL}

/-! ### iterables -/
def iSeq (K : PySem.W.Frag) (te : TE) : TI := fun σ H R => te σ H fun v H1 => (∃ a, v = .ref a ∧ (∃ xs, SqL K H1 a xs) ∧ R (Itl K a) H1) ∨ ∃ a, v = .ref a ∧ (∃ xs, SqT K H1 a xs) ∧ R (Itt K a) H1
theorem pi_seq (h : PE X e te) : PI X tg e (iSeq X.K te) := by
  refine ⟨fun pins s σ H R I q => ?_⟩
  refine thn (h.run pins s σ H _ I q) fun v s1 ⟨x, H1, I1, r1, q1⟩ => ?_
  rcases q1 with ⟨a, e1, ⟨xs, hq⟩, q⟩ | ⟨a, e1, ⟨xs, hq⟩, q⟩
  · subst e1
    cases r1
    obtain ⟨its, rv, p1, hz⟩ := I1.list hq
    exact wpAny_pyIter_list p1.isList (pi_one (tk := s1.toks) I1 _ (turn_list a _) ⟨_, Heap.get?_push_size _ rfl, rfl, rfl⟩ q)
  · subst e1
    cases r1
    obtain ⟨its, rv, p1, hz⟩ := I1.tuple hq
    exact wpAny_pyIter_tuple p1 (pi_one (tk := s1.toks) I1 _ (turn_tuple a _) ⟨_, Heap.get?_push_size _ rfl, rfl, rfl⟩ q)
def seD (d : PyData) (Ψ : List PyData → Prop) : Prop := match d with
  | .list ds => Ψ ds
  | .tuple ds => Ψ ds
  | _ => False
def vSeq (f : WE) : WL := fun E Ψ => f E fun d => seD d Ψ
theorem di_seq (h : DE X p e te fe) : DI X p tg e (iSeq X.K te) (vSeq fe) := by
  refine ⟨pi_seq h.py, fun E Ψ q => ?_⟩
  intro H0 G H σ j en R z
  refine h.ok E _ q H0 G H σ j en _ fun v d G1 H1 x1 j1 dv hd => ?_
  cases d with
  | list ds =>
    obtain ⟨a, xs, rfl, hs, ha⟩ := dp_lst dv
    exact Or.inl ⟨a, rfl, ⟨xs, j1.sub.seq hs⟩, z _ ds G1 H1 x1 j1 (wd_list hs ha) hd⟩
  | tuple ds =>
    obtain ⟨a, xs, rfl, hs, ha⟩ := dp_tup dv
    exact Or.inr ⟨a, rfl, ⟨xs, sqT_mono j1.sub hs⟩, z _ ds G1 H1 x1 j1 (wd_tup hs ha) hd⟩
  | _ => exact hd.elim
/-- a list of one's own, in a comprehension -/
def vSeqV (i : Nat) : WL := fun E Ψ => match geE E i with
  | .m ds => Ψ ds
  | .d d => seD d Ψ
  | _ => False
theorem dix_var {i : Nat} {x : Str} (hN : X.N[i]? = some x) (hv : Vis X.env.scope x) (hd : (x == ("__debug__" : Str)) = false := by decide) (hcd : (x == ("__classdict__" : Str)) = false := by decide) :
    DIx X p tg (.Name x pos) (iSeq X.K (tVar i)) (vSeqV i) := by
  refine ⟨pi_seq (pe_var hN hv hd hcd), fun E Ψ q => ?_⟩
  unfold vSeqV at q
  split at q
  · rename_i ds w
    intro H0 G H σ j en R z
    obtain ⟨l, vs, h1, h2, h3, h4, h5, h6⟩ := en.own (geE_ok w Sl.noConfusion)
    refine ⟨_, h1, Or.inl ⟨l, rfl, ⟨vs, SqL.of h2⟩, z _ ds G H Xt.refl j ?_ q⟩⟩
    have hl := dpA_len h3
    refine ⟨⟨_, _, hl ▸ walk_list (K := X.K) (a := l) (xs := vs), fun G2 H2 r j2 => SqL.of (r.hh l _ h5 (fun _ z => by cases z) h2), fun k G2 H2 v H3 hi r j2 y => ?_⟩⟩
    obtain ⟨rfl, hv⟩ := y
    obtain ⟨d, hd, dv⟩ := dpA_at h3 hv
    exact ⟨G2, d, Xt.refl, j2, hd, dp_mono r.gg d v dv⟩
  · rename_i d w
    exact ((di_seq (X := X) (p := p) (tg := tg) (de_var (pos := pos) hN hv hd hcd)).ok E Ψ (by
      show vVar i E _
      unfold vVar
      rw [w]
      exact q)).x
  · exact q.elim
def r1D (ds : List PyData) (Ψ : List PyData → Prop) : Prop := match ds with
  | [.int n] => (-(2 ^ 62) ≤ n ∧ n < 2 ^ 62) ∧ Ψ (rgD 0 n.toNat)
  | _ => False
def vR1 (f : WL) : WL := fun E Ψ => f E fun ds => r1D ds Ψ
theorem di_range1 (hg : Gl X "range") (hm : X.mg "range" = none) (ha : DA X p [a] tA fA) (hs : starEach [a] X.env = [(false, eval a X.env)] := by rfl) : DI X p tg (.Call (.Name "range" px) [a] [] pos) (iRng1 tA) (vR1 fA) := by
  refine ⟨pi_range1 hg hm ha.py hs, fun E Ψ q => ?_⟩
  intro H0 G H σ j en R z
  refine ha.ok E _ q H0 G H σ j en _ fun vs ds G1 H1 x1 j1 dv hd => ?_
  have hd2 := hd.2
  unfold r1D at hd2
  split at hd2
  · rename_i n
    cases dv with
    | cons d1 dr =>
      cases dr
      rw [dp_int d1]
      exact ⟨n, rfl, hd2.1.1, hd2.1.2, z _ _ G1 H1 x1 j1 wd_range hd2.2⟩
  · exact hd2.elim
def r2D (ds : List PyData) (Ψ : List PyData → Prop) : Prop := match ds with
  | [.int a, .int b] => (-(2 ^ 62) ≤ a ∧ a < 2 ^ 62 ∧ -(2 ^ 62) ≤ b ∧ b < 2 ^ 62) ∧ Ψ (rgD a (b - a).toNat)
  | _ => False
def vR2 (f : WL) : WL := fun E Ψ => f E fun ds => r2D ds Ψ
theorem di_range2 (hg : Gl X "range") (hm : X.mg "range" = none) (ha : DA X p [a, b] tA fA) (hs : starEach [a, b] X.env = [(false, eval a X.env), (false, eval b X.env)] := by rfl) (hs2 : starEach [b] X.env = [(false, eval b X.env)] := by rfl) :
    DI X p tg (.Call (.Name "range" px) [a, b] [] pos) (iRng2 tA) (vR2 fA) := by
  refine ⟨pi_range2 hg hm ha.py hs hs2, fun E Ψ q => ?_⟩
  intro H0 G H σ j en R z
  refine ha.ok E _ q H0 G H σ j en _ fun vs ds G1 H1 x1 j1 dv hd => ?_
  have hd2 := hd.2
  unfold r2D at hd2
  split at hd2
  · rename_i n m
    cases dv with
    | cons d1 dr =>
      cases dr with
      | cons d2 dr =>
        cases dr
        rw [dp_int d1, dp_int d2]
        exact ⟨n, m, rfl, hd2.1, z _ _ G1 H1 x1 j1 wd_range hd2.2⟩
  · exact hd2.elim
def enumD (ds : List PyData) (Ψ : List PyData → Prop) : Prop := match ds with
  | [.list ds] => Ψ (enD ds)
  | _ => False
def vEnum (f : WL) : WL := fun E Ψ => f E fun ds => enumD ds Ψ
theorem di_enum {elts : List Expr} {kk : Nat} {tpos : Pos} (hg : Gl X "enumerate") (hm : X.mg "enumerate" = none) (ha : DA X p [e] tA fA) (hs : starEach [e] X.env = [(false, eval e X.env)] := by rfl) :
    DI X p (.Tuple elts kk tpos) (.Call (.Name "enumerate" px) [e] [] pos) (iEnum X.K tA) (vEnum fA) := by
  refine ⟨pi_enum hg hm ha.py hs, fun E Ψ q => ?_⟩
  intro H0 G H σ j en R z
  refine ha.ok E _ q H0 G H σ j en _ fun vs ds G1 H1 x1 j1 dv hd => ?_
  have hd2 := hd.2
  unfold enumD at hd2
  split at hd2
  · rename_i ds
    cases dv with
    | cons d1 dr =>
      cases dr
      obtain ⟨a, xs, rfl, hs, ha⟩ := dp_lst d1
      exact ⟨a, xs, rfl, j1.sub.seq hs, z _ _ G1 H1 x1 j1 (wd_enum hs ha) hd2⟩
  · exact hd2.elim
def zipD (ds : List PyData) (Ψ : List PyData → Prop) : Prop := match ds with
  | [.list a, .list b] => Ψ (ziD a b)
  | [.tuple a, .tuple b] => Ψ (ziD a b)
  | _ => False
def vZip (f : WL) : WL := fun E Ψ => f E fun ds => zipD ds Ψ
theorem di_zip {e2 : Expr} {elts : List Expr} {kk : Nat} {tpos : Pos} (hg : Gl X "zip") (hm : X.mg "zip" = none) (ha : DA X p [e, e2] tA fA)
    (hs : starEach [e, e2] X.env = (false, eval e X.env) :: starEach [e2] X.env := by rfl) (hpl : (backTo pos (starEach [e2] X.env)).any (·.1) = false := by rfl) :
    DI X p (.Tuple elts kk tpos) (.Call (.Name "zip" px) [e, e2] [] pos) (RZ.iZipA X.K tA) (vZip fA) := by
  refine ⟨RZ.pi_zipA hg hm ha.py hs hpl, fun E Ψ q => ?_⟩
  intro H0 G H σ j en R z
  refine ha.ok E _ q H0 G H σ j en _ fun vs ds G1 H1 x1 j1 dv hd => ?_
  have hd2 := hd.2
  unfold zipD at hd2
  split at hd2
  · cases dv with
    | cons d1 dr =>
      cases dr with
      | cons d2 dr =>
        cases dr
        obtain ⟨a, xs, rfl, hs, ha⟩ := dp_lst d1
        obtain ⟨b, ys, rfl, hs2, hb⟩ := dp_lst d2
        exact ⟨a, b, xs, ys, rfl, Or.inl ⟨j1.sub.seq hs, j1.sub.seq hs2, z _ _ G1 H1 x1 j1 (wd_zipL hs ha hs2 hb) hd2⟩⟩
  · cases dv with
    | cons d1 dr =>
      cases dr with
      | cons d2 dr =>
        cases dr
        obtain ⟨a, xs, rfl, hs, ha⟩ := dp_tup d1
        obtain ⟨b, ys, rfl, hs2, hb⟩ := dp_tup d2
        exact ⟨a, b, xs, ys, rfl, Or.inr ⟨sqT_mono j1.sub hs, sqT_mono j1.sub hs2, z _ _ G1 H1 x1 j1 (wd_zipT hs ha hs2 hb) hd2⟩⟩
  · exact hd2.elim
def vRev (f : WE) : WL := fun E Ψ => f E fun d => seD d fun ds => Ψ ds.reverse
theorem di_rev (hg : Gl X "reversed") (hm : X.mg "reversed" = none) (h : DE X p e te fe) (hs : starEach [e] X.env = (false, eval e X.env) :: starEach [] X.env := by rfl) :
    DI X p tg (.Call (.Name "reversed" px) [e] [] pos) (RT.iRevA X.K te) (vRev fe) := by
  refine ⟨RT.pi_revA hg hm h.py hs, fun E Ψ q => ?_⟩
  intro H0 G H σ j en R z
  refine h.ok E _ q H0 G H σ j en _ fun v d G1 H1 x1 j1 dv hd => ?_
  cases d with
  | list ds =>
    obtain ⟨a, xs, rfl, hs, ha⟩ := dp_lst dv
    exact ⟨a, xs, rfl, Or.inl ⟨j1.sub.seq hs, z _ _ G1 H1 x1 j1 (wd_rev hs ha) hd⟩⟩
  | tuple ds =>
    obtain ⟨a, xs, rfl, hs, ha⟩ := dp_tup dv
    exact ⟨a, xs, rfl, Or.inr ⟨sqT_mono j1.sub hs, z _ _ G1 H1 x1 j1 (wd_revT hs ha) hd⟩⟩
  | _ => exact hd.elim

/-! ### comprehensions -/
def lcW (turn : PyData → (Option PyData → Prop) → Prop) : List PyData → List PyData → (List PyData → Prop) → Prop
  | [], acc, Ψ => Ψ acc
  | x :: xs, acc, Ψ => turn x fun o => lcW turn xs (acc ++ o.toList) Ψ
def clE : Ev → Nat → Ev
  | [], _ => []
  | _ :: E, 0 => .un :: E
  | x :: E, i + 1 => x :: clE E i
def cleE (E : Ev) : List Nat → Ev
  | [] => E
  | v :: vs => clE (cleE E vs) v
theorem clE_eq : ∀ {E : Ev} {i : Nat}, clE E i = E.set i .un
  | [], _ => rfl
  | _ :: _, 0 => rfl
  | x :: E, i + 1 => congrArg (x :: ·) (clE_eq (E := E))
theorem cleE_eq {E : Ev} : ∀ {vs : List Nat}, cleE E vs = wipeE E vs
  | [] => rfl
  | v :: vs => by
    show clE (cleE E vs) v = (wipeE E vs).set v .un
    rw [clE_eq, cleE_eq]
def vTurn (vs : List Nat) (g : WG) (tt : WB) (el : WE) (E : Ev) : PyData → (Option PyData → Prop) → Prop := fun x Kt =>
  g x (cleE E vs) fun E1 => tt E1 fun b => ifB b (el E1 fun y => Kt (some y)) (Kt none)
def vLc (vs : List Nat) (it : WL) (g : WG) (tt : WB) (el : WE) : WL := fun E Ψ => it E fun xs => xs.length ≤ sizeLine ∧ lcW (vTurn vs g tt el E) xs [] Ψ
/-- a test without words -/
def vYes : WB := fun _ Θ => Θ true
structure DTs (X : Cx) (p : Option Addr) (es : List Expr) (t : TT) (f : WB) : Prop where
  py : PTs X es t
  ok : ∀ E Θ, f E Θ → WT X.K p E t Θ
theorem dts_nil : DTs X p [] tYes vYes := ⟨pts_nil, fun _ _ h => WT_yes h⟩
theorem dts_one (h : DT X p c tt ft) : DTs X p [c] tt ft := ⟨pts_one h.py, h.ok⟩
theorem dm_lc {elt iter : Expr} {ifs : List Expr} {scope : Scope} {own : List (Str × Nat)} {wi : TI} {g : TG} {vs : List Nat} {fi : WL} {fg : WG} (s0 : Shared) (hc : X.calm = true) (hN : X.N.Nodup) (hi : DIx X p tg iter wi fi) (ok : BlkOk X.N X.env.scope scope own) (hvs : vs = own.map (·.2))
    (hg : ∀ (s : Shared) (H : Hp) (C : Addr) (cl : List (Str × Addr)) (fp : List Addr), DV (X.blk s H scope (compEnvC scope cl C X.env) fp) p tg g vs fg) (ht : ∀ (s : Shared) (H : Hp) (C : Addr) (cl : List (Str × Addr)) (fp : List Addr), DTs (X.blk s H scope (compEnvC scope cl C X.env) fp) p ifs tt ft)
    (he : ∀ (s : Shared) (H : Hp) (C : Addr) (cl : List (Str × Addr)) (fp : List Addr), DE (X.blk s H scope (compEnvC scope cl C X.env) fp) p elt te fe) (hs : ∀ x, foldedSetIterable iter X.env x = pure x := by intro _; rfl) :
    DM X p (.ListComp elt [⟨tg, iter, ifs, 0⟩] scope pos) (tLc wi g tt te (own.map (·.2))) (vLc vs fi fg ft fe) := by
  subst hvs
  refine ⟨pe_lc hc hN hi.py ok (fun s H C cl fp => (hg s H C cl fp).py) (fun s H C cl fp => (ht s H C cl fp).py) (fun s H C cl fp => (he s H C cl fp).py) hs, fun E Ψ q => ?_⟩
  intro H0 G H σ j en Q z
  refine hi.ok E _ q H0 G H σ j en _ fun Jt xs G1 H1 x1 j1 w hx => ?_
  obtain ⟨hz, hl⟩ := hx
  intro D hD
  obtain ⟨Gd, Y, w1, w2, w3⟩ := w.ex
  refine lc_it w1 (fun k H' => Grow X.K p G1 H1 D k (fun acc => lcW (vTurn (own.map (·.2)) fg ft fe E) (xs.drop k) acc Ψ) H') (grow_start hD j1 hl) (fun k H' _ q => ?_) (fun k v H' H2 hk q y => ?_) fun H' q => ?_
  · obtain ⟨G', us, acc, x', j', _⟩ := q
    exact w2 G' H' x' j'
  · have q0 := q
    obtain ⟨G', us, acc, x', j', h1, h2, h3, h4, h5⟩ := q
    obtain ⟨G2, d, x2, j2, hd, dv⟩ := w3 k G' H' v H2 hk x' j' y
    have e5 : xs.drop k = d :: xs.drop (k + 1) := by
      rw [List.drop_eq_getElem_cons hk]
      congr 1
      exact Option.some.inj ((List.getElem?_eq_getElem hk).symm.trans hd)
    rw [e5] at h5
    have h6 : fg d (cleE E (own.map (·.2))) fun E1 => ft E1 fun b => ifB b (fe E1 fun y => lcW (vTurn (own.map (·.2)) fg ft fe E) (xs.drop (k + 1)) (acc ++ [y]) Ψ) (lcW (vTurn (own.map (·.2)) fg ft fe E) (xs.drop (k + 1)) (acc ++ []) Ψ) := h5
    have x12 := x'.trans x2
    have e2 := en.mono (x1.trans x12)
    have ew : EnvOk X.K p H0 G2 H2 (wipe σ (own.map (·.2))) (cleE E (own.map (·.2))) := by
      rw [cleE_eq]
      exact env_wipe e2 _
    have blk := ((hg s0 H 0 [] []).ok d (cleE E (own.map (·.2))) _ h6) H0 G2 H2 _ v j2 ew dv
    refine blk _ fun σ2 E2 e3 k2 l2 a2 => ⟨wipe_same l2 a2, ?_⟩
    refine (ht s0 H 0 [] []).ok E2 _ k2 H0 G2 H2 σ2 j2 e3 _ fun b G3 H3 x3 j3 hb => ?_
    have hD2 := x2.hh D _ (j1.ne hD) (fun _ z => by cases z) h1
    have hD3 := x3.hh D _ (j1.ne hD) (fun _ z => by cases z) hD2
    have hG2 := x2.fr D (j1.ne hD) (by rw [h1]; exact Option.some_ne_none _) h2
    have hG3 := x3.fr D (j1.ne hD) (by rw [hD2]; exact Option.some_ne_none _) hG2
    have g3 := x2.gg.trans x3.gg
    cases b with
    | false => exact iteF ⟨G3, us, acc, x12.trans x3, j3, hD3, hG3, dpA_mono g3 acc us h3, by omega, by
        have hb2 : lcW (vTurn (own.map (·.2)) fg ft fe E) (xs.drop (k + 1)) (acc ++ []) Ψ := hb
        rw [List.append_nil] at hb2
        exact hb2⟩
    | true =>
      refine iteT ((he s0 H 0 [] []).ok E2 _ hb H0 G3 H3 σ2 j3 (e3.mono x3) _ fun y d2 G4 H4 x4 j4 dy hd2 => ?_)
      have hD4 := x4.hh D _ (j1.ne hD) (fun _ z => by cases z) hD3
      have hG4 := x4.fr D (j1.ne hD) (by rw [hD3]; exact Option.some_ne_none _) hG3
      have d4 := dpA_mono (g3.trans x4.gg) acc us h3
      refine ⟨us, hD4, by rw [dpA_len d4]; omega, G4, us ++ [y], acc ++ [d2], ((x12.trans x3).trans x4).chg hD, j4.madeL hG4 (j1.ne hD) hD4, upd_same, hG4, dpA_append d4 (.cons dy .nil), ?_, hd2⟩
      rw [List.length_append, List.length_singleton]
      omega
  · obtain ⟨G', us, acc, x', j', hD', hG', da, hl2, hi2⟩ := q
    have hn : H D = none := by
      cases z2 : H D with
      | none => rfl
      | some o =>
        rw [(x1.some (j1.ne hD) z2).choose_spec] at hD
        cases hD
    rw [List.drop_length] at hi2
    exact z D us acc G' H' (x1.trans x') j' hn hD' hG' da hi2
end
end Rim

/-! RimJ: statements by what they come to. -/
namespace Rim
open PySem PySem.Spec PyProof.Rows L2
variable [Tabs]
section
variable {K : PySem.W.Frag} {p : Option Addr} {E : Ev} {te : TE} {N B C : Ev → Prop} {R : PyData → Prop} {t u : TS} {tt : TT}
theorem S_asgM2 {i : Nat} (h : WM K p E te fun ds => puE E i (.m ds) N) : S K p E (tAsg te (gName i)) N R B C := fun G0 H0 G H σ x j e D q =>
  h H0 G H σ j e _ fun l vs ds G' H' x' j' hn hl hg dv hd => by
    obtain ⟨hi, hd⟩ := puE_ok hd
    refine q.nx _ _ G' H' (x.trans x') j' ((e.mono x').setM (by rw [e.len]; exact hi) (fun k es m h1 h2 => ?_) hl dv hg (j.ne hn) (x.fresh j hn)) hd
    obtain ⟨l', vs', z1, z2, _⟩ := e.own h1
    rw [z1] at h2
    cases h2
    exact ne_of_none z2 hn
def two (ds : List PyData) (k : PyData → PyData → Prop) : Prop := match ds with
  | [a, b] => k a b
  | _ => False
def three (ds : List PyData) (k : PyData → PyData → PyData → Prop) : Prop := match ds with
  | [a, b, c] => k a b c
  | _ => False
theorem S_par2 {i k : Nat} {tr : TA} (h : WA K p E tr fun ds => two ds fun a b => puE E i (.d a) fun E1 => puE E1 k (.d b) N) : S K p E (tPar i k tr) N R B C := fun G0 H0 G H σ x j e D q =>
  h H0 G H σ j e _ fun vs ds G' H' x' j' dv hd => by
    have hd : two ds fun a b => puE E i (.d a) fun E1 => puE E1 k (.d b) N := hd
    unfold two at hd
    split at hd
    · cases dv with
      | cons da dv =>
        cases dv with
        | cons db dv =>
          cases dv
          obtain ⟨h1, hd⟩ := puE_ok hd
          obtain ⟨h2, hd⟩ := puE_ok hd
          refine ⟨_, _, rfl, q.nx _ _ G' H' (x.trans x') j' (((e.mono x').setD (by rw [e.len]; exact h1) da).setD ?_ db) hd⟩
          rw [List.length_set, e.len]
          rw [List.length_set] at h2
          exact h2
    · exact hd.elim
theorem S_par32 {i k m : Nat} {tr : TA} (h : WA K p E tr fun ds => three ds fun a b c => puE E i (.d a) fun E1 => puE E1 k (.d b) fun E2 => puE E2 m (.d c) N) : S K p E (tPar3 i k m tr) N R B C := fun G0 H0 G H σ x j e D q =>
  h H0 G H σ j e _ fun vs ds G' H' x' j' dv hd => by
    have hd : three ds fun a b c => puE E i (.d a) fun E1 => puE E1 k (.d b) fun E2 => puE E2 m (.d c) N := hd
    unfold three at hd
    split at hd
    · cases dv with
      | cons da dv =>
        cases dv with
        | cons db dv =>
          cases dv with
          | cons dc dv =>
            cases dv
            obtain ⟨h1, hd⟩ := puE_ok hd
            obtain ⟨h2, hd⟩ := puE_ok hd
            obtain ⟨h3, hd⟩ := puE_ok hd
            rw [List.length_set] at h2
            rw [List.length_set, List.length_set] at h3
            refine ⟨_, _, _, rfl, q.nx _ _ G' H' (x.trans x') j' ((((e.mono x').setD (by rw [e.len]; exact h1) da).setD ?_ db).setD ?_ dc) hd⟩
            · rw [List.length_set, e.len]
              exact h2
            · rw [List.length_set, List.length_set, e.len]
              exact h3
    · exact hd.elim
end
section
variable {X : Cx} {p : Option Addr} {tg e a b c : Expr} {es : List Expr} {te ta tb tc : TE} {fe fa fb fc : WE} {tA : TA} {fA : WL} {pos px : Pos} {tt tu : TT} {ft fu : WB} {gM : WL}
  {s : Stmt} {ss : List Stmt} {ts us : TS} {fs gs : WS}
def vNext : WS := fun E P => P.N E
def vSeqS (f g : WS) : WS := fun E P => f E ⟨fun E' => g E' P, P.R, P.B, P.C⟩
theorem dss_nil : DSs X p [] tNext vNext := ⟨pss_nil, fun _ _ h => S_next h⟩
theorem dss_one (h : DS X p s ts fs) : DSs X p [s] ts fs := ⟨pss_one h.py, h.ok⟩
theorem dss_cons (h : DS X p s ts fs) (k : DSs X p ss us gs) : DSs X p (s :: ss) (tSeq ts us) (vSeqS fs gs) :=
  ⟨pss_cons h.py k.py, fun E P q => S_seq ((h.ok E _ q).imp (fun E' z => k.ok E' P z) (fun _ z => z) (fun _ z => z) fun _ z => z)⟩
/-- a list of one's own is one's own no longer -/
def vFroze (i : Nat) (f : WS) : WS := fun E P => match geE E i with
  | .m ds => f (moE E i ds) P
  | _ => f E P
theorem dss_froze (i : Nat) (h : DSs X p ss us gs) : DSs X p ss us (vFroze i gs) := by
  refine ⟨h.py, fun E P q => ?_⟩
  unfold vFroze at q
  split at q
  · rename_i ds w
    rw [moE_eq] at q
    exact S_froze (geE_ok w Sl.noConfusion) (h.ok _ P q)
  · exact h.ok E P q
def vAsg (i : Nat) (f : WE) : WS := fun E P => f E fun d => puE E i (.d d) P.N
theorem S_set2 {K : PySem.W.Frag} {E : Ev} {N B C : Ev → Prop} {R : PyData → Prop} {i : Nat} (h : W K p E te fun d => puE E i (.d d) N) : S K p E (tAsg te (gName i)) N R B C :=
  S_asgG (h.imp fun d hd => TG_name (puE_ok hd).1 (puE_ok hd).2)
theorem ds_set {i : Nat} {x : Str} {pos' : Pos} (hN : X.N.Nodup) (hi : X.N[i]? = some x) (hx : Loc X.env.scope x) (he : DE X p e te fe) (hs : swapsWith e (some (.Name x pos')) pos.line X.env = pure false := by rfl)
    (hf : X.fn x = true ∨ X.env.scope.names.lookup x = some .local := by first | exact .inl rfl | exact .inr rfl | assumption) : DS X p (.Assign [.Name x pos'] e pos) (tAsg te (gName i)) (vAsg i fe) :=
  ⟨ps_set hN hi hx he.py hs hf, fun E P q => S_set2 (he.ok E _ q)⟩
def vAsgM (i : Nat) (f : WL) : WS := fun E P => f E fun ds => puE E i (.m ds) P.N
theorem ds_setM {i : Nat} {x : Str} {pos' : Pos} (hN : X.N.Nodup) (hi : X.N[i]? = some x) (hx : Loc X.env.scope x) (he : DM X p e te gM) (hs : swapsWith e (some (.Name x pos')) pos.line X.env = pure false := by rfl)
    (hf : X.fn x = true ∨ X.env.scope.names.lookup x = some .local := by first | exact .inl rfl | exact .inr rfl | assumption) : DS X p (.Assign [.Name x pos'] e pos) (tAsg te (gName i)) (vAsgM i gM) :=
  ⟨ps_set hN hi hx he.py hs hf, fun E P q => S_asgM2 (he.ok E _ q)⟩
/-- y = [..], the comprehension's own store -/
structure DLc (X : Cx) (p : Option Addr) (s : Stmt) (i : Nat) (te : TE) (f : WL) : Prop where
  py : PS X s (tAsg te (gName i))
  ok : ∀ E Ψ, f E Ψ → WM X.K p E te Ψ
theorem ds_lc {i : Nat} (h : DLc X p s i te gM) : DS X p s (tAsg te (gName i)) (vAsg i (vOf gM)) := ⟨h.py, fun E P q => S_set2 (W_of_WM (h.ok E _ q))⟩
theorem ds_lcM {i : Nat} (h : DLc X p s i te gM) : DS X p s (tAsg te (gName i)) (vAsgM i gM) := ⟨h.py, fun E P q => S_asgM2 (h.ok E _ q)⟩
theorem dl_lc {elt iter : Expr} {ifs : List Expr} {scope : Scope} {own : List (Str × Nat)} {wi : TI} {g : TG} {vs : List Nat} {fi : WL} {fg : WG} {i : Nat} {y : Str} {py spos : Pos} (s0 : Shared) (hc : X.calm = true) (hN : X.N.Nodup)
    (hy : X.N[i]? = some y) (hyl : X.env.scope.names.lookup y = some .local) (hsw : swapsWith (.ListComp elt [⟨tg, iter, ifs, 0⟩] scope pos) (some (.Name y py)) spos.line X.env = pure true)
    (hi : DIx X p tg iter wi fi) (ok : BlkOk X.N X.env.scope scope own) (hvs : vs = own.map (·.2))
    (hg : ∀ (s : Shared) (H : Hp) (C : Addr) (cl : List (Str × Addr)) (fp : List Addr), DV (X.blk s H scope (compEnvC scope cl C X.env) fp) p tg g vs fg) (ht : ∀ (s : Shared) (H : Hp) (C : Addr) (cl : List (Str × Addr)) (fp : List Addr), DTs (X.blk s H scope (compEnvC scope cl C X.env) fp) p ifs tt ft)
    (he : ∀ (s : Shared) (H : Hp) (C : Addr) (cl : List (Str × Addr)) (fp : List Addr), DE (X.blk s H scope (compEnvC scope cl C X.env) fp) p elt te fe) (hs : ∀ x, foldedSetIterable iter X.env x = pure x := by intro _; rfl) :
    DLc X p (.Assign [.Name y py] (.ListComp elt [⟨tg, iter, ifs, 0⟩] scope pos) spos) i (tLc wi g tt te (own.map (·.2))) (vLc vs fi fg ft fe) :=
  ⟨ps_setLc hc hN hy hyl hsw hi.py ok (fun s H C cl fp => (hg s H C cl fp).py) (fun s H C cl fp => (ht s H C cl fp).py) (fun s H C cl fp => (he s H C cl fp).py) hs,
    (dm_lc s0 hc hN hi ok hvs hg ht he hs (pos := pos)).ok⟩
theorem ds_lcA {elt iter : Expr} {ifs : List Expr} {scope : Scope} {own : List (Str × Nat)} {wi : TI} {g : TG} {vs : List Nat} {fi : WL} {fg : WG} {i : Nat} {y : Str} {py spos : Pos} (s0 : Shared) (hc : X.calm = true) (hN : X.N.Nodup)
    (hy : X.N[i]? = some y) (hyl : X.env.scope.names.lookup y = some .local) (hsw : swapsWith (.ListComp elt [⟨tg, iter, ifs, 0⟩] scope pos) (some (.Name y py)) spos.line X.env = pure true)
    (hi : DIx X p tg iter wi fi) (ok : BlkOk X.N X.env.scope scope own) (hvs : vs = own.map (·.2))
    (hg : ∀ (s : Shared) (H : Hp) (C : Addr) (cl : List (Str × Addr)) (fp : List Addr), DV (X.blk s H scope (compEnvC scope cl C X.env) fp) p tg g vs fg) (ht : ∀ (s : Shared) (H : Hp) (C : Addr) (cl : List (Str × Addr)) (fp : List Addr), DTs (X.blk s H scope (compEnvC scope cl C X.env) fp) p ifs tt ft)
    (he : ∀ (s : Shared) (H : Hp) (C : Addr) (cl : List (Str × Addr)) (fp : List Addr), DE (X.blk s H scope (compEnvC scope cl C X.env) fp) p elt te fe) (hs : ∀ x, foldedSetIterable iter X.env x = pure x := by intro _; rfl) :
    DS X p (.Assign [.Name y py] (.ListComp elt [⟨tg, iter, ifs, 0⟩] scope pos) spos) (tAsg (tLc wi g tt te (own.map (·.2))) (gName i)) (vAsg i (vOf (vLc vs fi fg ft fe))) :=
  ds_lc (dl_lc s0 hc hN hy hyl hsw hi ok hvs hg ht he hs)
theorem ds_lcB {elt iter : Expr} {ifs : List Expr} {scope : Scope} {own : List (Str × Nat)} {wi : TI} {g : TG} {vs : List Nat} {fi : WL} {fg : WG} {i : Nat} {y : Str} {py spos : Pos} (s0 : Shared) (hc : X.calm = true) (hN : X.N.Nodup)
    (hy : X.N[i]? = some y) (hyl : X.env.scope.names.lookup y = some .local) (hsw : swapsWith (.ListComp elt [⟨tg, iter, ifs, 0⟩] scope pos) (some (.Name y py)) spos.line X.env = pure true)
    (hi : DIx X p tg iter wi fi) (ok : BlkOk X.N X.env.scope scope own) (hvs : vs = own.map (·.2))
    (hg : ∀ (s : Shared) (H : Hp) (C : Addr) (cl : List (Str × Addr)) (fp : List Addr), DV (X.blk s H scope (compEnvC scope cl C X.env) fp) p tg g vs fg) (ht : ∀ (s : Shared) (H : Hp) (C : Addr) (cl : List (Str × Addr)) (fp : List Addr), DTs (X.blk s H scope (compEnvC scope cl C X.env) fp) p ifs tt ft)
    (he : ∀ (s : Shared) (H : Hp) (C : Addr) (cl : List (Str × Addr)) (fp : List Addr), DE (X.blk s H scope (compEnvC scope cl C X.env) fp) p elt te fe) (hs : ∀ x, foldedSetIterable iter X.env x = pure x := by intro _; rfl) :
    DS X p (.Assign [.Name y py] (.ListComp elt [⟨tg, iter, ifs, 0⟩] scope pos) spos) (tAsg (tLc wi g tt te (own.map (·.2))) (gName i)) (vAsgM i (vLc vs fi fg ft fe)) :=
  ds_lcM (dl_lc s0 hc hN hy hyl hsw hi ok hvs hg ht he hs)
def vAsgG (f : WE) (g : WG) : WS := fun E P => f E fun d => g d E P.N
theorem ds_asg {g : TG} {vs : List Nat} {fg : WG} (he : DE X p e te fe) (hg : DV X p tg g vs fg) (hs : swapsWithSole [tg] e pos.line X.env = pure false := by rfl) (hw : swappedStores [tg] e X.env = pure none := by rfl)
    (h1 : (assignEach [tg] X.env).map (·.2) = [assign tg X.env] := by rfl) : DS X p (.Assign [tg] e pos) (tAsg te g) (vAsgG fe fg) :=
  ⟨ps_asg he.py hg.py hs hw h1, fun E P q => S_asgG ((he.ok E _ q).imp fun d hd => hg.tg hd)⟩
def vPar (i k : Nat) (f : WL) : WS := fun E P => f E fun ds => two ds fun a b => puE E i (.d a) fun E1 => puE E1 k (.d b) P.N
theorem ds_par {i j : Nat} {x y : Str} {px py pt : Pos} {kt k2 pt2} (hc : X.calm = true) (hN : X.N.Nodup) (hi : X.N[i]? = some x) (hj : X.N[j]? = some y) (hij : i ≠ j)
    (hx : X.env.scope.names.lookup x = some .local) (hy : X.env.scope.names.lookup y = some .local) (ha : DA X p [a, b] tA fA)
    (hw : swappedStores [.Tuple [.Name x px, .Name y py] kt pt] (.Tuple [a, b] k2 pt2) X.env = pure (some [x, y]))
    (hs : swapsWithSole [.Tuple [.Name x px, .Name y py] kt pt] (.Tuple [a, b] k2 pt2) pos.line X.env = pure false := by rfl) :
    DS X p (.Assign [.Tuple [.Name x px, .Name y py] kt pt] (.Tuple [a, b] k2 pt2) pos) (tPar i j tA) (vPar i j fA) :=
  ⟨ps_par hc hN hi hj hij hx hy ha.py hw hs, fun E P q => S_par2 ((ha.ok E _ q).imp fun ds hd => hd.2)⟩
def vPar3 (i k m : Nat) (f : WL) : WS := fun E P => f E fun ds => three ds fun a b c => puE E i (.d a) fun E1 => puE E1 k (.d b) fun E2 => puE E2 m (.d c) P.N
theorem ds_par3 {i j l : Nat} {x y z : Str} {px py pz pt : Pos} {kt k2 pt2} (hc : X.calm = true) (hN : X.N.Nodup) (hi : X.N[i]? = some x) (hj : X.N[j]? = some y) (hl : X.N[l]? = some z) (hij : i ≠ j) (hil : i ≠ l) (hjl : j ≠ l)
    (hx : X.env.scope.names.lookup x = some .local) (hy : X.env.scope.names.lookup y = some .local) (hz : X.env.scope.names.lookup z = some .local) (ha : DA X p [a, b, c] tA fA)
    (hw : swappedStores [.Tuple [.Name x px, .Name y py, .Name z pz] kt pt] (.Tuple [a, b, c] k2 pt2) X.env = pure (some [x, y, z]))
    (hs : swapsWithSole [.Tuple [.Name x px, .Name y py, .Name z pz] kt pt] (.Tuple [a, b, c] k2 pt2) pos.line X.env = pure false := by rfl) :
    DS X p (.Assign [.Tuple [.Name x px, .Name y py, .Name z pz] kt pt] (.Tuple [a, b, c] k2 pt2) pos) (tPar3 i j l tA) (vPar3 i j l fA) :=
  ⟨ps_par3 hc hN hi hj hl hij hil hjl hx hy hz ha.py hw hs, fun E P q => S_par32 ((ha.ok E _ q).imp fun ds hd => hd.2)⟩
def vRet (f : WE) : WS := fun E P => f E P.R
theorem ds_ret (h : DE X p e te fe) : DS X p (.Return (some e) pos) (tRet te) (vRet fe) := ⟨ps_ret h.py, fun E P q => S_ret (h.ok E _ q)⟩
def vRetN : WS := fun _ P => P.R .none
theorem ds_retN : DS X p (.Return none pos) tRetN vRetN := ⟨ps_retN, fun _ _ q => S_retN q⟩
def vIfS (f : WB) (g h : WS) : WS := fun E P => f E fun b => ifB b (g E P) (h E P)
theorem ds_if {sa sb : List Stmt} {t1 t2 : TS} {f1 f2 : WS} (hc : DT X p c tt ft) (ha : DSs X p sa t1 f1) (hb : DSs X p sb t2 f2) : DS X p (.If c sa sb pos) (tIfS tt t1 t2) (vIfS ft f1 f2) :=
  ⟨ps_if hc.py ha.py hb.py, fun E P q => S_if ((hc.ok E _ q).imp fun b hb' => ⟨fun z => ha.ok E P ((ifB_to hb').1 z), fun z => hb.ok E P ((ifB_to hb').2 z)⟩)⟩
def vDrop (f : WE) : WS := fun E P => f E fun _ => P.N E
theorem ds_expr (h : DE X p e te fe) (hs : swapsWith e none pos.line X.env = pure false := by rfl) : DS X p (.Expr e pos) (tDrop te) (vDrop fe) := ⟨ps_expr h.py hs, fun E P q => S_drop (h.ok E _ q)⟩
def vBreak : WS := fun E P => P.B E
def vCont : WS := fun E P => P.C E
theorem ds_break : DS X p (.Break pos) tBreak vBreak := ⟨ps_break, fun _ _ q => S_break q⟩
theorem ds_continue : DS X p (.Continue pos) tCont vCont := ⟨ps_continue, fun _ _ q => S_cont q⟩
theorem ds_pass : DS X p (.Pass pos) tNext vNext := ⟨ps_pass, fun _ _ q => S_next q⟩
/-- what is never come to -/
def vNever : WS := fun _ _ => False
theorem ds_never : DS X p s tNever vNever := ⟨ps_never, fun _ _ q => q.elim⟩
/-- x op= e upon ints -/
def intD (d : PyData) (k : Int → Prop) : Prop := match d with
  | .int i => k i
  | _ => False
theorem intD_ok {d : PyData} {k : Int → Prop} (h : intD d k) : ∃ i, d = .int i ∧ k i := by
  cases d with
  | int i => exact ⟨i, rfl, h⟩
  | _ => exact h.elim
def slD (s : Sl) (k : PyData → Prop) : Prop := match s with
  | .d d => k d
  | _ => False
def vAug (i : Nat) (op : Int → Int → Int) (f : WE) : WS := fun E P => slD (geE E i) fun x => intD x fun a => f E fun d => intD d fun b => puE E i (.d (.int (op a b))) P.N
theorem slD_ok {s : Sl} {k : PyData → Prop} (h : slD s k) : ∃ d, s = .d d ∧ k d := by
  cases s with
  | d d => exact ⟨d, rfl, h⟩
  | _ => exact h.elim
theorem ds_aug {i : Nat} {x : Str} {op : Operator} {g : Int → Int → Int} {pos' : Pos} (hN : X.N.Nodup) (hi : X.N[i]? = some x) (hx : Loc X.env.scope x) (he : DE X p e te fe) (ho : PIp X op (ipI g))
    (hf : X.fn x = true ∨ X.env.scope.names.lookup x = some .local := by first | exact .inl rfl | exact .inr rfl | assumption) : DS X p (.AugAssign (.Name x pos') op e pos) (tAug i te (ipI g)) (vAug i g fe) := by
  refine ⟨ps_aug hN hi hx he.py ho hf, fun E P q => ?_⟩
  obtain ⟨x, hx, q⟩ := slD_ok q
  obtain ⟨a, rfl, q⟩ := intD_ok q
  refine S_augI (geE_ok hx Sl.noConfusion) ((he.ok E _ q).imp fun d hd => ?_)
  obtain ⟨b, rfl, hd⟩ := intD_ok hd
  exact ⟨b, rfl, (puE_ok hd).2⟩

/-! ### lists of one's own changed -/
def ownD (s : Sl) (k : List PyData → Prop) : Prop := match s with
  | .m ds => k ds
  | _ => False
theorem ownD_ok {s : Sl} {k : List PyData → Prop} (h : ownD s k) : ∃ ds, s = .m ds ∧ k ds := by
  cases s with
  | m ds => exact ⟨ds, rfl, h⟩
  | _ => exact h.elim
def vApp (i : Nat) (f : WE) : WS := fun E P => ownD (geE E i) fun ds => ds.length < sizeLine ∧ f E fun d => puE E i (.m (ds ++ [d])) P.N
theorem ds_app {i : Nat} {x : Str} {p1 apos cpos : Pos} (hN : X.N[i]? = some x) (hv : Vis X.env.scope x) (he : DE X p e te fe) (hd : (x == ("__debug__" : Str)) = false := by decide) (hcd : (x == ("__classdict__" : Str)) = false := by decide)
    (hbase : attributeBase (.Name x p1) "append" X.env (eval (.Name x p1) X.env) = eval (.Name x p1) X.env := by rfl)
    (hfew : ((backTo cpos (starEach [e] X.env)).all (fun x => !x.1) && (backToKw cpos (keywordEach [] X.env)).all (fun x => x.1.isSome)
      && decide ([e].length + ([] : List Keyword).length + (if ([] : List Keyword).isEmpty then 0 else 1) < 30)) = true := by rfl)
    (hline : (apos.endLine == cpos.line) = true := by rfl) (hs : starEach [e] X.env = (false, eval e X.env) :: starEach [] X.env := by rfl) (hplain : (backTo cpos (starEach [] X.env)).any (·.1) = false := by rfl)
    (hsw : swapsWith (.Call (.Attribute (.Name x p1) "append" apos) [e] [] cpos) none pos.line X.env = pure false := by rfl) :
    DS X p (.Expr (.Call (.Attribute (.Name x p1) "append" apos) [e] [] cpos) pos) (tDrop (tBM X.K "list" rAppend (tVar i) (tCons te tNil))) (vApp i fe) := by
  refine ⟨ps_expr (pe_bm PySem.F.plainAttrs_list PySem.F.slot_list_append PySem.F.type_list_append mt_append (pe_var hN hv hd hcd) (pa_cons he.py pa_nil hs) hbase hfew hline hs hplain) hsw, fun E P q => ?_⟩
  obtain ⟨ds, hs, q⟩ := ownD_ok q
  exact S_app (geE_ok hs Sl.noConfusion) q.1 ((he.ok E _ q.2).imp fun d hd => (puE_ok hd).2)
/-- xs[k] = e -/
def vSetI (i : Nat) (f g : WE) : WS := fun E P => ownD (geE E i) fun ds => f E fun d => g E fun y => intD y fun k => match ixN ds.length k with
  | some n => puE E i (.m (ds.set n d)) P.N
  | none => False
theorem ds_setI {i : Nat} {x : Str} {p1 : Pos} (hN : X.N[i]? = some x) (hv : Vis X.env.scope x) (he : DE X p e te fe) (hb : DE X p b tb fb) (hd : (x == ("__debug__" : Str)) = false := by decide) (hcd : (x == ("__classdict__" : Str)) = false := by decide)
    (ha : ∀ v, assign (.Subscript (.Name x p1) b px) X.env v = (do
      let ov ← holding [v] (eval (.Name x p1) X.env)
      let iv ← holding [v, ov] (eval b X.env)
      standAt px
      holding [v, ov, iv] (setItem ov iv v)
      release [v, ov, iv] []) := by intro _; rfl)
    (hs : swapsWithSole [.Subscript (.Name x p1) b px] e pos.line X.env = pure false := by rfl) (hw : swappedStores [.Subscript (.Name x p1) b px] e X.env = pure none := by rfl)
    (h1 : (assignEach [.Subscript (.Name x p1) b px] X.env).map (·.2) = [assign (.Subscript (.Name x p1) b px) X.env] := by rfl) :
    DS X p (.Assign [.Subscript (.Name x p1) b px] e pos) (tAsg te (gSub (tVar i) tb rSetL)) (vSetI i fe fb) := by
  refine ⟨ps_asg he.py (pg_sub (pe_var hN hv hd hcd) hb.py set_list ha) hs hw h1, fun E P q => ?_⟩
  obtain ⟨ds, hs, q⟩ := ownD_ok q
  refine S_setM (geE_ok hs Sl.noConfusion) ((he.ok E _ q).imp fun d hd => (hb.ok E _ hd).imp fun y hy => ?_)
  obtain ⟨k, rfl, hk⟩ := intD_ok hy
  split at hk <;> rename_i n hn
  · exact ⟨k, n, rfl, hn, (puE_ok hk).2⟩
  · exact hk.elim

/-! ### loops -/
def forW (g : WG) (body : WS) : List PyData → Ev → Post → Prop
  | [], E, P => P.N E
  | x :: xs, E, P => g x E fun E1 => body E1 ⟨fun E2 => forW g body xs E2 P, P.R, P.N, fun E2 => forW g body xs E2 P⟩
def vFor (it : WL) (g : WG) (body : WS) : WS := fun E P => it E fun xs => forW g body xs E P
theorem ds_for {iter : Expr} {body : List Stmt} {wi : TI} {g : TG} {vs : List Nat} {tb : TS} {fi : WL} {fg : WG} {fb : WS} (hp : PassesOwn (model X.prog X.w) X.A X.env X.xe) (hc : X.calm = true) (hi : DI X p tg iter wi fi) (hg : DV X p tg g vs fg) (hb : DSs X p body tb fb)
    (hs : ∀ x, foldedSetIterable iter X.env x = pure x := by intro _; rfl) : DS X p (.For tg iter body [] pos) (tFor wi g tb) (vFor fi fg fb) := by
  refine ⟨ps_for hp hc hi.py hg.py hb.py hs, fun E P q => ?_⟩
  intro G0 H0 G H σ x j e D z
  refine hi.ok E _ q H0 G H σ j e _ fun Jt xs G1 H1 x1 j1 w hx => ?_
  obtain ⟨Gd, Y, w1, w2, w3⟩ := w.ex
  have z1 := x.trans x1
  refine for_it w1 (fun k σ' H' => Lp X.K p G1 H0 (fun E' => forW fg fb (xs.drop k) E' P) σ' H') ⟨E, G1, Xt.from z1 z1 (Same.refl _), j1, e.mono x1, hx⟩ (fun k σ' H' _ q => ?_) (fun k v σ' H' H2 hk q y => ?_) fun σ' H' q => ?_
  · obtain ⟨E', G', x', j', e', i'⟩ := q
    exact w2 G' H' x'.gg j'
  · obtain ⟨E', G', x', j', e', i'⟩ := q
    obtain ⟨G2, d, x2, j2, hd, dv⟩ := w3 k G' H' v H2 hk x'.gg j' y
    have e5 : xs.drop k = d :: xs.drop (k + 1) := by
      rw [List.drop_eq_getElem_cons hk]
      congr 1
      exact Option.some.inj ((List.getElem?_eq_getElem hk).symm.trans hd)
    rw [e5] at i'
    have h6 : fg d E' fun E1 => fb E1 ⟨fun E2 => forW fg fb (xs.drop (k + 1)) E2 P, P.R, P.N, fun E2 => forW fg fb (xs.drop (k + 1)) E2 P⟩ := i'
    refine hg.tg h6 H0 G2 H2 σ' v j2 (e'.mono x2) dv _ fun σ2 E2 e2 s2 => ?_
    exact hb.ok E2 _ s2 G1 H0 G2 H2 σ2 (x'.trans x2) j2 e2 _ (Lp.exits z z1)
  · obtain ⟨E', G', x', j', e', i'⟩ := q
    rw [List.drop_length] at i'
    exact z.nx σ' E' G' H' (z1.back x') j' e' i'
def whW (c : WB) (body : WS) : Nat → Ev → Post → Prop
  | 0, _, _ => False
  | n + 1, E, P => c E fun k => ifB k (body E ⟨fun E2 => whW c body n E2 P, P.R, P.N, fun E2 => whW c body n E2 P⟩) (P.N E)
def vWhile (c : WB) (body : WS) : WS := fun E P => ∃ n, whW c body n E P
theorem ds_while {body : List Stmt} {tb : TS} {fb : WS} (hp : PassesOwn (model X.prog X.w) X.A X.env X.xe) (hc : DT X p c tt ft) (hb : DSs X p body tb fb) : DS X p (.While c body [] pos) (tWhile tt tb) (vWhile ft fb) := by
  refine ⟨ps_while hp hc.py hb.py, fun E P q => ?_⟩
  obtain ⟨n, hn⟩ := q
  refine S_while (fun m E' => whW ft fb m E' P) n hn fun m E' h => ?_
  cases m with
  | zero => exact h.elim
  | succ m =>
    have h2 : ft E' fun k => ifB k (fb E' ⟨fun E2 => whW ft fb m E2 P, P.R, P.N, fun E2 => whW ft fb m E2 P⟩) (P.N E') := h
    refine (hc.ok E' _ h2).imp fun k hk => ⟨fun z => ?_, fun z => (ifB_to hk).2 z⟩
    exact (hb.ok E' _ ((ifB_to hk).1 z)).imp (fun E2 w => ⟨m, Nat.lt_succ_self m, w⟩) (fun _ w => w) (fun _ w => w) fun E2 w => ⟨m, Nat.lt_succ_self m, w⟩
end

/-! ### a def's body -/
section
variable {P : Program} {w : World} {K : PySem.W.Frag} {mg : Str → Option Value} {base : Heap} {x qual : Str} {params : Arguments} {body : List Stmt} {scope : Scope} {dvs : List V} {kws : List (Str × V)} {f : Addr} {fd : FuncData} {CX : CXT} {N ps : List Str} {k : Nat}
theorem fn_F {n m : Nat} {b : WS} (F : FunD K x qual params body scope dvs kws f fd) (Sc : FnScope N ps scope) (hn : ps.length = n) (hN : N.length = n + m)
    (hb : ∀ (cdv : Value) (A : Around) (outer : List Env) (s : Shared) (H : Hp) (E : XK) (p : Option Addr), Room k (A.deeper (envOfC qual scope s.heap.objs.size f cdv)) → A.guards = some [] →
      ∃ t, DSs (cxOf CX P w K mg base N qual scope f cdv A outer s H E).nox p body t b) : FnG P w K mg base CX (k + 1) f fd ps (spF K n (mkF n m b)) := by
  refine FnG.of F Sc (fun vs H Q E h => h.1.trans hn.symm) fun cdv A outer s H vs Q E hr hg _ h => ?_
  obtain ⟨h1, p, G, ds, Φ, j, dv, h2, k2⟩ := h
  obtain ⟨t, ht⟩ := hb cdv A outer s H E p hr hg
  refine ⟨t, PSs.nox ht.py, ?_⟩
  obtain ⟨hl, hbb⟩ := h2
  refine ht.ok _ _ hbb G H G H _ Xt.refl j (env_start dv m (by rw [h1]; exact hN)) _ ?_
  exact ⟨fun σ E G' H' x j' e o => k2 _ _ G' H' x j' .non o, fun v d G' H' x j' dv' o => k2 v d G' H' x j' dv' o, fun _ _ _ _ _ _ _ z => z.elim, fun _ _ _ _ _ _ _ z => z.elim⟩
theorem fn_Q {n m : Nat} {b : Addr → WS} (F : FunD K x qual params body scope dvs kws f fd) (Sc : FnScope N ps scope) (hn : ps.length = n) (hN : N.length = n + m)
    (hb : ∀ (cdv : Value) (A : Around) (outer : List Env) (s : Shared) (H : Hp) (E : XK) (a : Addr), Room k (A.deeper (envOfC qual scope s.heap.objs.size f cdv)) → A.guards = some [] →
      ∃ t, DSs (cxOf CX P w K mg base N qual scope f cdv A outer s H E).nox (some a) body t (b a)) : FnG P w K mg base CX (k + 1) f fd ps (spQ K n (mkQ n m b)) := by
  refine FnG.of F Sc (fun vs H Q E h => h.1.trans hn.symm) fun cdv A outer s H vs Q E hr hg _ h => ?_
  obtain ⟨h1, a, ws, G, ds, Φ, rfl, j, dv, h2, k2⟩ := h
  obtain ⟨t, ht⟩ := hb cdv A outer s H E a hr hg
  refine ⟨t, PSs.nox ht.py, ?_⟩
  obtain ⟨hl, hbb⟩ := h2
  rw [List.length_cons] at h1
  refine ht.ok _ _ hbb G H G H _ Xt.refl j (env_pail dv m (by omega)) _ ?_
  exact ⟨fun σ E G' H' x j' e o => k2 _ _ G' H' x j' .non o, fun v d G' H' x j' dv' o => k2 v d G' H' x j' dv' o, fun _ _ _ _ _ _ _ z => z.elim, fun _ _ _ _ _ _ _ z => z.elim⟩
end
end Rim

/-! RimK: the pail; defs that hand back a list of their own; the law's own def. -/
namespace Rim
open PySem PySem.Spec PyProof.Rows L2
variable [Tabs]
section
variable {X : Cx} {p : Option Addr} {ap : Addr} {tg e a b c : Expr} {es : List Expr} {te ta tb tc : TE} {fe fa fb fc : WE} {tA : TA} {fA : WL} {pos px : Pos} {tt tu : TT} {ft fu : WB} {gM : WL}
  {s : Stmt} {ss : List Stmt} {ts us : TS} {fs gs : WS} {gm : WL}
/-! ### the pail -/
def vPIx (k : Nat) (a : Addr) (i : Int) : WE := fun E Φ => geE E k = .v (.ref a) ∧ ∀ x, InP i x → Φ (.int x)
theorem de_pix {k : Nat} {i : Int} {j : Nat} {x : Str} {p1 p2 : Pos} (h0 : (decide (0 ≤ i) && decide (i < 3)) = true) (hN : X.N[k]? = some x) (hv : Vis X.env.scope x) (hd : (x == ("__debug__" : Str)) = false := by decide) (hcd : (x == ("__classdict__" : Str)) = false := by decide) :
    DE X (some ap) (.Subscript (.Name x p1) (.Constant (.int i) j p2) pos) (tOp (rIxL X.K) (tVar k) (tC (.int i))) (vPIx k ap i) := by
  have h1 : 0 ≤ i ∧ i < 3 := by
    rw [Bool.and_eq_true] at h0
    exact ⟨of_decide_eq_true h0.1, of_decide_eq_true h0.2⟩
  exact ⟨pe_ix ix_list (pe_var hN hv hd hcd) pe_int (fun _ _ => rfl), fun E Φ q => W_pail h1 (geE_ok q.1 Sl.noConfusion) q.2⟩
def vPSet (k : Nat) (a : Addr) (i : Int) (f : WE) : WS := fun E P => geE E k = .v (.ref a) ∧ f E fun d => intD d fun x => InP i x ∧ P.N E
theorem ds_pset {k : Nat} {i : Int} {j : Nat} {x : Str} {p1 p2 : Pos} (h0 : (decide (0 ≤ i) && decide (i < 3)) = true) (hN : X.N[k]? = some x) (hv : Vis X.env.scope x) (he : DE X (some ap) e te fe) (hd : (x == ("__debug__" : Str)) = false := by decide) (hcd : (x == ("__classdict__" : Str)) = false := by decide)
    (ha : ∀ v, assign (.Subscript (.Name x p1) (.Constant (.int i) j p2) px) X.env v = (do
      let ov ← holding [v] (eval (.Name x p1) X.env)
      let iv ← holding [v, ov] (eval (.Constant (.int i) j p2) X.env)
      standAt px
      holding [v, ov, iv] (setItem ov iv v)
      release [v, ov, iv] []) := by intro _; rfl)
    (hs : swapsWithSole [.Subscript (.Name x p1) (.Constant (.int i) j p2) px] e pos.line X.env = pure false := by rfl) (hw : swappedStores [.Subscript (.Name x p1) (.Constant (.int i) j p2) px] e X.env = pure none := by rfl)
    (h1 : (assignEach [.Subscript (.Name x p1) (.Constant (.int i) j p2) px] X.env).map (·.2) = [assign (.Subscript (.Name x p1) (.Constant (.int i) j p2) px) X.env] := by rfl) :
    DS X (some ap) (.Assign [.Subscript (.Name x p1) (.Constant (.int i) j p2) px] e pos) (tAsg te (gSub (tVar k) (tC (.int i)) rSetL)) (vPSet k ap i fe) := by
  have h2 : 0 ≤ i ∧ i < 3 := by
    rw [Bool.and_eq_true] at h0
    exact ⟨of_decide_eq_true h0.1, of_decide_eq_true h0.2⟩
  refine ⟨ps_asg he.py (pg_sub (pe_var hN hv hd hcd) pe_int set_list ha) hs hw h1, fun E P q => S_pail h2 (geE_ok q.1 Sl.noConfusion) ((he.ok E _ q.2).imp fun d hd => ?_)⟩
  obtain ⟨x, rfl, hx⟩ := intD_ok hd
  exact ⟨x, rfl, hx⟩
def pairD (d : PyData) (k : PyData → PyData → Prop) : Prop := match d with
  | .tuple [a, b] => k a b
  | _ => False
theorem pairD_ok {d : PyData} {k : PyData → PyData → Prop} (h : pairD d k) : ∃ a b, d = .tuple [a, b] ∧ k a b := by
  unfold pairD at h
  split at h
  · exact ⟨_, _, rfl, h⟩
  · exact h.elim
def vPPar (k : Nat) (a : Addr) (i : Int) (m : Nat) (f : WE) : WS := fun E P => geE E k = .v (.ref a) ∧ f E fun d => pairD d fun u w => intD u fun x => intD w fun y => InP i x ∧ puE E m (.d (.int y)) P.N
/-- pail[i], y = e -/
theorem ds_ppar {k m : Nat} {i : Int} {j kt : Nat} {x y : Str} {p1 p2 py pt : Pos} (h0 : (decide (0 ≤ i) && decide (i < 3)) = true) (hNd : X.N.Nodup) (hN : X.N[k]? = some x) (hv : Vis X.env.scope x) (hM : X.N[m]? = some y) (hl : Loc X.env.scope y) (hc : X.calm = true)
    (he : DE X (some ap) e te fe) (hd : (x == ("__debug__" : Str)) = false := by decide) (hcd : (x == ("__classdict__" : Str)) = false := by decide)
    (hf : X.fn y = true ∨ X.env.scope.names.lookup y = some .local := by first | exact .inl rfl | exact .inr rfl | assumption)
    (ha : ∀ v, assign (.Subscript (.Name x p1) (.Constant (.int i) j p2) px) X.env v = (do
      let ov ← holding [v] (eval (.Name x p1) X.env)
      let iv ← holding [v, ov] (eval (.Constant (.int i) j p2) X.env)
      standAt px
      holding [v, ov, iv] (setItem ov iv v)
      release [v, ov, iv] []) := by intro _; rfl)
    (hs : swapsWithSole [.Tuple [.Subscript (.Name x p1) (.Constant (.int i) j p2) px, .Name y py] kt pt] e pos.line X.env = pure false := by rfl)
    (hw : swappedStores [.Tuple [.Subscript (.Name x p1) (.Constant (.int i) j p2) px, .Name y py] kt pt] e X.env = pure none := by rfl)
    (h1 : (assignEach [.Tuple [.Subscript (.Name x p1) (.Constant (.int i) j p2) px, .Name y py] kt pt] X.env).map (·.2) = [assign (.Tuple [.Subscript (.Name x p1) (.Constant (.int i) j p2) px, .Name y py] kt pt) X.env] := by rfl)
    (c1 : (assignEach [.Subscript (.Name x p1) (.Constant (.int i) j p2) px, .Name y py] X.env).map (·.2) = assign (.Subscript (.Name x p1) (.Constant (.int i) j p2) px) X.env :: (assignEach [.Name y py] X.env).map (·.2) := by rfl)
    (c2 : (assignEach [.Name y py] X.env).map (·.2) = assign (.Name y py) X.env :: (assignEach [] X.env).map (·.2) := by rfl)
    (n1 : (assignEach [.Subscript (.Name x p1) (.Constant (.int i) j p2) px, .Name y py] X.env).length = 2 := by rfl)
    (n2 : (assignEach [.Subscript (.Name x p1) (.Constant (.int i) j p2) px, .Name y py] X.env).findIdx? (·.1) = none := by rfl) :
    DS X (some ap) (.Assign [.Tuple [.Subscript (.Name x p1) (.Constant (.int i) j p2) px, .Name y py] kt pt] e pos) (tAsg te (gTup X.K 2 (gCons (gSub (tVar k) (tC (.int i)) rSetL) (gCons (gName m) gNil)))) (vPPar k ap i m fe) := by
  have h2 : 0 ≤ i ∧ i < 3 := by
    rw [Bool.and_eq_true] at h0
    exact ⟨of_decide_eq_true h0.1, of_decide_eq_true h0.2⟩
  refine ⟨ps_asg he.py (pg_tup hc (pgs_cons (pg_sub (pe_var hN hv hd hcd) pe_int set_list ha) (pgs_cons (pg_name hNd hM hl hf) pgs_nil c2) c1) n1 n2) hs hw h1, fun E P q => S_pailP h2 (geE_ok q.1 Sl.noConfusion) ((he.ok E _ q.2).imp fun d hd => ?_)⟩
  obtain ⟨u, w, rfl, hd⟩ := pairD_ok hd
  obtain ⟨x, rfl, hd⟩ := intD_ok hd
  obtain ⟨y, rfl, hd⟩ := intD_ok hd
  exact ⟨x, y, rfl, hd.1, (puE_ok hd.2).1, (puE_ok hd.2).2⟩

/-! ### a def that hands back a list of its own -/
structure DSM (X : Cx) (p : Option Addr) (ss : List Stmt) (t : TS) (f : WL) : Prop where
  py : PSs X ss t
  ok : ∀ E Ψ, f E Ψ → SM X.K p E t Ψ
def vSeqM (f : WS) (g : WL) : WL := fun E Ψ => f E ⟨fun E' => g E' Ψ, fun _ => False, Nev, Nev⟩
theorem dsm_cons (h : DS X p s ts fs) (k : DSM X p ss us gm) : DSM X p (s :: ss) (tSeq ts us) (vSeqM fs gm) :=
  ⟨pss_cons h.py k.py, fun E Ψ q => SM_seq ((h.ok E _ q).imp (fun E' z => k.ok E' Ψ z) (fun _ z => z) (fun _ z => z) fun _ z => z)⟩
theorem dsm_ret (h : DM X p e te gM) : DSM X p [.Return (some e) pos] (tRet te) gM := ⟨pss_one (ps_ret h.py), fun E Ψ q => SM_ret (h.ok E Ψ q)⟩
end

section
variable {P : Program} {w : World} {K : PySem.W.Frag} {mg : Str → Option Value} {base : Heap} {x qual : Str} {params : Arguments} {body : List Stmt} {scope : Scope} {dvs : List V} {kws : List (Str × V)} {f : Addr} {fd : FuncData} {CX : CXT} {N ps : List Str} {k : Nat}
def threeP (ds : List PyData) : Prop := ∃ x y z : Int, ds = [.int x, .int y, .int z] ∧ (0 ≤ y ∧ y < 2147483648)
theorem fn_M {m : Nat} {b : WL} (F : FunD K x qual params body scope dvs kws f fd) (Sc : FnScope N ps scope) (hn : ps.length = 2) (hN : N.length = 2 + m)
    (hm : ∀ (ns : List Int) (t : Int), 0 ≤ t → b (ends [.list (ns.map .int), .int t] m) threeP)
    (hb : ∀ (cdv : Value) (A : Around) (outer : List Env) (s : Shared) (H : Hp) (E : XK) (p : Option Addr), Room k (A.deeper (envOfC qual scope s.heap.objs.size f cdv)) → A.guards = some [] →
      ∃ t, DSM (cxOf CX P w K mg base N qual scope f cdv A outer s H E).nox p body t b) : FnG P w K mg base CX (k + 1) f fd ps (spPail K) := by
  refine FnG.of F Sc (fun vs H Q E h => h.1.trans hn.symm) fun cdv A outer s H vs Q E hr hg _ h => ?_
  obtain ⟨t, ht⟩ := hb cdv A outer s H E none hr hg
  refine ⟨t, PSs.nox ht.py, ?_⟩
  exact body_pail m hN h fun ns t0 h0 => ht.ok _ _ (hm ns t0 h0)
theorem fn_law {m : Nat} {b : WS} (F : FunD K x qual params body scope dvs kws f fd) (Sc : FnScope N ps scope) (hn : ps.length = 1) (hN : N.length = 1 + m)
    (hm : ∀ (ns : List Int), ns.length ≤ 63 → b (ends [.list (ns.map .int)] m) ⟨fun _ => False, fun d => d = .bool true, Nev, Nev⟩)
    (hb : ∀ (cdv : Value) (A : Around) (outer : List Env) (s : Shared) (H : Hp) (E : XK), Room k (A.deeper (envOfC qual scope s.heap.objs.size f cdv)) → A.guards = some [] →
      ∃ t, DSs (cxOf CX P w K mg base N qual scope f cdv A outer s H E).nox none body t b) : FnG P w K mg base CX (k + 1) f fd ps (spLaw K) := by
  refine FnG.of F Sc (fun vs H Q E h => h.1.trans hn.symm) fun cdv A outer s H vs Q E hr hg _ h => ?_
  obtain ⟨t, ht⟩ := hb cdv A outer s H E hr hg
  refine ⟨t, PSs.nox ht.py, ?_⟩
  exact body_law m hN h fun ns h0 => ht.ok _ _ (hm ns h0)
end
/-- right(pail(script, turn)) -/
def pargs (ds : List PyData) (k : Prop) : Prop := match ds with
  | [.list ns, .int t] => (∃ ms : List Int, ns = ms.map .int) ∧ 0 ≤ t ∧ k
  | _ => False
def vTurnC (F : Addr → WF) (f : WL) : WE := fun E Φ => f E fun ds => pargs ds (∀ a, F a [] Φ)
section
variable {X : Cx} {p : Option Addr} {es : List Expr} {e1 : Expr} {tA : TA} {fA : WL} {pos px p2 pos2 : Pos} {CX : CXT} {k k2 n : Nat} {f f2 : Addr} {fd fd2 : FuncData} {ps ps2 : List Str} {E0 E1 : XK} {x x2 : Str} {F : Addr → WF}
theorem de_turn (hf : FnG X.prog X.w X.K X.mg X.base CX k f fd ps (spQ X.K 1 F)) (hr : Room k X.A) (hgu : X.A.guards = some [])
    (hg : Gl X x) (hm : X.mg x = some (.ref f)) (hk : PySem.W.keepIn X.K (.ref f) = true) (hb : Binds X.K fd ps []) (hx : Passes CX X E0)
    (hf2 : FnG X.prog X.w X.K X.mg X.base CX k2 f2 fd2 ps2 (spPail X.K)) (hr2 : Room k2 X.A)
    (hg2 : Gl X x2) (hm2 : X.mg x2 = some (.ref f2)) (hk2 : PySem.W.keepIn X.K (.ref f2) = true) (hb2 : Binds X.K fd2 ps2 []) (hx2 : Passes CX X E1) (ha : DA X none (e1 :: es) tA fA)
    (hdb : (x == ("__debug__" : Str)) = false := by decide) (hdb2 : (x2 == ("__debug__" : Str)) = false := by decide)
    (he : starEach [.Call (.Name x2 p2) (e1 :: es) [] pos2] X.env = (false, eval (.Call (.Name x2 p2) (e1 :: es) [] pos2) X.env) :: starEach [] X.env := by rfl)
    (hpl : (backTo pos (starEach [] X.env)).any (·.1) = false := by rfl)
    (he2 : starEach (e1 :: es) X.env = (false, eval e1 X.env) :: starEach es X.env := by rfl)
    (hpl2 : (backTo pos2 (starEach es X.env)).any (·.1) = false := by rfl) :
    DE X none (.Call (.Name x px) [.Call (.Name x2 p2) (e1 :: es) [] pos2] [] pos) (tCall (spQ X.K 1 F) [] E0 (tCons (tCall (spPail X.K) [] E1 tA) tNil)) (vTurnC F fA) := by
  refine ⟨pe_callG hf hr hgu hg hm hk hb .nil hx (pa_cons (pe_callG hf2 hr2 hgu hg2 hm2 hk2 hb2 .nil hx2 ha.py hdb2 he2 hpl2) pa_nil he) hdb he hpl, fun E Φ q => ?_⟩
  intro H0 G H σ j e Q z
  refine ha.ok E _ q H0 G H σ j e _ fun vs ds G1 H1 x1 j1 dv h1 => ?_
  have h2 := h1.2
  unfold pargs at h2
  split at h2
  · obtain ⟨⟨ns, rfl⟩, ht, hk⟩ := h2
    rename_i t0
    rw [List.append_nil]
    refine ⟨dpA_len dv, G1, ns, t0, j1, dv, ht, fun l x y w G2 H2 x2 j2 hn hg hl hy => ?_⟩
    have j3 : J (some l) G2 H2 := ⟨j2.sub, fun b hb => (by
      cases hb
      exact ⟨hg, x, y, w, hl, hy⟩), j2.tt⟩
    have hn0 : H l = none := by
      cases w : H l with
      | none => rfl
      | some o =>
        rw [(x1.some (by simp) w).choose_spec] at hn
        cases hn
    have x12 := x1.trans x2
    refine ⟨rfl, l, [], G2, [], Φ, rfl, j3, .nil, hk l, fun v d G3 H3 x3 j4 dv' hd => ?_⟩
    refine z v d G3 H3 ⟨x12.gg.trans x3.gg, fun b o _ hz hb => ?_, fun b ps _ hb => ?_, fun b _ hb hG => ?_⟩ ⟨j4.sub, fun b hb => (by cases hb), j4.tt⟩ dv' hd
    · have hne : some l ≠ some b := fun w => by
        cases w
        rw [hn0] at hb
        cases hb
      exact x3.hh b o hne hz (x12.hh b o (by simp) hz hb)
    · have hne : some l ≠ some b := fun w => by
        cases w
        rw [hn0] at hb
        cases hb
      obtain ⟨qs, hq⟩ := x12.tb b ps (by simp) hb
      exact x3.tb b qs hne hq
    · have hne : some l ≠ some b := fun w => by
        cases w
        exact hb hn0
      refine x3.fr b hne ?_ (x12.fr b (by simp) hb hG)
      cases w : H b with
      | none => exact absurd w hb
      | some o =>
        rw [(x12.some (by simp) w).choose_spec]
        exact Option.some_ne_none _
  · exact h2.elim
end
end Rim
namespace Rim
open PySem PySem.Spec PyProof.Rows L2
variable [Tabs]
section
variable {X : Cx} {p : Option Addr} {tg e a b c : Expr} {es : List Expr} {te ta tb tc : TE} {fe fa fb fc : WE} {tA : TA} {fA : WL} {pos px : Pos}
theorem dn (i : Nat) {x : Str} (hN : X.N[i]? = some x := by rfl) (hv : Vis X.env.scope x := by first | exact Or.inl rfl | exact Or.inr (Or.inl rfl) | exact Or.inr (Or.inr rfl)) (hd : (x == ("__debug__" : Str)) = false := by decide) (hcd : (x == ("__classdict__" : Str)) = false := by decide) :
    DE X p (.Name x pos) (tVar i) (vVar i) := de_var hN hv hd hcd
/-! ### slices of either kind -/
def slD2 (d : PyData) (fl fh : (Option Int → Prop) → Prop) (Φ : PyData → Prop) : Prop := match d with
  | .list ds => fl fun l => fh fun h => Φ (.list (cutD ds l h))
  | .tuple ds => fl fun l => fh fun h => Φ (.tuple (cutD ds l h))
  | _ => False
def vSl (f : WE) (fl fh : Ev → (Option Int → Prop) → Prop) : WE := fun E Φ => f E fun d => slD2 d (fl E) (fh E) Φ
def rSl2 (K : PySem.W.Frag) : V → Option Int → Option Int → Hp → VK → Prop := fun x lo hi H Q => rSlL K x lo hi H Q ∨ rSlA K x lo hi H Q
theorem de_sl {lo hi : Option Expr} {tl th : TO} {fl fh : Ev → (Option Int → Prop) → Prop} {p2 : Pos} (h : DE X p e te fe) (h1 : DOp X p lo tl fl) (h2 : DOp X p hi th fh) :
    DE X p (.Subscript e (.Slice lo hi none p2) pos) (tSl (rSl2 X.K) te tl th) (vSl fe fl fh) := by
  refine ⟨pe_slice (SlR.or sl_list sl_tupA) h.py h1.py h2.py, fun E Φ q => ?_⟩
  intro H0 G H σ j e Q z
  refine h.ok E _ q H0 G H σ j e _ fun v d G1 H1 x1 j1 dv hd => ?_
  cases d with
  | list ds =>
    refine h1.ok E _ hd H0 G1 H1 σ j1 (e.mono x1) _ fun l G2 H2 x2 j2 k2 => ?_
    refine h2.ok E _ k2 H0 G2 H2 σ j2 ((e.mono x1).mono x2) _ fun hh G3 H3 x3 j3 k3 => ?_
    obtain ⟨m, xs, rfl, hs, ha⟩ := dp_lst dv
    have x13 := x1.trans (x2.trans x3)
    have g13 := x2.gg.trans x3.gg
    refine Or.inl ⟨m, xs, rfl, (g13.trans j3.sub).seq hs, fun n hn => ?_⟩
    have x4 := Xt.laid (p := p) j3 (o := .lst (cutV xs l hh)) hn
    exact z _ _ _ _ (x13.trans x4) (j3.laid hn) (.lst (SqL.of upd_same) (dpA_mono x4.gg _ _ (cut_ds l hh (dpA_mono g13 ds xs ha)))) k3
  | tuple ds =>
    refine h1.ok E _ hd H0 G1 H1 σ j1 (e.mono x1) _ fun l G2 H2 x2 j2 k2 => ?_
    refine h2.ok E _ k2 H0 G2 H2 σ j2 ((e.mono x1).mono x2) _ fun hh G3 H3 x3 j3 k3 => ?_
    obtain ⟨m, xs, rfl, hs, ha⟩ := dp_tup dv
    have x13 := x1.trans (x2.trans x3)
    have g13 := x2.gg.trans x3.gg
    have da := dpA_mono g13 ds xs ha
    refine Or.inr ⟨m, xs, rfl, sqT_mono (g13.trans j3.sub) hs, fun w => ?_, fun w n hn => ?_⟩
    · rw [dpA_len ha] at w
      have e1 : cutD ds l hh = ds := by
        unfold cutD
        rw [w.1, w.2, List.drop_zero, Nat.sub_zero, List.take_length]
      rw [e1] at k3
      exact z _ _ G3 H3 x13 j3 (.tup (sqT_mono g13 hs) da) k3
    · have x4 := Xt.laid (p := p) j3 (o := .tup (cutV xs l hh)) hn
      exact z _ _ _ _ (x13.trans x4) (j3.laid hn) (.tup (SqT.of upd_same) (dpA_mono x4.gg _ _ (cut_ds l hh da))) k3
  | _ => exact hd.elim
/-- a list many times -/
def vRep (f : WL) (g : WE) : WL := fun E Ψ => f E fun ds => g E fun y => intD y fun k => (-(2 ^ 63) ≤ k ∧ k < 2 ^ 63 ∧ ds.length * k.toNat ≤ sizeLine) ∧ Ψ (List.replicate k.toNat ds).flatten
theorem dpA_flat {K : PySem.W.Frag} {G : Hp} {vs : List V} {ds : List PyData} (h : DpAll K G vs ds) : ∀ n : Nat, DpAll K G (List.replicate n vs).flatten (List.replicate n ds).flatten
  | 0 => .nil
  | n + 1 => by
    rw [List.replicate_succ, List.replicate_succ, List.flatten_cons, List.flatten_cons]
    exact dpA_append h (dpA_flat h n)
theorem dm_rep {ga : WL} (ha : DM X p a ta ga) (hb : DE X p b tb fb) : DM X p (.BinOp a .Mult b pos) (tOp rRep ta tb) (vRep ga fb) := by
  refine ⟨pe_op op_rep ha.py hb.py, fun E Ψ q => ?_⟩
  intro H0 G H σ j e Q z
  refine ha.ok E _ q H0 G H σ j e _ fun l vs ds G1 H1 x1 j1 hn hl hg dv hd => ?_
  refine hb.ok E _ hd H0 G1 H1 σ j1 (e.mono x1) _ fun u y G2 H2 x2 j2 du hy => ?_
  obtain ⟨k, rfl, ⟨k1, k2, k3⟩, hk⟩ := intD_ok hy
  have hl2 := x2.hh l _ (j.ne hn) (fun _ z => by cases z) hl
  have d2 := dpA_mono x2.gg ds vs dv
  refine ⟨l, k, vs, rfl, dp_int du, hl2, k1, k2, by rw [dpA_len d2]; exact k3, fun m hm => ?_⟩
  have x12 := x1.trans x2
  have hn2 : H m = none := by
    cases w : H m with
    | none => rfl
    | some o =>
      rw [(x12.some (j2.ne hm) w).choose_spec] at hm
      cases hm
  exact z m _ _ G2 _ (x12.trans (Xt.made j2 hm)) (j2.madeN hm) hn2 upd_same (j2.free hm) (dpA_flat d2 k.toNat) hk
end

section
variable {X : Cx} {p : Option Addr} {e : Expr} {es : List Expr} {tA : TA} {fA : WL} {pos px : Pos}
theorem db_gcd : DB X (.builtin "math.gcd") rGcd oGcd := by
  refine ⟨cr_gcd, fun p xs Φ h => ?_⟩
  unfold oGcd at h
  split at h
  · exact WC_gcd h
  · exact h.elim
/-- a built-in function that the top holds -/
theorem de_fun {id : String} {r : List V → Hp → VK → Prop} {o : WF} {x : Str} (hb : DB X (.builtin id) r o) (hg : Gl X x) (hm : X.mg x = some (.builtin id)) (ha : DA X p (e :: es) tA fA) (hdb : (x == ("__debug__" : Str)) = false := by decide)
    (he : starEach (e :: es) X.env = (false, eval e X.env) :: starEach es X.env := by rfl) (hpl : (backTo pos (starEach es X.env)).any (·.1) = false := by rfl) : DE X p (.Call (.Name x px) (e :: es) [] pos) (tCB r tA) (vB o fA) :=
  ⟨pe_callBfun hb.py hg hm ha.py hdb he hpl, fun E Φ q => W_cb ((ha.ok E _ q).imp fun xs hx => hb.ok p xs Φ hx.2)⟩
end

/-! ### defaults that are tuples -/
def exB2 (cs : List (Str × PyData)) (is : List (Str × String)) (df : List ((Str × Nat) × PyData)) (K : PySem.W.Frag) : Bool := exB cs is K && df.all fun q => kD K (.ref (He.dflAt (q.1.1, none) q.1.2 K)) q.2
theorem exB2_1 {cs : List (Str × PyData)} {is : List (Str × String)} {df : List ((Str × Nat) × PyData)} {K : PySem.W.Frag} (h : exB2 cs is df K = true) : exB cs is K = true := (He.ba h).1
theorem dfl_ok {cs : List (Str × PyData)} {is : List (Str × String)} {df : List ((Str × Nat) × PyData)} {K : PySem.W.Frag} (h : exB2 cs is df K = true) (i : Nat) {q : (Str × Nat) × PyData} (hi : df[i]? = some q) : ∀ G, Dp K G (.ref (He.dflAt (q.1.1, none) q.1.2 K)) q.2 := by
  obtain ⟨v, r, d⟩ := kD_ok q.2 _ (List.all_eq_true.mp (He.ba h).2 q (List.mem_of_getElem? hi))
  cases v with
  | ref a =>
    cases r
    exact d
  | non => cases r
  | bl b => cases r
  | int i => obtain ⟨t, ht⟩ := r; cases ht
  | str i => obtain ⟨t, ht⟩ := r; cases ht
  | byt i => obtain ⟨t, ht⟩ := r; cases ht
  | flt i => obtain ⟨t, ht⟩ := r; cases ht
  | ty n => cases r
end Rim

/-! RimP: generator expressions whose elements call defs: the frame of one, its turns, who walks it. -/
namespace Rim
open PySem PySem.Spec PyProof.Rows L2 GenW
/-- the context of a generator expression's own frame: its names are the def's, its own ones new, its captured ones by their cells -/
abbrev gxC (X : Cx) (s : Shared) (H : Hp) (env : Env) (fp : List Addr) (pn : List (Addr × Obj)) (A : Around) : Cx :=
  { X with s_0 := s, H_0 := H, env := env, outer := X.stack, stack := env :: X.stack, A := A, ex := fp, fn := fun _ => false, pn := pn, xe := fun _ _ => False }
section
variable {X : Cx} {pins : List (Addr × Obj)} {σ : L2.St} {H : Hp} {s : Shared} {scope : Scope} {own : List (Str × Nat)} {fp : List Addr}
/-- what stands where the frame starts -/
theorem gx_start {C : Addr} {cd : Value} {A : Around} {go : Obj} {a : Addr} {s5 : Shared} {m0 : Str → Option Value} (I : Inv X pins σ H s) (ok : BlkOk X.N X.env.scope scope own) (hcell : ∀ y ∈ scope.names, y.2 ≠ .cell) (hN : X.N.Nodup)
    (hfp : ∀ b ∈ fp, FpOk X pins H b ∧ b < s.heap.objs.size) (hC : C = s.heap.objs.size) (ha : C < a) (hn : s5.heap.Ns C m0) (kp : ∀ b o, s.heap.get? b = some o → s5.heap.get? b = some o) (hgo : s5.heap.get? a = some go) (hgc : ∀ v, go.data ≠ .cell v)
    (hos : s5.os = s.os) (hb : AllBare s5.gens) (hh : A.handled = none) (hf : A.frames = some (genEnv scope (cloFrom X.env.cells scope.names []) C cd builtinsNs X.env :: X.stack)) :
    Inv (gxC X s H (genEnv scope (cloFrom X.env.cells scope.names []) C cd builtinsNs X.env) fp [(a, go)] A) [] (wipe σ (own.map (·.2))) H s5 := by
  subst hC
  have cap : ∀ y ∈ scope.names, y.2 = .free → ∃ c, X.env.cells.lookup y.1 = some c := fun y hy e => (ok.free y hy e).elim (fun k => I.ok.has _ (.inl k)) fun k => I.ok.has _ (.inr k)
  have cm : ∀ {y c}, (cloFrom X.env.cells scope.names []).lookup y = some c → X.env.cells.lookup y = some c ∧ c < s.heap.objs.size ∧ scope.names.lookup y = some .free := fun {y c} e => by
    rcases cloFrom_mem (PySem.mem_of_lookup e) with z | ⟨z, rfl⟩
    · cases z
    · obtain ⟨c, hc⟩ := cap _ z rfl
      rw [hc]
      obtain ⟨v, q⟩ := I.cell _ _ hc
      exact ⟨rfl, q.lt, ok.uniq _ z⟩
  have look : ∀ {y}, scope.names.lookup y = some .free → ∃ c, (cloFrom X.env.cells scope.names []).lookup y = some c ∧ X.env.cells.lookup y = some c := fun {y} e => by
    obtain ⟨c, hc⟩ := mem_lookup (cloFrom_has (cells := X.env.cells) (acc := []) (PySem.mem_of_lookup e))
    exact ⟨c, hc, (cm hc).1⟩
  have kOf : ∀ {y}, (scope.names.lookup y = some .cell ∨ scope.names.lookup y = some .free) → scope.names.lookup y = some .free := fun {y} h => h.elim (fun z => absurd rfl (hcell _ (PySem.mem_of_lookup z))) id
  have okB : (gxC X s H (genEnv scope (cloFrom X.env.cells scope.names []) s.heap.objs.size cd builtinsNs X.env) fp [(a, go)] A).Ok := by
    refine ⟨I.ok.mod, ok.kind, I.ok.glob, rfl, Nat.le_refl _, fun x y c e1 e2 => I.ok.inj x y c (cm e1).1 (cm e2).1, fun x hx => ?_, fun x c z => Bool.noConfusion z, fun _ => hh, hf, .inr ⟨rfl, rfl⟩, fun b hb => ⟨Nat.ne_of_lt (hfp b hb).2, fun y c e => (hfp b hb).1.2.2.2.2.1 y c (cm e).1⟩,
      I.bs, Nat.le_trans I.ok.bsz I.sz, fun b o e z => ?_, fun b hb z => ?_, I.stack, I.stkFree⟩
    · obtain ⟨c, hc, _⟩ := look (kOf hx)
      exact ⟨c, hc⟩
    · rcases (hfp b z).1.2.2.2.1 with q | q
      · exact I.ok.noex b o e q
      · exact absurd (Nat.lt_of_lt_of_le (Heap.lt_size e) (Nat.le_trans I.ok.bsz q)) (Nat.lt_irrefl _)
    · rcases List.mem_cons.mp (I.stkSub b z) with q | q
      · exact (hfp b hb).1.2.1 q
      · exact (hfp b hb).1.2.2.1 q
  have hnn : ∀ b, s.heap.objs.size ≤ b → H b = none := fun b q => I.hok.fresh q
  refine ⟨okB, hos, hb, Un.kept kp, ⟨m0, hn, fun i y v e1 e2 e3 => ?_⟩, fun y c e => ?_, hnn _ (Nat.le_refl _), fun y c e => I.freeC y c (cm e).1, fun p hp => ?_, I.hok.kept kp, by rw [wipe_length]; exact I.len⟩
  · obtain ⟨e2, hne⟩ := wipe_some e2
    have e3 : Vis scope y := e3
    have hfr : scope.names.lookup y = some .free := by
      rcases e3 with z | z | z
      · rcases ok.own _ (PySem.mem_of_lookup z) (.inl rfl) with q | q
        · obtain ⟨p, hp, hpy⟩ := List.mem_map.mp q
          have e4 := ok.ix p hp
          have : p.1 = y := hpy
          rw [this] at e4
          exact absurd (List.mem_map.mpr ⟨p, hp, nodup_ix hN e4 e1⟩) hne
        · exact absurd (List.mem_of_getElem? e1) q
      · exact kOf (.inl z)
      · exact z
    obtain ⟨m, hm, hl⟩ := I.loc
    have hfr2 := ok.free _ (PySem.mem_of_lookup hfr) rfl
    obtain ⟨u, r, q⟩ := hl i y v e1 e2 (hfr2.elim (fun k => .inr (.inl k)) fun k => .inr (.inr k))
    refine ⟨u, r, .inr ⟨.inr hfr, ?_⟩⟩
    obtain ⟨c, h1, h2⟩ := look hfr
    rcases q with ⟨k, _⟩ | ⟨_, c', e', z⟩
    · have k : X.env.scope.names.lookup y = some .local := k
      rcases hfr2 with k' | k' <;> (have k' : X.env.scope.names.lookup y = _ := k'; rw [k'] at k; cases k)
    · rw [h2] at e'
      cases e'
      exact ⟨c, h1, z.keeps kp⟩
  · obtain ⟨v, z⟩ := I.cell y c (cm e).1
    exact ⟨v, z.keeps kp⟩
  · have hp2 : p = (a, go) := by simpa using hp
    subst hp2
    exact ⟨hgo, hnn _ (Nat.le_of_lt ha), Nat.ne_of_gt ha, fun z => by
      rcases List.mem_cons.mp (I.stkSub a z) with q | q
      · exact absurd (Nat.lt_trans I.lt (show s.heap.objs.size < X.env.locals by rw [← q]; exact ha)) (Nat.lt_irrefl _)
      · exact I.nofs (Nat.le_of_lt ha) q, hgc⟩
end

/-! ### the turns -/
/-- code: where a generator expression stands between its turns -/
abbrev gxCode (elt tg iter : Expr) (ifs : List Expr) (scope : Scope) (pos : Pos) (it : Addr) (env : Env) : Code := .compLoop (.GeneratorExp elt [⟨tg, iter, ifs, 0⟩] scope pos) 0 (.ref it) .none env
/-- what a generator expression is, told once; W: ahead of turn i, with ys handed out; Yd: y is handed out; Fin: all is out; pf: what its walker keeps -/
structure Gx (Y : Cx) (A : Around) (elt tg iter : Expr) (ifs : List Expr) (scope : Scope) (pos : Pos) (it : Addr) (fp : List Addr) (tn : Nat → Heap → Prop) (J : It) (gt : TG) (tt : TT) (te : TE) (vs : List Nat) (σg : L2.St) (top : Nat)
    (W : Nat → List V → Hp → Prop) (Fin : List V → Hp → Prop) (Yd : Nat → List V → V → Hp → Prop) (pf : Heap → List (Addr × Obj)) : Prop where
  over : A.over (gxCode elt tg iter ifs scope pos it Y.env) [] = Y.A
  calm : Y.calm = true
  turn : Turn Y.prog Y.w Y.K tg J fp it tn
  pg : PG Y tg gt
  pt : PTs Y ifs tt
  pe : PE Y elt te
  co : Y.env.scope.isCoroutine = false
  ex : ∀ b ∈ fp, b ∈ Y.ex
  xe : ∀ e s, Y.xe e s → False
  apart : ∀ h, ∀ p ∈ Y.pn ++ pf h, p.1 ∉ fp
  step : ∀ i ys H, W i ys H → (J.stop i H ∧ Fin ys H) ∨ (J.go i H ∧ i < top ∧ ∀ x H', J.yld i H x H' → gt x σg H' fun σ2 H2 => (wipe σ2 vs = σg ∧ σg.length = σ2.length) ∧ tt σ2 H2 fun b H3 => if b = true then te σ2 H3 fun y H4 => Yd i ys y H4 else W (i + 1) ys H3)
section
variable {Y : Cx} {A : Around} {elt tg iter : Expr} {ifs : List Expr} {scope : Scope} {pos : Pos} {it : Addr} {fp : List Addr} {tn : Nat → Heap → Prop} {J : It} {gt : TG} {tt : TT} {te : TE} {vs : List Nat} {σg : L2.St} {top : Nat}
  {W : Nat → List V → Hp → Prop} {Fin : List V → Hp → Prop} {Yd : Nat → List V → V → Hp → Prop} {pf : Heap → List (Addr × Obj)} {gh : Heap → List V → Prop}
/-- between turns -/
def GIv (Y : Cx) (fp : List Addr) (tn : Nat → Heap → Prop) (σg : L2.St) (pf : Heap → List (Addr × Obj)) (s₀ : Shared) (i : Nat) (H : Hp) (s : Shared) : Prop := Inv Y (pf s₀.heap) σg H s ∧ tn i s.heap ∧ ∀ b ∈ fp, H b = none
/-- gh: what the walker's own object tells of what is out -/
def GxEnd (Y : Cx) (σg : L2.St) (Fin : List V → Hp → Prop) (pf : Heap → List (Addr × Obj)) (gh : Heap → List V → Prop) : Nat → Shared → Shared → Prop := fun _ s₀ s₁ => ∃ ys H, gh s₀.heap ys ∧ Inv Y (pf s₀.heap) σg H s₁ ∧ Fin ys H
def GxOut (Y : Cx) (fp : List Addr) (tn : Nat → Heap → Prop) (σg : L2.St) (top : Nat) (W : Nat → List V → Hp → Prop) (Yd : Nat → List V → V → Hp → Prop) (pf : Heap → List (Addr × Obj)) (gh : Heap → List V → Prop) : Protocol := fun n s₀ v s kap =>
  ∃ i ys y H, top - (i + 1) ≤ n ∧ gh s₀.heap ys ∧ RelV y v ∧ GIv Y fp tn σg pf s₀ (i + 1) H s ∧ Yd i ys y H ∧ ∀ ys' s', gh s'.heap ys' → W (i + 1) ys' H → GIv Y fp tn σg pf s' (i + 1) H s' → kap (.send .none) s'
theorem Gx.fpOk (G : Gx Y A elt tg iter ifs scope pos it fp tn J gt tt te vs σg top W Fin Yd pf) {h : Heap} {σ : L2.St} {H : Hp} {s : Shared} (I : Inv Y (pf h) σ H s) (hn : ∀ b ∈ fp, H b = none) : ∀ b ∈ fp, FpOk Y (pf h) H b := fun b hb =>
  have hx := G.ex b hb
  ⟨hn b hb, (I.ok.exf b hx).1, I.ok.exfs b hx, .inl hx, fun x c e => (I.ok.exf b hx).2 x c e, fun p hp z => G.apart h p hp (by rw [z]; exact hb)⟩
theorem seg_gx (G : Gx Y A elt tg iter ifs scope pos it fp tn J gt tt te vs σg top W Fin Yd pf) : ∀ (k n i : Nat) (ys : List V) (H : Hp) (s₀ s : Shared), top - i = k → k ≤ n → gh s₀.heap ys → GIv Y fp tn σg pf s₀ i H s → W i ys H →
    Seg (model Y.prog Y.w) A (fun n s₀ r s₁ => r = .ok .next ∧ GxEnd Y σg Fin pf gh n s₀ s₁) (GxOut Y fp tn σg top W Yd pf gh) n s₀ (gxCode elt tg iter ifs scope pos it Y.env) ((model Y.prog Y.w).den (gxCode elt tg iter ifs scope pos it Y.env)) [] s := by
  intro k
  induction k with
  | zero =>
    intro n i ys H s₀ s hk hn hg ⟨I, st, nf⟩ hw
    show Seg _ A _ _ n s₀ _ ((compTurn (.GeneratorExp elt [⟨tg, iter, ifs, 0⟩] scope pos) 0 (.ref it) .none Y.env).onRaise (leaving Y.env)) [] s
    rw [compTurn_gen, Sem.onRaise_eq_wrap]
    refine seg_bind_wrap (wpAny_standAt (seg_bind_wrap ?_))
    rw [G.over]
    rcases G.step i ys H hw with ⟨stop, fin⟩ | ⟨_, lt, _⟩
    · refine wpAny_mono (G.turn.done Y rfl rfl rfl G.calm i _ s _ H (fun _ _ => False) I (G.fpOk I nf) st stop) (fun r s6 ⟨hr, I6⟩ => ?_) fun _ _ z => z.elim
      subst hr
      exact seg_end (.ok .next) ⟨rfl, ys, H, hg, I6, fin⟩
    · omega
  | succ k ih =>
    intro n i ys H s₀ s hk hn hg ⟨I, st, nf⟩ hw
    show Seg _ A _ _ n s₀ _ ((compTurn (.GeneratorExp elt [⟨tg, iter, ifs, 0⟩] scope pos) 0 (.ref it) .none Y.env).onRaise (leaving Y.env)) [] s
    rw [compTurn_gen, Sem.onRaise_eq_wrap]
    refine seg_bind_wrap (wpAny_standAt (seg_bind_wrap ?_))
    rw [G.over]
    rcases G.step i ys H hw with ⟨stop, fin⟩ | ⟨go, lt, step⟩
    · refine wpAny_mono (G.turn.done Y rfl rfl rfl G.calm i _ s _ H (fun _ _ => False) I (G.fpOk I nf) st stop) (fun r s6 ⟨hr, I6⟩ => ?_) fun _ _ z => z.elim
      subst hr
      exact seg_end (.ok .next) ⟨rfl, ys, H, hg, I6, fin⟩
    · obtain ⟨m, rfl⟩ : ∃ m, n = m + 1 := ⟨n - 1, by omega⟩
      refine wpAny_mono (G.turn.item Y rfl rfl rfl G.calm i _ s _ H (fun _ _ => False) I (G.fpOk I nf) st go) (fun r s6 ⟨u, hr, h6⟩ => ?_) fun _ _ z => z.elim
      subst hr
      refine seg_bind_wrap ?_
      rw [G.over]
      refine wpAny_mono h6 (fun _ s7 ⟨x, H7, I7, r7, y7, st7, n7⟩ => ?_) fun _ _ z => z.elim
      have I8 := I7.pinned (G.fpOk I7 n7) (G.turn.obj _ _ st7)
      refine seg_bind_wrap ?_
      rw [G.over]
      refine wpAny_mono (G.pg.run _ s7 _ H7 x u _ I8 r7 (step x H7 y7)) (fun _ s8 ⟨σ8, H8, I9, ⟨hw8, hl8⟩, q8⟩ => ?_) fun _ _ z => (G.xe _ _ z).elim
      refine seg_bind_wrap ?_
      rw [G.over]
      refine wpAny_mono (G.pt.run _ s8 σ8 H8 _ I9 q8) (fun b s9 ⟨H9, I10, q9⟩ => ?_) fun _ _ z => (G.xe _ _ z).elim
      have fin : ∀ {s' : Shared} {H' : Hp}, Inv Y (pf s₀.heap ++ pinsAt fp s7.heap) σ8 H' s' → GIv Y fp tn σg pf s₀ (i + 1) H' s' := fun {s' H'} J' => by
        have pin' : ∀ b ∈ fp, ∀ o, s7.heap.get? b = some o → s'.heap.get? b = some o ∧ H' b = none := fun b hb o e =>
          let z := J'.pin (b, o) (List.mem_append_right _ (List.mem_append_right _ (mem_pinsAt hb e)))
          ⟨z.1, z.2.1⟩
        refine ⟨J'.unpinned.weak hl8 fun j v e => ?_, G.turn.keep _ _ _ st7 fun b hb o e => (pin' b hb o e).1, fun b hb => ?_⟩
        · rw [← hw8] at e
          exact (wipe_some e).1
        · obtain ⟨o, e, _⟩ := G.turn.obj _ _ st7 b hb
          exact (pin' b hb o e).2
      cases b with
      | false =>
        simp only [Bool.false_eq_true, if_false] at q9 ⊢
        exact seg_again rfl (ih (m + 1) (i + 1) ys H9 s₀ s9 (by omega) (by omega) hg (fin I10) q9)
      | true =>
        simp only [if_true] at q9 ⊢
        have hy : ∀ v, yieldOut Y.env v = yieldValue v := fun v => by simp only [yieldOut, G.co, Bool.false_eq_true, if_false]
        simp only [hy]
        rw [Sem.bind_eq_wrap', Sem.bind_eq_wrap', Sem.wrap_wrap, Sem.wrap_wrap]
        refine seg_wrap ?_
        rw [G.over]
        refine wpAny_mono (G.pe.run _ s9 σ8 H9 _ I10 q9) (fun v s10 ⟨y, H10, I11, ry, yd⟩ => ?_) fun _ _ z => (G.xe _ _ z).elim
        refine seg_at (seg_yield rfl rfl rfl ⟨i, ys, y, H10, by omega, hg, ry, fin I11, yd, fun ys' s' hg' hw' hi' => ?_⟩)
        exact seg_again rfl (ih m (i + 1) ys' H10 s' s' (by omega) (by omega) hg' hi' hw')

/-! ### one turn, asked for from without -/
/-- the generator at a (its state's number g) waits ahead of turn i -/
def GxAt (Y : Cx) (A : Around) (fp : List Addr) (tn : Nat → Heap → Prop) (σg : L2.St) (top : Nat) (W : Nat → List V → Hp → Prop) (Fin : List V → Hp → Prop) (Yd : Nat → List V → V → Hp → Prop) (pf : Heap → List (Addr × Obj)) (gh : Heap → List V → Prop) (g : Nat) (n i : Nat) (ys : List V) (H : Hp) (s : Shared) : Prop :=
  GIv Y fp tn σg pf s i H s ∧ gh s.heap ys ∧ W i ys H ∧ ∃ gs, s.gens[g]? = some gs ∧ ∀ ys' s', gh s'.heap ys' → W i ys' H → GIv Y fp tn σg pf s' i H s' → gs.Goes (model Y.prog Y.w) A (fun n s₀ r s₁ => r = .ok .next ∧ GxEnd Y σg Fin pf gh n s₀ s₁) (GxOut Y fp tn σg top W Yd pf gh) n (.send .none) s'
theorem inv_gens {pins : List (Addr × Obj)} {σ : L2.St} {H : Hp} {s s' : Shared} (I : Inv Y pins σ H s) (hh : s'.heap = s.heap) (ho : s'.os = s.os) (hb : AllBare s'.gens) : Inv Y pins σ H s' :=
  I.call' (ch := []) ho (by rw [hh]; exact Un.refl) (by rw [hh]; exact I.hok) hb fun b z => by simp at z
theorem GIv.gens {s₀ s s₁ s' : Shared} {i : Nat} {H : Hp} (h : GIv Y fp tn σg pf s₀ i H s) (h0 : s₁.heap = s₀.heap) (hh : s'.heap = s.heap) (ho : s'.os = s.os) (hb : AllBare s'.gens) : GIv Y fp tn σg pf s₁ i H s' := by
  obtain ⟨I, st, nf⟩ := h
  unfold GIv
  rw [h0, hh]
  exact ⟨inv_gens I hh ho hb, st, nf⟩
theorem next_gx {B : Around} {a : Addr} {g : Nat} {n i : Nat} {ys : List V} {H : Hp} {s : Shared} {E : Value → Shared → Prop} {Q : Option Value → Shared → Prop} (hB : B.in1 = A) (hh : B.handled = none) (hd : B.depth < recursionLimit) (hgen : ∀ pins σ H s, Inv Y pins σ H s → s.heap.IsGen a g)
    (h : GxAt Y A fp tn σg top W Fin Yd pf gh g n i ys H s)
    (hQ0 : ∀ ys' H' s', gh s.heap ys' → Inv Y (pf s.heap) σg H' s' → Fin ys' H' → Q none s')
    (hQ1 : ∀ v i' ys' y H' s', gh s.heap ys' → RelV y v → GIv Y fp tn σg pf s (i' + 1) H' s' → Yd i' ys' y H' → (∀ ys2 s2, gh s2.heap ys2 → W (i' + 1) ys2 H' → GIv Y fp tn σg pf s2 (i' + 1) H' s2 → s2.gens = s'.gens → ∃ m, n = m + 1 ∧ GxAt Y A fp tn σg top W Fin Yd pf gh g m (i' + 1) ys2 H' s2) → Q (some v) s') :
    wpAny (model Y.prog Y.w) B (pyNext (.ref a)) Q E s := by
  obtain ⟨hI, hgh, hw, gs, hgs, hgo⟩ := h
  have hlt : g < s.gens.size := (Array.getElem?_eq_some_iff.mp hgs).1
  have hrun : AllBare (s.setGen g .running).gens := allBare_setGen hI.1.bare rfl
  have hI2 : GIv Y fp tn σg pf (s.setGen g .running) i H (s.setGen g .running) := hI.gens rfl rfl rfl hrun
  subst hB
  refine wpAny_gsz (n := g + 1) hlt (wpAny_pyNext_genexpQ (P := GxEnd Y σg Fin pf gh) (Y := GxOut Y fp tn σg top W Yd pf gh) (n := n) hh hI.1.nolimit hd (hgen _ _ _ _ hI.1) hgs (hgo ys _ hgh hw hI2) (fun v s₁ gs' hbare hY => ?_) fun s₁ hP h' hk => ?_)
  · intro hsz
    obtain ⟨i', ys', y, H', hle, hgy, ry, hi', yd, hkap⟩ := hY
    have hb1 : AllBare (s₁.setGen g gs').gens := allBare_setGen hi'.1.bare hbare
    refine hQ1 v i' ys' y H' _ hgy ry (hi'.gens rfl rfl rfl hb1) yd fun ys2 s2 hh2 hw2 hi2 hg2 => ?_
    have hk2 := hkap ys2 s2 hh2 hw2 hi2
    cases n with
    | zero => exact False.elim hk2
    | succ m =>
      refine ⟨m, rfl, hi2, hh2, hw2, gs', ?_, fun ys3 s3 hh3 hw3 hi3 => hkap ys3 s3 hh3 hw3 hi3⟩
      rw [hg2]
      have hs3 : g < s₁.gens.size := by
        have q := setGen_size s₁ g gs'
        omega
      exact setGen_at hs3
  · intro hsz
    obtain ⟨ys', H', hgh', I', fin⟩ := hP
    refine hQ0 ys' H' _ hgh' ?_ fin
    have I2 : Inv Y (pf s.heap) σg H' s₁ := I'
    refine I2.call' (ch := []) rfl (Un.kept hk) (I2.hok.kept hk) (allBare_setGen I2.bare rfl) fun b z => by simp at z
/-- before the first turn -/
theorem gx_fresh {g : Nat} {ys : List V} {H : Hp} {s : Shared} (G : Gx Y A elt tg iter ifs scope pos it fp tn J gt tt te vs σg top W Fin Yd pf) (hI : GIv Y fp tn σg pf s 0 H s) (hgh : gh s.heap ys) (hw : W 0 ys H)
    (hgs : s.gens[g]? = some (.fresh (.compStart (.GeneratorExp elt [⟨tg, iter, ifs, 0⟩] scope pos) 0 (.ref it) .none Y.env))) : GxAt Y A fp tn σg top W Fin Yd pf gh g top 0 ys H s := by
  refine ⟨hI, hgh, hw, _, hgs, fun ys' s' hh' hw' hi' => ⟨rfl, ?_⟩⟩
  have loop := seg_gx G (gh := gh) top top 0 ys' H s' s' (Nat.sub_zero _) (Nat.le_refl _) hh' hi' hw'
  show Seg _ A _ _ _ _ _ ((compStart (.GeneratorExp elt [⟨tg, iter, ifs, 0⟩] scope pos) 0 (.ref it) .none Y.env).onRaise (leaving Y.env)) [] _
  unfold compStart
  rw [Sem.onRaise_eq_wrap]
  show Seg _ A _ _ _ _ _ ((ask >>= _).wrap _ _ _ _) [] _
  refine seg_bind_wrap (wpAny_askSetting ?_)
  split
  · exact seg_again rfl loop
  · first
      | exact seg_bind_wrap (wpAny_rule (seg_bind_wrap (wpAny_standAt (seg_bind_wrap (G.turn.self _ 0 s' _ _ hi'.2.1 (seg_again rfl loop))))))
      | (refine seg_bind_wrap (wpAny_rule ?_); show Seg _ A _ _ _ _ _ ((standAt iter.pos >>= _).wrap _ _ _ _) [] _; exact seg_bind_wrap (wpAny_standAt (seg_bind_wrap (G.turn.self _ 0 s' _ _ hi'.2.1 (seg_again rfl loop)))))
end

/-! ### it is made -/
section
variable {X : Cx} {pins : List (Addr × Obj)} {σ : L2.St} {H : Hp} {s : Shared} {scope : Scope} {own : List (Str × Nat)} {elt tg iter : Expr} {ifs : List Expr} {pos : Pos}
/-- a generator expression that has not begun -/
def GxMade (X : Cx) (pins : List (Addr × Obj)) (σ : L2.St) (scope : Scope) (own : List (Str × Nat)) (elt tg iter : Expr) (ifs : List Expr) (pos : Pos) (R : It → Hp → Prop) (u : Value) (s5 : Shared) : Prop :=
  ∃ (a it : Addr) (g : Nat) (fp : List Addr) (tn : Nat → Heap → Prop) (J : It) (H4 : Hp) (s4 : Shared) (cd : Value) (go : Obj), u = .ref a ∧ Inv X pins σ H4 s4 ∧ (∀ b ∈ fp, FpOk X pins H4 b ∧ b < s4.heap.objs.size) ∧ Turn X.prog X.w X.K tg J fp it tn ∧ tn 0 s5.heap ∧ s4.heap.objs.size < a ∧
    s5.gens[g]? = some (.fresh (.compStart (.GeneratorExp elt [⟨tg, iter, ifs, 0⟩] scope pos) 0 (.ref it) .none (genEnv scope (cloFrom X.env.cells scope.names []) s4.heap.objs.size cd builtinsNs X.env))) ∧ (∃ nm qn, go.cls = .type "generator" ∧ go.data = .fields #[.int g 0, nm, qn] ∧ go.slots = #[]) ∧ a < s5.heap.objs.size ∧
    (∀ A : Around, A.handled = none → A.frames = some (genEnv scope (cloFrom X.env.cells scope.names []) s4.heap.objs.size cd builtinsNs X.env :: X.stack) → Inv (gxC X s4 H4 (genEnv scope (cloFrom X.env.cells scope.names []) s4.heap.objs.size cd builtinsNs X.env) fp [(a, go)] A) [] (wipe σ (own.map (·.2))) H4 s5) ∧ R J H4
theorem gx_made {c P : Addr} {wi : TI} {k : Nat} {R : It → Hp → Prop} (hr : Room k X.A) (TB : GxR.TabB X.base X.mg c P) (hcode : X.env.code = .ref c) (ok : BlkOk X.N X.env.scope scope own) (hcell : ∀ y ∈ scope.names, y.2 ≠ .cell) (hN : X.N.Nodup)
    (hco : scope.isCoroutine = false) (h0 : scope.names.lookup (".0" : Str) = some NameKind.local) (hi : PI X tg iter wi) (hs : ∀ v, genFold iter X.env v = pure v) (I : Inv X pins σ H s)
    (h : wi σ H fun J H1 => GxR.TabG H1 P ∧ ∀ H2, GxR.Tabbed P H1 H2 → R J H2) :
    wpAny (model X.prog X.w) X.A (eval (.GeneratorExp elt [⟨tg, iter, ifs, 0⟩] scope pos) X.env) (GxMade X pins σ scope own elt tg iter ifs pos R) X.xe s := by
  have cap : ∀ y ∈ scope.names, y.2 = .free → ∃ c, X.env.cells.lookup y.1 = some c := fun y hy e => (ok.free y hy e).elim (fun k => I.ok.has _ (.inl k)) fun k => I.ok.has _ (.inr k)
  refine wpAny_GeneratorExp_make hco (closure_ok cap) hcell h0 ok.kind (by have := hr.dp; omega) (thn (hi.run pins s σ H _ I h) fun xv s1 hx => thn hx fun itv s2 h2 => ?_) hs
  obtain ⟨it, fp, tn, J, H2, rfl, I2, T, st2, f2, ⟨ps, hP, htr⟩, q⟩ := h2
  refine ⟨I2.nolimit, ?_⟩
  have hPs : s2.heap.get? P = some { cls := .none, data := .fields ps } := I2.hok P _ hP
  have cd2 : PySem.W.CodeHd s2.heap c P := TB.code.keeps fun b u e => I2.bk b u e
  have sz : ∀ b ∈ fp, b < s2.heap.objs.size ∧ b ≠ P := fun b hb => by
    obtain ⟨o, e, _⟩ := T.obj _ _ st2 b hb
    refine ⟨Heap.lt_size e, fun z => ?_⟩
    have := (f2 b hb).1
    rw [z, hP] at this
    cases this
  have cont : ∀ (code : Value) (h3 : Heap) (tk : Nat) (more : Array Value), Heap.ExtBut P s2.heap h3 → s2.heap.objs.size ≤ h3.objs.size → h3.get? P = some { cls := .none, data := .fields (ps ++ more) } → TriplesOk (ps ++ more).toList →
      wpAny (model X.prog X.w) X.A (builtinsFor X.env.globals X.env.builtins) (fun bi s₄ => ∀ h', h'.Ns s₄.heap.objs.size (fun y => if y = ".0" then some (.ref it) else none) → Heap.SameBut s₄.heap.objs.size (s₄.heap.push { cls := .type "frame", data := .dict #[] }) h' →
        GxMade X pins σ scope own elt tg iter ifs pos R (.ref h'.objs.size) { s₄ with
          gens := s₄.gens.push (.fresh (.compStart (.GeneratorExp elt [⟨tg, iter, ifs, 0⟩] scope pos) 0 (.ref it) .none (genEnv scope (cloFrom X.env.cells scope.names []) s₄.heap.objs.size code bi X.env))),
          toks := s₄.toks + 1 + 1 + 1, heap := h'.push { cls := .type "generator", data := .fields #[.int s₄.gens.size 0, .str "<genexpr>" (s₄.toks + 1), .str (X.env.qual ++ "<genexpr>") (s₄.toks + 1 + 1)] } }) X.xe { s2 with heap := h3, toks := tk } := by
    intro code h3 tk more hx hsz hP3 ht3
    obtain ⟨bm, ob, e1, e2, e3, e4, e5, e6, e7, e8⟩ := TB.bm
    have keep3 : ∀ b u, b ≠ P → s2.heap.get? b = some u → h3.get? b = some u := fun b u hb e => hx b u hb e
    refine wpAny_builtinsFor (m := X.mg) (by rw [I2.ok.glob]; exact (I2.mod.glob.keeps I2.bk).extBut hx TB.gP) e1 e2 (keep3 _ _ e4 (I2.bk _ _ e5)) e6 e7 e8 ?_
    have J3 := GxR.inv_tab (more := more) (h' := h3) (g' := s2.gens) (d' := s2.drawn) (t' := tk) I2 hP (fun b u hb e => keep3 b u hb e) hP3 I2.bare
    intro h' hn' hs'
    generalize hs4 : ({ s2 with heap := h3, gens := s2.gens, drawn := s2.drawn, toks := tk } : Shared) = s4 at J3
    have e43 : s4.heap = h3 := by rw [← hs4]
    have e4g : s4.gens = s2.gens := by rw [← hs4]
    have hsz' : h'.objs.size = h3.objs.size + 1 := by rw [hs'.1, Heap.size_push]
    have keep' : ∀ b o, h3.get? b = some o → h'.get? b = some o := fun b o e => hs'.extBut b o (Nat.ne_of_lt (Heap.lt_size e)) (Heap.get?_push_of_some _ e)
    have f4 : ∀ b ∈ fp, FpOk X pins (upd H2 P (.tbl (ps ++ more))) b ∧ b < s4.heap.objs.size := fun b hb => ⟨⟨by rw [upd_ne (sz b hb).2]; exact (f2 b hb).1, (f2 b hb).2⟩, by rw [e43]; exact Nat.lt_of_lt_of_le (sz b hb).1 hsz⟩
    have hlt : s4.heap.objs.size < h'.objs.size := by rw [e43, hsz']; exact Nat.lt_succ_self _
    refine ⟨h'.objs.size, it, s4.gens.size, fp, tn, J, _, s4, code, { cls := .type "generator", data := .fields #[.int s4.gens.size 0, .str "<genexpr>" (s4.toks + 1), .str (X.env.qual ++ "<genexpr>") (s4.toks + 1 + 1)] }, rfl, J3, f4, T, ?_, hlt, ?_, ⟨_, _, rfl, rfl, rfl⟩, ?_, fun A hh hf => ?_, q _ ⟨⟨ps ++ more, upd_same, ht3⟩, fun b hb => upd_ne hb⟩⟩
    · exact T.keep _ _ _ st2 fun b hb o e => Heap.get?_push_of_some _ (keep' b o (keep3 b o (sz b hb).2 e))
    · exact Array.getElem?_push_size ..
    · show _ < (h'.push _).objs.size
      rw [Heap.size_push]
      exact Nat.lt_succ_self _
    · refine gx_start J3 ok hcell hN f4 rfl hlt (m0 := fun y => if y = ".0" then some (.ref it) else none) ?_ (fun b o e => ?_) (Heap.get?_push_size _ rfl) (fun v z => by cases z) rfl (AllBare.push (by rw [e4g]; exact I2.bare) rfl) hh hf
      · rw [e43]
        exact hn'.push _
      · rw [e43] at e
        exact Heap.get?_push_of_some _ (keep' b o e)
  cases hf : codeAmong pos ps.toList with
  | none =>
    refine wpAny_genexprCodeX hcode (cd2.code hPs htr) (cd2.tab hPs) hf fun c' h' tk hx hge hlt hco' _ htab' _ => ?_
    obtain ⟨o1, vs, f1, tf, fl, tg', inF, tx, tt, op, _, _, _, _, _, _, _, _, _, htr', _⟩ := hco'
    exact cont _ h' tk _ hx (Nat.le_trans hge (Nat.le_of_lt hlt)) htab'.2 htr'
  | some cv =>
    refine wpAny_genexprCode_hit hcode (cd2.code hPs htr) hf ?_
    have e : ps ++ #[] = ps := by simp
    exact cont cv s2.heap s2.toks #[] (Heap.ExtBut.refl _ _) (Nat.le_refl _) (by rw [e]; exact hPs) (by rw [e]; exact htr)
end
end Rim

/-! RimR: all, any of a generator expression whose elements call defs. -/
namespace Rim
open PySem PySem.Spec PyProof.Rows L2 GenW
section
variable {Y : Cx} {A : Around} {fp : List Addr} {tn : Nat → Heap → Prop} {σg : L2.St} {top : Nat} {W : Nat → List V → Hp → Prop} {Fin : List V → Hp → Prop} {Yd : Nat → List V → V → Hp → Prop}
theorem all_loop {B0 : Around} {a : Addr} {g : Nat} {R : Result → Shared → Prop} {T U : Hp → Prop} (hA : B0.in1.in1 = A) (hh : B0.handled = none) (hd : B0.depth < recursionLimit) (hgen : ∀ pins σ H s, Inv Y pins σ H s → s.heap.IsGen a g)
    (hF : ∀ ys H, Fin ys H → T H) (hY : ∀ i ys y H, Yd i ys y H → ∃ b, y = .bl b ∧ (b = true → W (i + 1) [] H) ∧ (b = false → U H))
    (hT : ∀ H s, Inv Y [] σg H s → T H → R (.ok (.ret (.bool true))) s) (hN : ∀ H s, Inv Y [] σg H s → U H → R (.ok (.ret (.bool false))) s) :
    ∀ (n i : Nat) (ys : List V) (H : Hp) (s : Shared), GxAt Y A fp tn σg top W Fin Yd (fun _ => []) (fun _ _ => True) g n i ys H s → codeAny (model Y.prog Y.w) B0 (.builtin "all.loop" ⟨[.ref a], []⟩) R s := by
  intro n
  induction n with
  | zero =>
    intro i ys H s h
    refine codeAny_builtin F.entry_all_loop ?_
    rw [Around.under_plainId F.plain_all_loop _]
    show wpAny _ B0.in1 (pyNext (.ref a) >>= _) _ _ s
    refine wpAny_bind (next_gx (B := B0.in1) hA hh hd hgen h (fun ys' H' s' _ I f => wpAny_bind (wpAny_rule (wpAny_pure (hT H' s' I (hF _ _ f))))) fun v i' ys' y H' s' _ ry hi yd go => ?_)
    obtain ⟨b, rfl, h1, h0⟩ := hY _ _ _ _ yd
    obtain rfl : v = Value.bool b := ry
    refine wpAny_bind (wpAny_holding (wpAny_truthy_bool (wpAny_bind (wpAny_letGo ?_))))
    cases b with
    | true =>
      obtain ⟨m, e, _⟩ := go [] s' trivial (h1 rfl) hi rfl
      cases e
    | false =>
      simp only [Bool.false_eq_true, if_false]
      exact wpAny_bind (wpAny_rule (wpAny_pure (hN H' s' hi.1 (h0 rfl))))
  | succ n ih =>
    intro i ys H s h
    refine codeAny_builtin F.entry_all_loop ?_
    rw [Around.under_plainId F.plain_all_loop _]
    show wpAny _ B0.in1 (pyNext (.ref a) >>= _) _ _ s
    refine wpAny_bind (next_gx (B := B0.in1) hA hh hd hgen h (fun ys' H' s' _ I f => wpAny_bind (wpAny_rule (wpAny_pure (hT H' s' I (hF _ _ f))))) fun v i' ys' y H' s' _ ry hi yd go => ?_)
    obtain ⟨b, rfl, h1, h0⟩ := hY _ _ _ _ yd
    obtain rfl : v = Value.bool b := ry
    refine wpAny_bind (wpAny_holding (wpAny_truthy_bool (wpAny_bind (wpAny_letGo ?_))))
    cases b with
    | true =>
      simp only [if_true]
      obtain ⟨m, e, h2⟩ := go [] s' trivial (h1 rfl) hi rfl
      cases e
      exact wpAny_pure ⟨plainId_quiet F.plain_all_loop _, ih _ _ _ _ h2⟩
    | false =>
      simp only [Bool.false_eq_true, if_false]
      exact wpAny_bind (wpAny_rule (wpAny_pure (hN H' s' hi.1 (h0 rfl))))
theorem any_loop {B0 : Around} {a : Addr} {g : Nat} {R : Result → Shared → Prop} {T U : Hp → Prop} (hA : B0.in1.in1 = A) (hh : B0.handled = none) (hd : B0.depth < recursionLimit) (hgen : ∀ pins σ H s, Inv Y pins σ H s → s.heap.IsGen a g)
    (hF : ∀ ys H, Fin ys H → U H) (hY : ∀ i ys y H, Yd i ys y H → ∃ b, y = .bl b ∧ (b = false → W (i + 1) [] H) ∧ (b = true → T H))
    (hT : ∀ H s, Inv Y [] σg H s → T H → R (.ok (.ret (.bool true))) s) (hN : ∀ H s, Inv Y [] σg H s → U H → R (.ok (.ret (.bool false))) s) :
    ∀ (n i : Nat) (ys : List V) (H : Hp) (s : Shared), GxAt Y A fp tn σg top W Fin Yd (fun _ => []) (fun _ _ => True) g n i ys H s → codeAny (model Y.prog Y.w) B0 (.builtin "any.loop" ⟨[.ref a], []⟩) R s := by
  intro n
  induction n with
  | zero =>
    intro i ys H s h
    refine codeAny_builtin F.entry_any_loop ?_
    rw [Around.under_plainId F.plain_any_loop _]
    show wpAny _ B0.in1 (pyNext (.ref a) >>= _) _ _ s
    refine wpAny_bind (next_gx (B := B0.in1) hA hh hd hgen h (fun ys' H' s' _ I f => wpAny_bind (wpAny_rule (wpAny_pure (hN H' s' I (hF _ _ f))))) fun v i' ys' y H' s' _ ry hi yd go => ?_)
    obtain ⟨b, rfl, h0, h1⟩ := hY _ _ _ _ yd
    obtain rfl : v = Value.bool b := ry
    refine wpAny_bind (wpAny_holding (wpAny_truthy_bool (wpAny_bind (wpAny_letGo ?_))))
    cases b with
    | false =>
      obtain ⟨m, e, _⟩ := go [] s' trivial (h0 rfl) hi rfl
      cases e
    | true =>
      simp only [if_true]
      exact wpAny_bind (wpAny_rule (wpAny_pure (hT H' s' hi.1 (h1 rfl))))
  | succ n ih =>
    intro i ys H s h
    refine codeAny_builtin F.entry_any_loop ?_
    rw [Around.under_plainId F.plain_any_loop _]
    show wpAny _ B0.in1 (pyNext (.ref a) >>= _) _ _ s
    refine wpAny_bind (next_gx (B := B0.in1) hA hh hd hgen h (fun ys' H' s' _ I f => wpAny_bind (wpAny_rule (wpAny_pure (hN H' s' I (hF _ _ f))))) fun v i' ys' y H' s' _ ry hi yd go => ?_)
    obtain ⟨b, rfl, h0, h1⟩ := hY _ _ _ _ yd
    obtain rfl : v = Value.bool b := ry
    refine wpAny_bind (wpAny_holding (wpAny_truthy_bool (wpAny_bind (wpAny_letGo ?_))))
    cases b with
    | false =>
      simp only [Bool.false_eq_true, if_false]
      obtain ⟨m, e, h2⟩ := go [] s' trivial (h0 rfl) hi rfl
      cases e
      exact wpAny_pure ⟨plainId_quiet F.plain_any_loop _, ih _ _ _ _ h2⟩
    | true =>
      simp only [if_true]
      exact wpAny_bind (wpAny_rule (wpAny_pure (hT H' s' hi.1 (h1 rfl))))
end
section
variable {X : Cx} {pins : List (Addr × Obj)} {σ : L2.St} {H : Hp} {s : Shared} {scope : Scope} {own : List (Str × Nat)} {elt tg iter : Expr} {ifs : List Expr} {gpos : Pos} {gt : TG} {tt : TT} {te : TE} {wi : TI} {k : Nat} {c P : Addr}
/-- back in the def's own frame -/
theorem gx_back {H4 H' : Hp} {s4 s' : Shared} {env : Env} {fp : List Addr} {pn pins2 : List (Addr × Obj)} {A : Around} {σg : L2.St} (I : Inv X pins σ H4 s4) (hfp : ∀ b ∈ fp, FpOk X pins H4 b ∧ b < s4.heap.objs.size) (J : Inv (gxC X s4 H4 env fp pn A) pins2 σg H' s') : Inv X pins σ H' s' :=
  I.call' (ch := fp) J.os J.base J.hok J.bare fun b hb => ⟨(hfp b hb).1.2.2.2.1, (hfp b hb).1.2.1, (hfp b hb).1.2.2.2.2.1, (hfp b hb).1.2.2.2.2.2⟩
/-- the around of a generator expression's elements -/
theorem gx_over {A B : Around} {elt tg iter : Expr} {ifs : List Expr} {scope : Scope} {pos : Pos} {it : Addr} {env : Env} {l : List Env} (hh : A.handled = none) (hf : A.frames = some l) (hg : A.guards = some []) (hr : Room (k + 1) A) :
    (A.over (gxCode elt tg iter ifs scope pos it env) []).handled = none ∧ (A.over (gxCode elt tg iter ifs scope pos it env) []).frames = some (env :: l) ∧ (A.over (gxCode elt tg iter ifs scope pos it env) []).guards = some [] ∧ Room k (A.over (gxCode elt tg iter ifs scope pos it env) []) := by
  refine ⟨hh, ?_, ?_, hh, ?_, ?_⟩
  · unfold Around.over
    dsimp only
    rw [hf]
    rfl
  · unfold Around.over
    dsimp only
    rw [hg]
    rfl
  · have := hr.dp
    show A.depth + 0 + 1 + 3 * k + 5 < _
    omega
  · have := hr.un
    show A.units + 0 + 3 + 16 * k + 200 < _
    omega
/-- an element's derivations, in any frame of the generator expression -/
structure GxE (X : Cx) (k : Nat) (scope : Scope) (elt tg : Expr) (ifs : List Expr) (gt : TG) (tt : TT) (te : TE) : Prop where
  pg : ∀ (s : Shared) (H : Hp) (C : Addr) (cd : Value) (fp : List Addr) (pn : List (Addr × Obj)) (A : Around), Room k A → A.guards = some [] → PG (gxC X s H (genEnv scope (cloFrom X.env.cells scope.names []) C cd builtinsNs X.env) fp pn A) tg gt
  pt : ∀ (s : Shared) (H : Hp) (C : Addr) (cd : Value) (fp : List Addr) (pn : List (Addr × Obj)) (A : Around), Room k A → A.guards = some [] → PTs (gxC X s H (genEnv scope (cloFrom X.env.cells scope.names []) C cd builtinsNs X.env) fp pn A) ifs tt
  pe : ∀ (s : Shared) (H : Hp) (C : Addr) (cd : Value) (fp : List Addr) (pn : List (Addr × Obj)) (A : Around), Room k A → A.guards = some [] → PE (gxC X s H (genEnv scope (cloFrom X.env.cells scope.names []) C cd builtinsNs X.env) fp pn A) elt te
/-- what is told of the code -/
structure GxK (X : Cx) (scope : Scope) (own : List (Str × Nat)) (c P : Addr) : Prop where
  TB : GxR.TabB X.base X.mg c P
  code : X.env.code = .ref c
  ok : BlkOk X.N X.env.scope scope own
  cell : ∀ y ∈ scope.names, y.2 ≠ .cell
  nd : X.N.Nodup
  co : scope.isCoroutine = false
  dot : scope.names.lookup (".0" : Str) = some NameKind.local
  calm : X.calm = true
/-- the turns of a generator expression, for a walker: T at the end, y handed out -/
def GxTurns (gt : TG) (tt : TT) (te : TE) (vs : List Nat) (σ : L2.St) (J : It) (top : Nat) (W : Nat → List V → Hp → Prop) (Fin : List V → Hp → Prop) (Yd : Nat → List V → V → Hp → Prop) : Prop :=
  ∀ i ys H, W i ys H → (J.stop i H ∧ Fin ys H) ∨ (J.go i H ∧ i < top ∧ ∀ x H', J.yld i H x H' → gt x (wipe σ vs) H' fun σ2 H2 => (wipe σ2 vs = wipe σ vs ∧ (wipe σ vs).length = σ2.length) ∧ tt σ2 H2 fun b H3 => if b = true then te σ2 H3 fun y H4 => Yd i ys y H4 else W (i + 1) ys H3)
/-- from what is made to what waits ahead of its first turn -/
theorem gx_at {A : Around} {R : It → Hp → Prop} {u : Value} {s5 : Shared} (hK : GxK X scope own c P) (hE : GxE X k scope elt tg ifs gt tt te) (hh : A.handled = none) (hf : A.frames = some X.stack) (hg : A.guards = some []) (hr : Room (k + 1) A)
    (h : GxMade X pins σ scope own elt tg iter ifs gpos R u s5) :
    ∃ (Y : Cx) (a : Addr) (g : Nat) (fp : List Addr) (tn : Nat → Heap → Prop) (J : It) (H4 : Hp), Y.prog = X.prog ∧ Y.w = X.w ∧ u = .ref a ∧ R J H4 ∧ (∀ pins2 σ2 H s, Inv Y pins2 σ2 H s → s.heap.IsGen a g) ∧ (∀ pins2 σ2 H s, Inv Y pins2 σ2 H s → Inv X pins σ H s) ∧ a < s5.heap.objs.size ∧
      (∀ b ∈ fp, b < s5.heap.objs.size) ∧ (∀ p ∈ Y.pn, p.1 = a) ∧ a ∉ fp ∧ Y.s_0.heap.objs.size ≤ a ∧ (∀ x c, Y.env.cells.lookup x = some c → c < a) ∧ Y.env.locals < a ∧ (∀ i h h', tn i h → (∀ b ∈ fp, ∀ o, h.get? b = some o → h'.get? b = some o) → tn i h') ∧
      ∀ (top : Nat) (W : Nat → List V → Hp → Prop) (Fin : List V → Hp → Prop) (Yd : Nat → List V → V → Hp → Prop) (pf : Heap → List (Addr × Obj)) (gh : Heap → List V → Prop), (∀ h, ∀ p ∈ pf h, p.1 ∉ fp) → GxTurns gt tt te (own.map (·.2)) σ J top W Fin Yd →
        Inv Y [] (wipe σ (own.map (·.2))) H4 s5 ∧ ∀ s6, (Inv Y (pf s6.heap) (wipe σ (own.map (·.2))) H4 s6) → (∀ b o, s5.heap.get? b = some o → s6.heap.get? b = some o) → s6.gens = s5.gens → gh s6.heap [] → W 0 [] H4 → GxAt Y A fp tn (wipe σ (own.map (·.2))) top W Fin Yd pf gh g top 0 [] H4 s6 := by
  obtain ⟨a, it, g, fp, tn, J, H4, s4, cd, go, rfl, I, hfp, T, st, hlt, hgs, ⟨nm, qn, q1, q2, q3⟩, ha5, hY, hR⟩ := h
  obtain ⟨o1, o2, o3, o4⟩ := gx_over (B := A) (elt := elt) (tg := tg) (iter := iter) (ifs := ifs) (scope := scope) (pos := gpos) (it := it) (env := genEnv scope (cloFrom X.env.cells scope.names []) s4.heap.objs.size cd builtinsNs X.env) hh hf hg hr
  have I5 := hY _ o1 o2
  have hkeep : ∀ b o, s4.heap.get? b = some o → H4 b = none → b ∉ frs X.stack → b ∉ fp → s5.heap.get? b = some o := fun b o e n h1 h2 => I5.base.keep b o e n h1 h2
  have afp : a ∉ fp := fun z => Nat.lt_irrefl _ (Nat.lt_trans (hfp a z).2 hlt)
  refine ⟨gxC X s4 H4 (genEnv scope (cloFrom X.env.cells scope.names []) s4.heap.objs.size cd builtinsNs X.env) fp [(a, go)] (A.over (gxCode elt tg iter ifs scope gpos it (genEnv scope (cloFrom X.env.cells scope.names []) s4.heap.objs.size cd builtinsNs X.env)) []), a, g, fp, tn, J, H4, rfl, rfl, rfl, hR, fun pins2 σ2 H s J2 => ?_, fun pins2 σ2 H s J2 => gx_back I hfp J2, ha5, fun b hb => Nat.lt_trans (hfp b hb).2 (Nat.lt_trans hlt ha5), fun p hp => by rw [List.mem_singleton.mp hp], afp, Nat.le_of_lt hlt, fun x c e => ?_, hlt, T.keep, fun top W Fin Yd pf gh hpf ht => ⟨I5, fun s6 I6 kp hg6 hgh hw => ?_⟩⟩
  · exact ⟨go, nm, qn, (J2.pin (a, go) (List.mem_append_left _ (List.mem_singleton.mpr rfl))).1, q1, q2, q3⟩
  · rcases cloFrom_mem (PySem.mem_of_lookup e) with z | ⟨z, rfl⟩
    · cases z
    · have hx := (hK.ok.free _ z rfl).elim (fun k => I.ok.has _ (.inl k)) fun k => I.ok.has _ (.inr k)
      obtain ⟨c, hc⟩ := hx
      rw [hc]
      obtain ⟨v, q⟩ := I.cell _ _ hc
      exact Nat.lt_trans q.lt hlt
  · have G : Gx (gxC X s4 H4 (genEnv scope (cloFrom X.env.cells scope.names []) s4.heap.objs.size cd builtinsNs X.env) fp [(a, go)] (A.over (gxCode elt tg iter ifs scope gpos it (genEnv scope (cloFrom X.env.cells scope.names []) s4.heap.objs.size cd builtinsNs X.env)) [])) A elt tg iter ifs scope gpos it fp tn J gt tt te (own.map (·.2)) (wipe σ (own.map (·.2))) top W Fin Yd pf :=
      ⟨rfl, hK.calm, T, hE.pg _ _ _ _ _ _ _ o4 o3, hE.pt _ _ _ _ _ _ _ o4 o3, hE.pe _ _ _ _ _ _ _ o4 o3, hK.co, fun b hb => hb, fun _ _ z => z, fun h p hp z => by
        rcases List.mem_append.mp hp with q | q
        · rw [List.mem_singleton.mp q] at z
          exact afp z
        · exact hpf h p q z, ht⟩
    refine gx_fresh G ⟨I6, T.keep _ _ _ st fun b hb o e => kp b o e, fun b hb => (hfp b hb).1.1⟩ hgh hw ?_
    rw [hg6]
    exact hgs

def tAllX (P : Addr) (wi : TI) (gt : TG) (tt : TT) (te : TE) (vs : List Nat) : TE := fun σ H Q => wi σ H fun J H1 => GxR.TabG H1 P ∧ ∀ H2, GxR.Tabbed P H1 H2 → ∃ (top : Nat) (W : Nat → Hp → Prop), W 0 H2 ∧
  GxTurns gt tt te vs σ J top (fun i _ H => W i H) (fun _ H => Q (.bl true) H) fun i _ y H => ∃ b, y = .bl b ∧ (b = true → W (i + 1) H) ∧ (b = false → Q (.bl false) H)
/-- all of a generator expression -/
theorem pe_allX {p pos : Pos} (hr : Room (k + 2) X.A) (hgu : X.A.guards = some []) (hg : Gl X "all") (hm : X.mg "all" = none) (hb : bootBuiltins "all" = some (.builtin "all")) (hK : GxK X scope own c P) (hE : GxE X k scope elt tg ifs gt tt te) (hi : PI X tg iter wi)
    (hs : ∀ v, genFold iter X.env v = pure v := by intro _; rfl)
    (he : starEach [.GeneratorExp elt [⟨tg, iter, ifs, 0⟩] scope gpos] X.env = (false, eval (.GeneratorExp elt [⟨tg, iter, ifs, 0⟩] scope gpos) X.env) :: starEach [] X.env := by rfl) :
    PE X (.Call (.Name "all" p) [.GeneratorExp elt [⟨tg, iter, ifs, 0⟩] scope gpos] [] pos) (tAllX P wi gt tt te (own.map (·.2))) := by
  refine ⟨fun pins s σ H Q I h => ?_⟩
  refine wpAny_Call_Name_kw (ld_blt I hg hm hb (PyProof.Rows.callWith_builtin1 ?_ he (by rfl)))
  rw [he]
  show wpAny _ _ (spliced ((false, eval (.GeneratorExp elt [⟨tg, iter, ifs, 0⟩] scope gpos) X.env) :: backTo pos (starEach [] X.env))) _ _ s
  refine Calls.spliced_cons (thn (gx_made hr hK.TB hK.code hK.ok hK.cell hK.nd hK.co hK.dot hi hs I h) fun u s5 hM => Calls.spliced_nil ?_)
  obtain ⟨Y, a, g, fp, tn, J, H4, e1, e2, rfl, ⟨top, W, hw, ht⟩, hgen, hback, _, _, _, _, _, _, _, _, hgo⟩ := gx_at (A := X.A.in1.in1) (k := k) hK hE hr.hd I.ok.frames hgu (by have := hr.mono (show k + 1 ≤ k + 2 by omega); exact ⟨this.hd, hr.dp |> fun z => (by show X.A.depth + 3 * (k + 1) + 5 < _; omega), by have z := hr.un; show X.A.units + 1 + 1 + 16 * (k + 1) + 200 < _; omega⟩) hM
  obtain ⟨I5, go⟩ := hgo top _ _ _ (fun _ => []) (fun _ _ => True) (fun _ p hp => by cases hp) ht
  have at0 := go s5 I5 (fun _ _ e => e) rfl trivial hw
  refine call_function_tree F.kind_all F.plain_all F.entry_all (F.args_all1 _) ?_
  unfold Builtin.«all»
  refine wpAny_bind (m := oneArg "all" _) (wpAny_pure (wpAny_bind (wpAny_pyIter_gen (hgen _ _ _ _ I5) (wpAny_pure ⟨plainId_quiet F.plain_all_loop _, ?_⟩))))
  rw [← e1, ← e2]
  exact all_loop (T := Q (.bl true)) (U := Q (.bl false)) rfl hr.hd (by have := hr.dp; omega) hgen (fun _ _ f => f) (fun _ _ _ _ f => f) (fun H' s' J' q => ⟨.bl true, H', hback _ _ _ _ J', rfl, q⟩) (fun H' s' J' q => ⟨.bl false, H', hback _ _ _ _ J', rfl, q⟩) _ _ _ _ _ at0

def tAnyX (P : Addr) (wi : TI) (gt : TG) (tt : TT) (te : TE) (vs : List Nat) : TE := fun σ H Q => wi σ H fun J H1 => GxR.TabG H1 P ∧ ∀ H2, GxR.Tabbed P H1 H2 → ∃ (top : Nat) (W : Nat → Hp → Prop), W 0 H2 ∧
  GxTurns gt tt te vs σ J top (fun i _ H => W i H) (fun _ H => Q (.bl false) H) fun i _ y H => ∃ b, y = .bl b ∧ (b = false → W (i + 1) H) ∧ (b = true → Q (.bl true) H)
/-- any of a generator expression -/
theorem pe_anyX {p pos : Pos} (hr : Room (k + 2) X.A) (hgu : X.A.guards = some []) (hg : Gl X "any") (hm : X.mg "any" = none) (hb : bootBuiltins "any" = some (.builtin "any")) (hK : GxK X scope own c P) (hE : GxE X k scope elt tg ifs gt tt te) (hi : PI X tg iter wi)
    (hs : ∀ v, genFold iter X.env v = pure v := by intro _; rfl)
    (he : starEach [.GeneratorExp elt [⟨tg, iter, ifs, 0⟩] scope gpos] X.env = (false, eval (.GeneratorExp elt [⟨tg, iter, ifs, 0⟩] scope gpos) X.env) :: starEach [] X.env := by rfl) :
    PE X (.Call (.Name "any" p) [.GeneratorExp elt [⟨tg, iter, ifs, 0⟩] scope gpos] [] pos) (tAnyX P wi gt tt te (own.map (·.2))) := by
  refine ⟨fun pins s σ H Q I h => ?_⟩
  refine wpAny_Call_Name_kw (ld_blt I hg hm hb (PyProof.Rows.callWith_builtin1 ?_ he (by rfl)))
  rw [he]
  show wpAny _ _ (spliced ((false, eval (.GeneratorExp elt [⟨tg, iter, ifs, 0⟩] scope gpos) X.env) :: backTo pos (starEach [] X.env))) _ _ s
  refine Calls.spliced_cons (thn (gx_made hr hK.TB hK.code hK.ok hK.cell hK.nd hK.co hK.dot hi hs I h) fun u s5 hM => Calls.spliced_nil ?_)
  obtain ⟨Y, a, g, fp, tn, J, H4, e1, e2, rfl, ⟨top, W, hw, ht⟩, hgen, hback, _, _, _, _, _, _, _, _, hgo⟩ := gx_at (A := X.A.in1.in1) (k := k) hK hE hr.hd I.ok.frames hgu (by have := hr.mono (show k + 1 ≤ k + 2 by omega); exact ⟨this.hd, hr.dp |> fun z => (by show X.A.depth + 3 * (k + 1) + 5 < _; omega), by have z := hr.un; show X.A.units + 1 + 1 + 16 * (k + 1) + 200 < _; omega⟩) hM
  obtain ⟨I5, go⟩ := hgo top _ _ _ (fun _ => []) (fun _ _ => True) (fun _ p hp => by cases hp) ht
  have at0 := go s5 I5 (fun _ _ e => e) rfl trivial hw
  refine call_function_tree F.kind_any F.plain_any F.entry_any (F.args_any1 _) ?_
  unfold Builtin.«any»
  refine wpAny_bind (m := oneArg "any" _) (wpAny_pure (wpAny_bind (wpAny_pyIter_gen (hgen _ _ _ _ I5) (wpAny_pure ⟨plainId_quiet F.plain_any_loop _, ?_⟩))))
  rw [← e1, ← e2]
  exact any_loop (T := Q (.bl true)) (U := Q (.bl false)) rfl hr.hd (by have := hr.dp; omega) hgen (fun _ _ f => f) (fun _ _ _ _ f => f) (fun H' s' J' q => ⟨.bl true, H', hback _ _ _ _ J', rfl, q⟩) (fun H' s' J' q => ⟨.bl false, H', hback _ _ _ _ J', rfl, q⟩) _ _ _ _ _ at0
end
end Rim

/-! RimT: tuple(..) of a generator expression whose elements call defs. -/
namespace Rim
open PySem PySem.Spec PyProof.Rows L2 GenW
/-- the walker's own list -/
def pfS (S : Addr) (h : Heap) : List (Addr × Obj) := match h.get? S with
  | some o => [(S, o)]
  | none => []
def ghS (S : Addr) (h : Heap) (ys : List V) : Prop := ∃ (acc : Array Value) (c : Nat), h.get? S = some (lstObj acc c) ∧ Vals ys acc.toList
theorem pfS_of {S : Addr} {h : Heap} {o : Obj} (e : h.get? S = some o) : pfS S h = [(S, o)] := by
  unfold pfS
  rw [e]
section
variable {Y : Cx} {A : Around} {fp : List Addr} {tn : Nat → Heap → Prop} {σg : L2.St} {top : Nat} {W : Nat → List V → Hp → Prop} {Fin : List V → Hp → Prop} {Yd : Nat → List V → V → Hp → Prop}
theorem ext_loop {B0 : Around} {a S : Addr} {g : Nat} {res : Value} {R : Result → Shared → Prop} (hA : B0.in1.in1 = A) (hh : B0.handled = none) (hd : B0.depth < recursionLimit) (hgen : ∀ pins σ H s, Inv Y pins σ H s → s.heap.IsGen a g)
    (hY : ∀ i ys y H, Yd i ys y H → ys.length < sizeLine ∧ W (i + 1) (ys ++ [y]) H) (hfp : S ∉ fp) (hpn : ∀ p ∈ Y.pn, p.1 ≠ S) (hs0 : Y.s_0.heap.objs.size ≤ S) (hcl : ∀ x c, Y.env.cells.lookup x = some c → c ≠ S)
    (hkeep : ∀ i h h', tn i h → (∀ b ∈ fp, ∀ o, h.get? b = some o → h'.get? b = some o) → tn i h')
    (hend : ∀ ys H s acc c, Inv Y [] σg H s → H S = none → Fin ys H → s.heap.get? S = some (lstObj acc c) → Vals ys acc.toList → R (.ok (.ret res)) s) :
    ∀ (n i : Nat) (ys : List V) (H : Hp) (s : Shared), GxAt Y A fp tn σg top W Fin Yd (pfS S) (ghS S) g n i ys H s → codeAny (model Y.prog Y.w) B0 (.builtin "list.extend.loop" ⟨[.ref S, .ref a, res], []⟩) R s := by
  intro n
  induction n with
  | zero =>
    intro i ys H s h
    refine codeAny_builtin F.entry_extend_loop ?_
    rw [Around.under_plainId F.plain_extend_loop _]
    show wpAny _ B0.in1 (pyNext (.ref a) >>= _) _ _ s
    refine wpAny_bind (next_gx (B := B0.in1) hA hh hd hgen h (fun ys' H' s' hg I f => ?_) fun v i' ys' y H' s' hg ry hi yd go => ?_)
    · obtain ⟨acc, c, e, hv⟩ := hg
      rw [pfS_of e] at I
      have z := I.pin (S, lstObj acc c) (List.mem_append_right _ (List.mem_singleton.mpr rfl))
      exact wpAny_pure (hend ys' H' s' acc c (I.pins_of (pins' := []) fun p hp => by cases hp) z.2.1 f z.1 hv)
    · exact absurd trivial fun _ => by
        obtain ⟨acc, c, e, hv⟩ := hg
        obtain ⟨hle, hw⟩ := hY _ _ _ _ yd
        obtain ⟨I, st, nf⟩ := hi
        rw [pfS_of e] at I
        have z := I.pin (S, lstObj acc c) (List.mem_append_right _ (List.mem_singleton.mpr rfl))
        have e2 := Heap.get?_update_self (Obj.mapSeq (·.push v)) z.1 rfl
        have I0 : Inv Y [] σg H' s' := I.pins_of (pins' := []) fun p hp => by cases hp
        have oth : ∀ b o, b ≠ S → s'.heap.get? b = some o → (s'.heap.update S (Obj.mapSeq (·.push v))).get? b = some o := fun b o hb q => (Heap.get?_update_other _ _ (Ne.symm hb)).trans q
        have I1 : Inv Y [] σg H' { s' with heap := s'.heap.update S (Obj.mapSeq (·.push v)), toks := s'.toks } := I0.turned oth z.2.1 z.2.2.1 (.inr hs0) hcl fun p hp => hpn p (by simpa using hp)
        obtain ⟨m, q, _⟩ := go (ys' ++ [y]) { s' with heap := s'.heap.update S (Obj.mapSeq (·.push v)), toks := s'.toks } ⟨acc.push v, _, e2, by rw [Array.toList_push]; exact hv.append (.cons ry .nil)⟩ hw ⟨by
          show Inv Y (pfS S (s'.heap.update S (Obj.mapSeq (·.push v)))) σg H' _
          rw [pfS_of e2]
          exact I1.pins_of fun p hp => by rw [List.mem_singleton.mp hp]; exact ⟨e2, z.2.1, z.2.2.1, z.2.2.2.1, fun v q => by cases q⟩, hkeep _ _ _ st fun b hb o q => oth b o (fun w => hfp (by rw [← w]; exact hb)) q, nf⟩ rfl
        cases q
  | succ n ih =>
    intro i ys H s h
    refine codeAny_builtin F.entry_extend_loop ?_
    rw [Around.under_plainId F.plain_extend_loop _]
    show wpAny _ B0.in1 (pyNext (.ref a) >>= _) _ _ s
    refine wpAny_bind (next_gx (B := B0.in1) hA hh hd hgen h (fun ys' H' s' hg I f => ?_) fun v i' ys' y H' s' hg ry hi yd go => ?_)
    · obtain ⟨acc, c, e, hv⟩ := hg
      rw [pfS_of e] at I
      have z := I.pin (S, lstObj acc c) (List.mem_append_right _ (List.mem_singleton.mpr rfl))
      exact wpAny_pure (hend ys' H' s' acc c (I.pins_of (pins' := []) fun p hp => by cases hp) z.2.1 f z.1 hv)
    · obtain ⟨acc, c, e, hv⟩ := hg
      obtain ⟨hle, hw⟩ := hY _ _ _ _ yd
      obtain ⟨I, st, nf⟩ := hi
      rw [pfS_of e] at I
      have z := I.pin (S, lstObj acc c) (List.mem_append_right _ (List.mem_singleton.mpr rfl))
      have e2 := Heap.get?_update_self (Obj.mapSeq (·.push v)) z.1 rfl
      have I0 : Inv Y [] σg H' s' := I.pins_of (pins' := []) fun p hp => by cases hp
      have oth : ∀ b o, b ≠ S → s'.heap.get? b = some o → (s'.heap.update S (Obj.mapSeq (·.push v))).get? b = some o := fun b o hb q => (Heap.get?_update_other _ _ (Ne.symm hb)).trans q
      have I1 : Inv Y [] σg H' { s' with heap := s'.heap.update S (Obj.mapSeq (·.push v)), toks := s'.toks } := I0.turned oth z.2.1 z.2.2.1 (.inr hs0) hcl fun p hp => hpn p (by simpa using hp)
      obtain ⟨m, q, h2⟩ := go (ys' ++ [y]) { s' with heap := s'.heap.update S (Obj.mapSeq (·.push v)), toks := s'.toks } ⟨acc.push v, _, e2, by rw [Array.toList_push]; exact hv.append (.cons ry .nil)⟩ hw ⟨by
        show Inv Y (pfS S (s'.heap.update S (Obj.mapSeq (·.push v)))) σg H' _
        rw [pfS_of e2]
        exact I1.pins_of fun p hp => by rw [List.mem_singleton.mp hp]; exact ⟨e2, z.2.1, z.2.2.1, z.2.2.2.1, fun v q => by cases q⟩, hkeep _ _ _ st fun b hb o q => oth b o (fun w => hfp (by rw [← w]; exact hb)) q, nf⟩ rfl
      cases q
      have hal : acc.size < sizeLine := by
        have q1 := hv.length
        have q2 : acc.toList.length = acc.size := by simp
        omega
      show wpAny _ B0.in1 (updateSeq S (·.push v) >>= _) _ _ _
      exact wpAny_bind (wpAny_updateSeq z.1 rfl (wpAny_pure ⟨plainId_quiet F.plain_extend_loop _, ih _ _ _ _ h2⟩) (Nat.le_of_lt hal) (by show (acc.push v).size ≤ sizeLine + 1; rw [Array.size_push]; omega))

/-- all that it hands out, in a list -/
theorem collect_gx {B0 : Around} {a : Addr} {g : Nat} {H : Hp} {s : Shared} {Q : List Value → Shared → Prop} {E : Value → Shared → Prop} (hA : B0.in1.in1 = A) (hh : B0.handled = none) (hd : B0.depth < recursionLimit) (hgen : ∀ pins σ H s, Inv Y pins σ H s → s.heap.IsGen a g)
    (hY : ∀ i ys y H, Yd i ys y H → ys.length < sizeLine ∧ W (i + 1) (ys ++ [y]) H) (hfp : ∀ b ∈ fp, b < s.heap.objs.size) (hpn : ∀ p ∈ Y.pn, p.1 = a) (ha : a < s.heap.objs.size) (hs0 : Y.s_0.heap.objs.size ≤ a) (hcl : ∀ x c, Y.env.cells.lookup x = some c → c < a) (hL : Y.env.locals < a)
    (hkeep : ∀ i h h', tn i h → (∀ b ∈ fp, ∀ o, h.get? b = some o → h'.get? b = some o) → tn i h') (I : Inv Y [] σg H s) (hw : W 0 [] H)
    (go : ∀ s6, Inv Y (pfS s.heap.objs.size s6.heap) σg H s6 → (∀ b o, s.heap.get? b = some o → s6.heap.get? b = some o) → s6.gens = s.gens → ghS s.heap.objs.size s6.heap [] → W 0 [] H → GxAt Y A fp tn σg top W Fin Yd (pfS s.heap.objs.size) (ghS s.heap.objs.size) g top 0 [] H s6)
    (hQ : ∀ ys H s' acc, Inv Y [] σg H s' → Fin ys H → Vals ys acc → Q acc s') : wpAny (model Y.prog Y.w) B0 (collect (.ref a)) Q E s := by
  have hSa : s.heap.objs.size ≠ a := Nat.ne_of_gt ha
  unfold collect
  refine wpAny_bind (wpAny_runValue (codeAny_builtin F.entry_proto_collect ?_))
  rw [Around.under_plainId F.plain_proto_collect _]
  show wpAny _ B0.in1 (newList [] >>= fun l => again (.builtin "list.__iadd__" ⟨[l, .ref a], []⟩)) _ _ s
  refine wpAny_bind (wpAny_newObj_type (wpAny_pure ⟨plainId_quiet F.plain_list_iadd _, codeAny_builtin F.entry_list_iadd ?_⟩))
  rw [Around.under_plainId F.plain_list_iadd _]
  generalize hS : s.heap.objs.size = S at *
  have e1 : (s.heap.push { cls := .type "list", data := .seq ([] : List Value).toArray }).get? S = some { cls := .type "list", data := .seq ([] : List Value).toArray } := by rw [← hS]; exact Heap.get?_push_size _ rfl
  have k1 : ∀ b o, s.heap.get? b = some o → (s.heap.push { cls := .type "list", data := .seq ([] : List Value).toArray }).get? b = some o := fun b o e => Heap.get?_push_of_some _ e
  have up : ∀ (h : Heap) (f : Obj → Obj), (∀ b o, s.heap.get? b = some o → h.get? b = some o) → ∀ b o, s.heap.get? b = some o → (h.update S f).get? b = some o := fun h f q b o e => (Heap.get?_update_other _ _ (fun z => Nat.lt_irrefl S (by have w := Heap.lt_size e; rw [← z, hS] at w; exact w))).trans (q b o e)
  have hg0 : s.heap.IsGen a g := hgen _ _ _ _ I
  have gty : ∀ {h : Heap}, (∀ b o, s.heap.get? b = some o → h.get? b = some o) → h.IsGen a g := fun {h} q => hg0.keeps q
  show wpAny _ B0.in1 (Builtin.List.listExtendWith (.ref S) (.ref a) (.ref S)) _ _ _
  unfold Builtin.List.listExtendWith
  refine wpAny_bind (wpAny_typeOf (Heap.IsGen.typeIs (s := { s with heap := _ }) (gty k1)) ?_)
  have t1 : Builtin.List.listSameRef (.ref S) (.ref a) = false := by simp [Builtin.List.listSameRef, hSa]
  have t2 : (Value.type "generator" == Value.type "list") = false := by decide
  have t3 : (Value.type "generator" == Value.type "tuple") = false := by decide
  simp only [t1, t2, t3, Bool.or_false, Bool.false_eq_true, if_false]
  refine wpAny_bind (wpAny_pyIter_gen (s := { s with heap := _ }) (gty k1) (wpAny_bind (wpAny_holding ?_)))
  unfold Builtin.List.listLengthHint
  refine wpAny_bind (wpAny_specialOf (Heap.IsGen.typeIs (s := { s with heap := _ }) (gty k1)) F.gen_no_len ?_)
  show wpAny _ B0.in1 (specialOf (Value.ref a) (Str.ofString "__length_hint__") >>= _) _ _ _
  refine wpAny_bind (wpAny_specialOf (Heap.IsGen.typeIs (s := { s with heap := _ }) (gty k1)) F.gen_no_hint (wpAny_pure ?_))
  show wpAny _ B0.in1 (rule "list.extend.makes-room" >>= fun _ => Builtin.List.listTouch (.ref S) >>= fun _ => again (.builtin "list.extend.loop" ⟨[.ref S, .ref a, .ref S], []⟩)) _ _ _
  refine wpAny_bind (wpAny_rule (wpAny_bind ?_))
  show wpAny _ B0.in1 (updateSeq S (·.push .none) >>= fun _ => updateSeq S (·.pop)) _ _ _
  refine wpAny_bind (wpAny_updateSeq e1 rfl ?_)
  have e2 := Heap.get?_update_self (Obj.mapSeq (·.push Value.none)) e1 rfl
  refine wpAny_updateSeq (hz := by seq_fits) e2 rfl ?_
  have e3 := Heap.get?_update_self (Obj.mapSeq (·.pop)) e2 rfl
  have k3 := up _ (Obj.mapSeq (·.pop)) (up _ (Obj.mapSeq (·.push Value.none)) k1)
  generalize hh6 : (((s.heap.push { cls := .type "list", data := .seq ([] : List Value).toArray }).update S (Obj.mapSeq (·.push Value.none))).update S (Obj.mapSeq (·.pop))) = h6 at *
  have hfree : H S = none := I.hok.fresh (Nat.le_of_eq hS)
  have I6 : Inv Y [] σg H { s with heap := h6, toks := s.toks } := I.kept k3
  have e4 : h6.get? S = some (lstObj #[] _) := e3
  have nS : S ∉ Y.fs := I.nofs (Nat.le_of_eq hS)
  have I7 : Inv Y (pfS S h6) σg H { s with heap := h6, toks := s.toks } := by
    rw [pfS_of e4]
    exact I6.pins_of fun p hp => by rw [List.mem_singleton.mp hp]; exact ⟨e4, hfree, Nat.ne_of_gt (Nat.lt_trans hL ha), nS, fun v q => by cases q⟩
  have at0 := go { s with heap := h6, toks := s.toks } I7 k3 rfl ⟨#[], _, e4, .nil⟩ hw
  refine wpAny_pure ⟨plainId_quiet F.plain_extend_loop _, ext_loop hA hh hd hgen hY (fun z => Nat.lt_irrefl _ (hfp S z)) (fun p hp => by rw [hpn p hp]; exact hSa.symm) (Nat.le_trans hs0 (Nat.le_of_lt ha)) (fun x c e => Nat.ne_of_lt (Nat.lt_trans (hcl x c e) ha)) hkeep (fun ys H' s' acc c J' n' f e hv => ?_) _ _ _ _ _ at0⟩
  show wpAny _ B0 (load S >>= _) _ _ s'
  exact wpAny_bind (wpAny_load e (wpAny_pure (hQ ys H' s' acc.toList J' f hv)))
end

section
variable {X : Cx} {pins : List (Addr × Obj)} {σ : L2.St} {H : Hp} {s : Shared} {scope : Scope} {own : List (Str × Nat)} {elt tg iter : Expr} {ifs : List Expr} {gpos : Pos} {gt : TG} {tt : TT} {te : TE} {wi : TI} {k : Nat} {c P : Addr}
def tTupX (P : Addr) (wi : TI) (gt : TG) (tt : TT) (te : TE) (vs : List Nat) : TE := fun σ H Q => wi σ H fun J H1 => GxR.TabG H1 P ∧ ∀ H2, GxR.Tabbed P H1 H2 → ∃ (top : Nat) (W : Nat → List V → Hp → Prop), W 0 [] H2 ∧
  GxTurns gt tt te vs σ J top W (fun ys H => ys.length ≤ sizeLine ∧ ∀ l, H l = none → Q (.ref l) (upd H l (.tup ys))) fun i ys y H => ys.length < sizeLine ∧ W (i + 1) (ys ++ [y]) H
theorem room_in {A : Around} (h : Room (k + 3) A) : Room (k + 1) A.in1.in1.in1.in1 := ⟨h.hd, by have := h.dp; show A.depth + 3 * (k + 1) + 5 < _; omega, by have := h.un; show A.units + 1 + 1 + 1 + 1 + 16 * (k + 1) + 200 < _; omega⟩
theorem pe_tupX {p pos : Pos} (hr : Room (k + 3) X.A) (hgu : X.A.guards = some []) (hg : Gl X "tuple") (hm : X.mg "tuple" = none) (hb : bootBuiltins "tuple" = some (.type "tuple")) (hK : GxK X scope own c P) (hE : GxE X k scope elt tg ifs gt tt te) (hi : PI X tg iter wi)
    (hs : ∀ v, genFold iter X.env v = pure v := by intro _; rfl)
    (he : starEach [.GeneratorExp elt [⟨tg, iter, ifs, 0⟩] scope gpos] X.env = (false, eval (.GeneratorExp elt [⟨tg, iter, ifs, 0⟩] scope gpos) X.env) :: starEach [] X.env := by rfl) :
    PE X (.Call (.Name "tuple" p) [.GeneratorExp elt [⟨tg, iter, ifs, 0⟩] scope gpos] [] pos) (tTupX P wi gt tt te (own.map (·.2))) := by
  refine ⟨fun pins s σ H Q I h => ?_⟩
  refine wpAny_Call_Name_kw (ld_blt I hg hm hb (PyProof.Rows.callWith_type1 ?_ he rfl))
  rw [he]
  show wpAny _ _ (spliced ((false, eval (.GeneratorExp elt [⟨tg, iter, ifs, 0⟩] scope gpos) X.env) :: backTo pos (starEach [] X.env))) _ _ s
  refine Calls.spliced_cons (thn (gx_made hr hK.TB hK.code hK.ok hK.cell hK.nd hK.co hK.dot hi hs I h) fun u s5 hM => Calls.spliced_nil ?_)
  obtain ⟨Y, a, g, fp, tn, J, H4, e1, e2, rfl, ⟨top, W, hw, ht⟩, hgen, hback, ha5, hfp5, hpn, hafp, hs0, hcl, hL, hkeep, hgo⟩ := gx_at (A := X.A.in1.in1.in1.in1) (k := k) hK hE hr.hd I.ok.frames hgu (room_in hr) hM
  obtain ⟨I5, go⟩ := hgo top W _ _ (pfS s5.heap.objs.size) (ghS s5.heap.objs.size) (fun h p hp z => by
    unfold pfS at hp
    split at hp
    · rw [List.mem_singleton.mp hp] at z
      exact Nat.lt_irrefl _ (hfp5 _ z)
    · cases hp) ht
  have hTI : s5.TypeIs (.ref a) "generator" := (hgen _ _ _ _ I5).typeIs
  refine callType_codes (Q₁ := fun obj s₁ => s₁.TypeIs obj "tuple" ∧ EP X pins σ Q obj s₁) F.called_tuple (F.typeCall_tuple_1 _) F.entry_object_init ?_ fun obj s₁ h₁ => ⟨h₁.1, F.args_object_init_2 obj _, object_init_meets F.called_tuple.init.lookup F.called_tuple.made (by decide) _ _ _ _ s₁ ⟨h₁.1, rfl, h₁.2⟩⟩
  refine codeAny_of_tree ?_
  show wpAny _ X.A.in1.in1 (do checkBuiltinCall "tuple.__new__" ⟨[.type "tuple", .ref a], []⟩; again (.builtin "tuple.__new__" ⟨[.type "tuple", .ref a], []⟩)) _ _ s5
  refine wpAny_bind (wpAny_of_eq (F.newCall_tuple_1 _) (wpAny_pure ⟨plainId_quiet F.plain_tuple_new _, codeAny_builtin F.entry_tuple_new ?_⟩))
  rw [Around.under_plainId F.plain_tuple_new _]
  have hsub := sub_tuple_self
  have hinit := init_tuple_lookup
  have hmh := madeHere_tuple
  have key : ∀ {E : Value → Shared → Prop} {Q' : List Value → Shared → Prop}, (∀ ys H s' acc, Inv Y [] (wipe σ (own.map (·.2))) H s' → (ys.length ≤ sizeLine ∧ ∀ l, H l = none → Q (.ref l) (upd H l (.tup ys))) → Vals ys acc → Q' acc s') → wpAny (model X.prog X.w) X.A.in1.in1 (collect (.ref a)) Q' E s5 := fun {E Q'} hQ => by
    rw [← e1, ← e2]
    exact collect_gx rfl hr.hd (by have := hr.dp; show X.A.depth < _; omega) hgen (fun _ _ _ _ f => f) hfp5 hpn ha5 hs0 hcl hL hkeep I5 hw go hQ
  wp_walk using wpAny_typeOf hTI, key
  intro ys H' s' acc J' fin hv
  have hl := hv.length
  show wpAny _ _ (Builtin.Tuple.tupleExact acc.toArray >>= fun v => ret v) _ _ _
  unfold Builtin.Tuple.tupleExact
  refine wpAny_bind (wpAny_newObj_type (wpAny_pure ?_) (by show acc.toArray.size ≤ sizeLine; rw [List.size_toArray]; omega))
  refine ⟨⟨_, Heap.get?_push_size _ rfl, rfl⟩, .ref s'.heap.objs.size, _, (hback _ _ _ _ J').laid (t' := s'.toks) (a := s'.heap.objs.size) (o := .tup ys) (fun b o e => Heap.get?_push_of_some _ e) (Nat.le_refl _) ⟨fin.1, acc, hv, _, Heap.get?_push_size _ rfl, rfl, _, rfl⟩, rfl, fin.2 _ (J'.hok.fresh (Nat.le_refl _))⟩
end
end Rim

/-! RimY: what all, any, tuple of a generator expression ask. -/
namespace Rim
open PySem PySem.Spec PyProof.Rows L2
variable [Tabs]
def allW (turn : PyData → (Option PyData → Prop) → Prop) : List PyData → (PyData → Prop) → Prop
  | [], Φ => Φ (.bool true)
  | x :: xs, Φ => turn x fun o => match o with
    | none => allW turn xs Φ
    | some d => booD d fun b => ifB b (allW turn xs Φ) (Φ (.bool false))
def anyW (turn : PyData → (Option PyData → Prop) → Prop) : List PyData → (PyData → Prop) → Prop
  | [], Φ => Φ (.bool false)
  | x :: xs, Φ => turn x fun o => match o with
    | none => anyW turn xs Φ
    | some d => booD d fun b => ifB b (Φ (.bool true)) (anyW turn xs Φ)
def vAllG (vs : List Nat) (it : WL) (g : WG) (tt : WB) (el : WE) : WE := fun E Φ => it E fun xs => allW (vTurn vs g tt el E) xs Φ
def vAnyG (vs : List Nat) (it : WL) (g : WG) (tt : WB) (el : WE) : WE := fun E Φ => it E fun xs => anyW (vTurn vs g tt el E) xs Φ
def vTupG (vs : List Nat) (it : WL) (g : WG) (tt : WB) (el : WE) : WE := fun E Φ => it E fun xs => xs.length ≤ sizeLine ∧ lcW (vTurn vs g tt el E) xs [] fun ds => Φ (.tuple ds)
section
variable {p : Option Addr} {G H H2 : Hp} {P : Addr}
/-- a table has grown -/
theorem J.tabbed (j : J p G H) (hP : Tabs.tb P) (t : GxR.Tabbed P H H2) : J p G H2 ∧ Xt p G H G H2 := by
  obtain ⟨gP, ps, eP, tr⟩ := j.tt P hP
  obtain ⟨⟨qs, eq, tq⟩, oth⟩ := t
  have ne : ∀ b o, H b = some o → (∀ ps, o ≠ .tbl ps) → b ≠ P := fun b o e n z => by
    rw [z, eP] at e
    exact n ps (Option.some.inj e).symm
  refine ⟨⟨fun b o e => ?_, fun b hb => ?_, fun b hb => ⟨(j.tt b hb).1, ?_⟩⟩, ⟨Same.refl G, fun b o _ n e => ?_, fun b ps' _ e => ?_, fun _ _ _ h => h⟩⟩
  · rw [oth b fun z => by rw [z, gP] at e; cases e]
    exact j.sub b o e
  · obtain ⟨h1, x, y, z, h2⟩ := j.pl b hb
    exact ⟨h1, x, y, z, by rw [oth b (ne b _ h2.1 fun _ w => by cases w)]; exact h2.1, h2.2⟩
  · by_cases e : b = P
    · rw [e]
      exact ⟨qs, eq, tq⟩
    · obtain ⟨_, ps', e', t'⟩ := j.tt b hb
      exact ⟨ps', by rw [oth b e]; exact e', t'⟩
  · rw [oth b (ne b o e n)]
    exact e
  · by_cases e2 : b = P
    · rw [e2]
      exact ⟨qs, eq⟩
    · exact ⟨ps', by rw [oth b e2]; exact e⟩
end
/-- an element's derivations over data, in any frame of the generator expression -/
structure GxD (X : Cx) (k : Nat) (p : Option Addr) (scope : Scope) (elt tg : Expr) (ifs : List Expr) (gt : TG) (tt : TT) (te : TE) (vs : List Nat) (fg : WG) (ft : WB) (fe : WE) : Prop where
  pg : ∀ (s : Shared) (H : Hp) (C : Addr) (cd : Value) (fp : List Addr) (pn : List (Addr × Obj)) (A : Around), Room k A → A.guards = some [] → DV (gxC X s H (genEnv scope (cloFrom X.env.cells scope.names []) C cd builtinsNs X.env) fp pn A) p tg gt vs fg
  pt : ∀ (s : Shared) (H : Hp) (C : Addr) (cd : Value) (fp : List Addr) (pn : List (Addr × Obj)) (A : Around), Room k A → A.guards = some [] → DTs (gxC X s H (genEnv scope (cloFrom X.env.cells scope.names []) C cd builtinsNs X.env) fp pn A) p ifs tt ft
  pe : ∀ (s : Shared) (H : Hp) (C : Addr) (cd : Value) (fp : List Addr) (pn : List (Addr × Obj)) (A : Around), Room k A → A.guards = some [] → DE (gxC X s H (genEnv scope (cloFrom X.env.cells scope.names []) C cd builtinsNs X.env) fp pn A) p elt te fe
section
variable {X : Cx} {p : Option Addr} {k : Nat} {scope : Scope} {own : List (Str × Nat)} {elt tg iter : Expr} {ifs : List Expr} {gt : TG} {tt : TT} {te : TE} {vs : List Nat} {fi : WL} {fg : WG} {ft : WB} {fe : WE} {wi : TI} {c P : Addr}
theorem GxD.e (h : GxD X k p scope elt tg ifs gt tt te vs fg ft fe) : GxE X k scope elt tg ifs gt tt te :=
  ⟨fun s H C cd fp pn A r g => (h.pg s H C cd fp pn A r g).py, fun s H C cd fp pn A r g => (h.pt s H C cd fp pn A r g).py, fun s H C cd fp pn A r g => (h.pe s H C cd fp pn A r g).py⟩
/-- one turn, for any walker; Kt: what is known of the rest behind a turn -/
theorem gx_walk {H0 G1 H1 : Hp} {σ : L2.St} {E : Ev} {Jt : It} {xs : List PyData} {W : Nat → List V → Hp → Prop} {Fin : List V → Hp → Prop} {Yd : Nat → List V → V → Hp → Prop} {B : Around} (hB : Room k B) (hBg : B.guards = some [])
    (hD : GxD X k p scope elt tg ifs gt tt te (own.map (·.2)) fg ft fe) (w : WalkD X.K p (fun G2 H2 => Xt p G1 H1 G2 H2) Jt xs) (en : EnvOk X.K p H0 G1 H1 σ E)
    (hW : ∀ i ys H, W i ys H → ∃ (G' : Hp) (Kt : Option PyData → Prop), Xt p G1 H1 G' H ∧ J p G' H ∧ i ≤ xs.length ∧ (i < xs.length → ∀ d, xs[i]? = some d → vTurn (own.map (·.2)) fg ft fe E d Kt) ∧ (i = xs.length → Fin ys H) ∧
      (i < xs.length → ∀ G2 H2, Xt p G' H G2 H2 → J p G2 H2 → Kt none → W (i + 1) ys H2) ∧ (i < xs.length → ∀ G2 H2 v y, Xt p G' H G2 H2 → J p G2 H2 → Dp X.K G2 v y → Kt (some y) → Yd i ys v H2)) :
    GxTurns gt tt te (own.map (·.2)) σ Jt xs.length W Fin Yd := by
  obtain ⟨Gd, Y, w1, w2, w3⟩ := w.ex
  intro i ys H hw
  obtain ⟨G', Kt, x', j', hi, ht, hf, hN, hY⟩ := hW i ys H hw
  have hG := w2 G' H x' j'
  by_cases hlt : i < xs.length
  · refine Or.inr ⟨w1.goes i H hlt hG, hlt, fun v H' hy => ?_⟩
    obtain ⟨G2, d, x2, j2, hd, dv⟩ := w3 i G' H v H' hlt x' j' (w1.yields i H v H' hlt hG hy)
    have h6 : fg d (cleE E (own.map (·.2))) fun E1 => ft E1 fun b => ifB b (fe E1 fun y => Kt (some y)) (Kt none) := ht hlt d hd
    have e2 := en.mono (x'.trans x2)
    have ew : EnvOk X.K p H0 G2 H' (wipe σ (own.map (·.2))) (cleE E (own.map (·.2))) := by
      rw [cleE_eq]
      exact env_wipe e2 _
    refine ((hD.pg X.s_0 H 0 .none [] [] B hB hBg).ok d (cleE E (own.map (·.2))) _ h6) H0 G2 H' _ v j2 ew dv _ fun σ2 E2 e3 k2 l2 a2 => ⟨⟨wipe_same l2 a2, l2.symm⟩, ?_⟩
    refine (hD.pt X.s_0 H 0 .none [] [] B hB hBg).ok E2 _ k2 H0 G2 H' σ2 j2 e3 _ fun b G3 H3 x3 j3 hb => ?_
    cases b with
    | false => exact iteF (hN hlt G3 H3 (x2.trans x3) j3 hb)
    | true => exact iteT ((hD.pe X.s_0 H 0 .none [] [] B hB hBg).ok E2 _ hb H0 G3 H3 σ2 j3 (e3.mono x3) _ fun y d2 G4 H4 x4 j4 dy hd2 => hY hlt G4 H4 y d2 ((x2.trans x3).trans x4) j4 dy hd2)
  · have e : i = xs.length := by omega
    refine Or.inl ⟨?_, hf e⟩
    rw [e]
    exact w1.stops H hG
theorem de_allX {px pos gpos : Pos} (hr : Room (k + 2) X.A) (hgu : X.A.guards = some []) (hg : Gl X "all") (hm : X.mg "all" = none) (hb : bootBuiltins "all" = some (.builtin "all")) (hK : GxK X scope own c P) (hT : Tabs.tb P) (hvs : vs = own.map (·.2)) (hi : DIx X p tg iter wi fi)
    (hD : GxD X k p scope elt tg ifs gt tt te vs fg ft fe) (hs : ∀ v, genFold iter X.env v = pure v := by intro _; rfl)
    (he : starEach [.GeneratorExp elt [⟨tg, iter, ifs, 0⟩] scope gpos] X.env = (false, eval (.GeneratorExp elt [⟨tg, iter, ifs, 0⟩] scope gpos) X.env) :: starEach [] X.env := by rfl) :
    DE X p (.Call (.Name "all" px) [.GeneratorExp elt [⟨tg, iter, ifs, 0⟩] scope gpos] [] pos) (tAllX P wi gt tt te (own.map (·.2))) (vAllG vs fi fg ft fe) := by
  subst hvs
  refine ⟨pe_allX hr hgu hg hm hb hK hD.e hi.py hs he, fun E Φ q => ?_⟩
  intro H0 G H σ j en Q z
  refine hi.ok E _ q H0 G H σ j en _ fun Jt xs G1 H1 x1 j1 w hx => ⟨(j1.tt P hT).2, fun H2 tb => ?_⟩
  obtain ⟨j2, x2⟩ := j1.tabbed hT tb
  refine ⟨xs.length, fun i H' => ∃ G', Xt p G1 H1 G' H' ∧ J p G' H' ∧ i ≤ xs.length ∧ allW (vTurn (own.map (·.2)) fg ft fe E) (xs.drop i) Φ, ⟨G1, x2, j2, Nat.zero_le _, hx⟩, ?_⟩
  refine gx_walk (H0 := H0) (E := E) (G1 := G1) (H1 := H1) (hr.mono (show k ≤ k + 2 by omega)) hgu hD w (en.mono x1) fun i ys H hw => ?_
  obtain ⟨G', x', j', hle, h⟩ := hw
  refine ⟨G', fun o => match o with
    | none => allW (vTurn (own.map (·.2)) fg ft fe E) (xs.drop (i + 1)) Φ
    | some d => booD d fun b => ifB b (allW (vTurn (own.map (·.2)) fg ft fe E) (xs.drop (i + 1)) Φ) (Φ (.bool false)), x', j', hle, fun hlt d hd => ?_, fun e => ?_, fun hlt G2 H2 x2 j2 hk => ⟨G2, x'.trans x2, j2, hlt, hk⟩, fun hlt G2 H2 v y x2 j2 dy hk => ?_⟩
  · rw [List.drop_eq_getElem_cons hlt] at h
    have e : xs[i] = d := Option.some.inj ((List.getElem?_eq_getElem hlt).symm.trans hd)
    rw [e] at h
    exact h
  · rw [e, List.drop_length] at h
    exact z (.bl true) (.bool true) G' H (x1.trans x') j' (.bl true) h
  · obtain ⟨b, rfl, hb2⟩ := bool_of (Θ := fun b => ifB b (allW (vTurn (own.map (·.2)) fg ft fe E) (xs.drop (i + 1)) Φ) (Φ (.bool false))) hk
    refine ⟨b, dp_bl dy, fun e => ?_, fun e => ?_⟩
    · subst e
      exact ⟨G2, x'.trans x2, j2, hlt, hb2⟩
    · subst e
      exact z (.bl false) (.bool false) G2 H2 (x1.trans (x'.trans x2)) j2 (.bl false) hb2
theorem de_anyX {px pos gpos : Pos} (hr : Room (k + 2) X.A) (hgu : X.A.guards = some []) (hg : Gl X "any") (hm : X.mg "any" = none) (hb : bootBuiltins "any" = some (.builtin "any")) (hK : GxK X scope own c P) (hT : Tabs.tb P) (hvs : vs = own.map (·.2)) (hi : DIx X p tg iter wi fi)
    (hD : GxD X k p scope elt tg ifs gt tt te vs fg ft fe) (hs : ∀ v, genFold iter X.env v = pure v := by intro _; rfl)
    (he : starEach [.GeneratorExp elt [⟨tg, iter, ifs, 0⟩] scope gpos] X.env = (false, eval (.GeneratorExp elt [⟨tg, iter, ifs, 0⟩] scope gpos) X.env) :: starEach [] X.env := by rfl) :
    DE X p (.Call (.Name "any" px) [.GeneratorExp elt [⟨tg, iter, ifs, 0⟩] scope gpos] [] pos) (tAnyX P wi gt tt te (own.map (·.2))) (vAnyG vs fi fg ft fe) := by
  subst hvs
  refine ⟨pe_anyX hr hgu hg hm hb hK hD.e hi.py hs he, fun E Φ q => ?_⟩
  intro H0 G H σ j en Q z
  refine hi.ok E _ q H0 G H σ j en _ fun Jt xs G1 H1 x1 j1 w hx => ⟨(j1.tt P hT).2, fun H2 tb => ?_⟩
  obtain ⟨j2, x2⟩ := j1.tabbed hT tb
  refine ⟨xs.length, fun i H' => ∃ G', Xt p G1 H1 G' H' ∧ J p G' H' ∧ i ≤ xs.length ∧ anyW (vTurn (own.map (·.2)) fg ft fe E) (xs.drop i) Φ, ⟨G1, x2, j2, Nat.zero_le _, hx⟩, ?_⟩
  refine gx_walk (H0 := H0) (E := E) (G1 := G1) (H1 := H1) (hr.mono (show k ≤ k + 2 by omega)) hgu hD w (en.mono x1) fun i ys H hw => ?_
  obtain ⟨G', x', j', hle, h⟩ := hw
  refine ⟨G', fun o => match o with
    | none => anyW (vTurn (own.map (·.2)) fg ft fe E) (xs.drop (i + 1)) Φ
    | some d => booD d fun b => ifB b (Φ (.bool true)) (anyW (vTurn (own.map (·.2)) fg ft fe E) (xs.drop (i + 1)) Φ), x', j', hle, fun hlt d hd => ?_, fun e => ?_, fun hlt G2 H2 x2 j2 hk => ⟨G2, x'.trans x2, j2, hlt, hk⟩, fun hlt G2 H2 v y x2 j2 dy hk => ?_⟩
  · rw [List.drop_eq_getElem_cons hlt] at h
    have e : xs[i] = d := Option.some.inj ((List.getElem?_eq_getElem hlt).symm.trans hd)
    rw [e] at h
    exact h
  · rw [e, List.drop_length] at h
    exact z (.bl false) (.bool false) G' H (x1.trans x') j' (.bl false) h
  · obtain ⟨b, rfl, hb2⟩ := bool_of (Θ := fun b => ifB b (Φ (.bool true)) (anyW (vTurn (own.map (·.2)) fg ft fe E) (xs.drop (i + 1)) Φ)) hk
    refine ⟨b, dp_bl dy, fun e => ?_, fun e => ?_⟩
    · subst e
      exact ⟨G2, x'.trans x2, j2, hlt, hb2⟩
    · subst e
      exact z (.bl true) (.bool true) G2 H2 (x1.trans (x'.trans x2)) j2 (.bl true) hb2
theorem dpA_snoc {K : PySem.W.Frag} {G : Hp} {ys : List V} {ds : List PyData} {v : V} {d : PyData} (h : DpAll K G ys ds) (hv : Dp K G v d) : DpAll K G (ys ++ [v]) (ds ++ [d]) := dpA_append h (.cons hv .nil)
theorem de_tupX {px pos gpos : Pos} (hr : Room (k + 3) X.A) (hgu : X.A.guards = some []) (hg : Gl X "tuple") (hm : X.mg "tuple" = none) (hb : bootBuiltins "tuple" = some (.type "tuple")) (hK : GxK X scope own c P) (hT : Tabs.tb P) (hvs : vs = own.map (·.2)) (hi : DIx X p tg iter wi fi)
    (hD : GxD X k p scope elt tg ifs gt tt te vs fg ft fe) (hs : ∀ v, genFold iter X.env v = pure v := by intro _; rfl)
    (he : starEach [.GeneratorExp elt [⟨tg, iter, ifs, 0⟩] scope gpos] X.env = (false, eval (.GeneratorExp elt [⟨tg, iter, ifs, 0⟩] scope gpos) X.env) :: starEach [] X.env := by rfl) :
    DE X p (.Call (.Name "tuple" px) [.GeneratorExp elt [⟨tg, iter, ifs, 0⟩] scope gpos] [] pos) (tTupX P wi gt tt te (own.map (·.2))) (vTupG vs fi fg ft fe) := by
  subst hvs
  refine ⟨pe_tupX hr hgu hg hm hb hK hD.e hi.py hs he, fun E Φ q => ?_⟩
  intro H0 G H σ j en Q z
  refine hi.ok E _ q H0 G H σ j en _ fun Jt xs G1 H1 x1 j1 w hx => ⟨(j1.tt P hT).2, fun H2 tb => ?_⟩
  obtain ⟨hlen, hx⟩ := hx
  obtain ⟨j2, x2⟩ := j1.tabbed hT tb
  refine ⟨xs.length, fun i ys H' => ∃ G' ds, Xt p G1 H1 G' H' ∧ J p G' H' ∧ i ≤ xs.length ∧ DpAll X.K G' ys ds ∧ ds.length ≤ i ∧ lcW (vTurn (own.map (·.2)) fg ft fe E) (xs.drop i) ds (fun ds => Φ (.tuple ds)), ⟨G1, [], x2, j2, Nat.zero_le _, .nil, Nat.le_refl _, hx⟩, ?_⟩
  refine gx_walk (H0 := H0) (E := E) (G1 := G1) (H1 := H1) (hr.mono (show k ≤ k + 3 by omega)) hgu hD w (en.mono x1) fun i ys H hw => ?_
  obtain ⟨G', ds, x', j', hle, da, dl, h⟩ := hw
  have hl := dpA_len da
  refine ⟨G', fun o => lcW (vTurn (own.map (·.2)) fg ft fe E) (xs.drop (i + 1)) (ds ++ o.toList) (fun ds => Φ (.tuple ds)), x', j', hle, fun hlt d hd => ?_, fun e => ?_, fun hlt G2 H2 x2 j2 hk => ?_, fun hlt G2 H2 v y x2 j2 dy hk => ?_⟩
  · rw [List.drop_eq_getElem_cons hlt] at h
    have e : xs[i] = d := Option.some.inj ((List.getElem?_eq_getElem hlt).symm.trans hd)
    rw [e] at h
    exact h
  · rw [e, List.drop_length] at h
    exact ⟨by omega, fun l hl2 => z _ _ _ _ ((x1.trans x').trans (Xt.laid j' hl2)) (j'.laid hl2) (.tup (SqT.of upd_same) (dpA_mono (Xt.laid (o := .tup ys) j' hl2).gg _ _ da)) h⟩
  · have h2 : lcW (vTurn (own.map (·.2)) fg ft fe E) (xs.drop (i + 1)) (ds ++ []) (fun ds => Φ (.tuple ds)) := hk
    rw [List.append_nil] at h2
    exact ⟨G2, ds, x'.trans x2, j2, hlt, dpA_mono x2.gg _ _ da, by omega, h2⟩
  · exact ⟨by omega, G2, ds ++ [y], x'.trans x2, j2, hlt, dpA_snoc (dpA_mono x2.gg _ _ da) dy, by rw [List.length_append, List.length_singleton]; omega, hk⟩
end
end Rim

/-! RimZ: defs that hold generator expressions; the end of a law whose defs do. -/
namespace Rim
open PySem PySem.Spec PyProof.Rows L2
section
variable [Tabs] {P : Program} {w : World} {K : PySem.W.Frag} {mg : Str → Option Value} {base : Heap} {x qual : Str} {params : Arguments} {body : List Stmt} {scope : Scope} {dvs : List V} {kws : List (Str × V)} {y : Str} {fd : FuncData} {CX : CXT} {N ps : List Str} {k : Nat}
/-- the def's code object and its table -/
theorem code_of (F : FunD K x qual params body scope dvs kws (He.ga K y) fd) : fd.code = .ref (He.cT K (y, none)).1 := by
  obtain ⟨oc, od, dV, kV, doc, pm, an, cdv, ct, osl, e, lk, hcd, _, _⟩ := F.ex
  obtain ⟨c, hc⟩ := He.codeIn_ref hcd
  have e2 : fd.code = .ref c := by rw [e, ← hc] <;> rfl
  have e3 := He.codeOf_eq (p := (y, none)) lk e2
  rw [e2, ← e3] <;> rfl
theorem fn_FT {n m : Nat} {b : WS} (F : FunD K x qual params body scope dvs kws (He.ga K y) fd) (Sc : FnScope N ps scope) (hn : ps.length = n) (hN : N.length = n + m)
    (hb : ∀ (cdv : Value) (A : Around) (outer : List Env) (s : Shared) (H : Hp) (E : XK) (p : Option Addr), Room k (A.deeper (envOfC qual scope s.heap.objs.size (He.ga K y) cdv)) → A.guards = some [] → cdv = .ref (He.cT K (y, none)).1 →
      ∃ t, DSs (cxOf CX P w K mg base N qual scope (He.ga K y) cdv A outer s H E).nox p body t b) : FnG P w K mg base CX (k + 1) (He.ga K y) fd ps (spF K n (mkF n m b)) := by
  refine FnG.of F Sc (fun vs H Q E h => h.1.trans hn.symm) fun cdv A outer s H vs Q E hr hg hcd h => ?_
  obtain ⟨h1, p, G, ds, Φ, j, dv, h2, k2⟩ := h
  obtain ⟨t, ht⟩ := hb cdv A outer s H E p hr hg (hcd.symm.trans (code_of F))
  refine ⟨t, PSs.nox ht.py, ?_⟩
  obtain ⟨hl, hbb⟩ := h2
  refine ht.ok _ _ hbb G H G H _ Xt.refl j (env_start dv m (by rw [h1]; exact hN)) _ ?_
  exact ⟨fun σ E G' H' x j' e o => k2 _ _ G' H' x j' .non o, fun v d G' H' x j' dv' o => k2 v d G' H' x j' dv' o, fun _ _ _ _ _ _ _ z => z.elim, fun _ _ _ _ _ _ _ z => z.elim⟩
theorem fn_QT {n m : Nat} {b : Addr → WS} (F : FunD K x qual params body scope dvs kws (He.ga K y) fd) (Sc : FnScope N ps scope) (hn : ps.length = n) (hN : N.length = n + m)
    (hb : ∀ (cdv : Value) (A : Around) (outer : List Env) (s : Shared) (H : Hp) (E : XK) (a : Addr), Room k (A.deeper (envOfC qual scope s.heap.objs.size (He.ga K y) cdv)) → A.guards = some [] → cdv = .ref (He.cT K (y, none)).1 →
      ∃ t, DSs (cxOf CX P w K mg base N qual scope (He.ga K y) cdv A outer s H E).nox (some a) body t (b a)) : FnG P w K mg base CX (k + 1) (He.ga K y) fd ps (spQ K n (mkQ n m b)) := by
  refine FnG.of F Sc (fun vs H Q E h => h.1.trans hn.symm) fun cdv A outer s H vs Q E hr hg hcd h => ?_
  obtain ⟨h1, a, ws, G, ds, Φ, rfl, j, dv, h2, k2⟩ := h
  obtain ⟨t, ht⟩ := hb cdv A outer s H E a hr hg (hcd.symm.trans (code_of F))
  refine ⟨t, PSs.nox ht.py, ?_⟩
  obtain ⟨hl, hbb⟩ := h2
  rw [List.length_cons] at h1
  refine ht.ok _ _ hbb G H G H _ Xt.refl j (env_pail dv m (by omega)) _ ?_
  exact ⟨fun σ E G' H' x j' e o => k2 _ _ G' H' x j' .non o, fun v d G' H' x j' dv' o => k2 v d G' H' x j' dv' o, fun _ _ _ _ _ _ _ z => z.elim, fun _ _ _ _ _ _ _ z => z.elim⟩
/-- what is told of the tables of the defs tf -/
def TabsOk (tf : List He.Defn) (K : PySem.W.Frag) (mg : Str → Option Value) (base : Heap) : Prop := ∀ p ∈ tf, GxR.TabB base mg (He.cT K p).1 (He.cT K p).2 ∧ Tabs.tb (He.cT K p).2
end

/-! ### the end -/
theorem tabs_none : TriplesOk (#[] : Array Value).toList := by first | trivial | exact .nil | simp [TriplesOk]
section
open Classical in
theorem law_callGT {P : Program} {w : World} {K : PySem.W.Frag} {mg mb : Str → Option Value} {k : Nat} {fa a : Addr} {cs : List (Addr × Addr)} {fd : FuncData} {x : Str} {sp : Sp} {s₁ : Shared} {vs : List Value} {ns : List Int}
    (KX : K.In s₁.heap) (hns : s₁.heap.Ns mainGlobals mg) (hb : s₁.heap.Ns builtinsNs mb) (hbb : ∀ x : Str, x ≠ "__name__" → mb x = bootBuiltins x) (hlim : s₁.heap.NoLimit) (hg : s₁.gens = #[])
    (hT : ∀ p ∈ cs, s₁.heap.get? p.2 = some { cls := .none, data := .fields #[] }) (nT : ∀ p ∈ cs, K.lookup p.2 = none) (C : ∀ p ∈ cs, PySem.W.CodeHd s₁.heap p.1 p.2)
    (hbm : ∃ (bm : Addr) (ob : Obj), mg "__builtins__" = some (.ref bm) ∧ bm ≠ builtinsNs ∧ s₁.heap.get? bm = some ob ∧ ob.cls = .type "module" ∧ ob.dict = some builtinsNs ∧ ob.data = .plain)
    (ha : s₁.heap.get? a = some { cls := .type "list", data := .seq vs.toArray }) (hi : IntsAre vs ns) (hl : ns.length ≤ sizeLine) (hr : Room k callerA) (hsr : s₁.heap.NoSeer)
    (F : ∀ base : Heap, K.In base → base.Ns mainGlobals mg → (∀ p ∈ cs, GxR.TabB base mg p.1 p.2) → base.NoSeer → base.NoLimit → FnG P w K mg base CX0 k fa fd [x] sp) (hbind : ∀ (s : Shared) (u : Value), BindsTo s fd ⟨[u], []⟩ [(x, u)])
    (hsp : ∀ H : Hp, (∀ p ∈ cs, H p.2 = some (.tbl #[])) → SqL K H a (ns.map V.int) → sp [.ref a] H (fun v _ => v = .bl true) fun _ _ _ => False) :
    codeAny (model P w) callerA (.call (.ref fa) ⟨[.ref a], []⟩) (fun r s' => r = .ok (.ret (.bool true)) ∧ OldK s₁.heap s'.heap ∧ s'.os = s₁.os ∧ AllBare s'.gens) s₁ := by
  have rv := vals_ints hi
  have lenV := hi.length
  obtain ⟨ts, hts⟩ : ∃ ts : List Addr, ts = cs.map (·.2) := ⟨_, rfl⟩
  have isT : ∀ b ∈ ts, s₁.heap.get? b = some { cls := .none, data := .fields #[] } := fun b h => by
    rw [hts] at h
    obtain ⟨p, hp, e⟩ := List.mem_map.mp h
    exact e ▸ hT p hp
  have memT : ∀ p ∈ cs, p.2 ∈ ts := fun p hp => by rw [hts]; exact List.mem_map.mpr ⟨p, hp, rfl⟩
  have aT : a ∉ ts := fun z => by
    have q := isT a z
    rw [ha] at q
    cases (show Data.seq vs.toArray _ = Data.fields #[] from congrArg Obj.data (Option.some.inj q))
  obtain ⟨H, hH⟩ : ∃ H : Hp, H = fun b => if b ∈ ts then some (.tbl #[]) else if b = a ∧ K.lookup a = none then some (.frz { cls := .type "list", data := .seq vs.toArray } (.lst (ns.map V.int))) else none := ⟨_, rfl⟩
  have Ht : ∀ b ∈ ts, H b = some (.tbl #[]) := fun b h => by rw [hH]; exact if_pos h
  have Ho : ∀ b o, H b = some o → (b ∈ ts ∧ o = .tbl #[]) ∨ (b = a ∧ K.lookup a = none ∧ o = .frz { cls := .type "list", data := .seq vs.toArray } (.lst (ns.map V.int))) := fun b o e => by
    rw [hH] at e
    by_cases h1 : b ∈ ts
    · have e2 := (if_pos h1).symm.trans e
      exact .inl ⟨h1, (Option.some.inj e2).symm⟩
    · have e2 := (if_neg h1).symm.trans e
      by_cases h2 : b = a ∧ K.lookup a = none
      · have e3 := (if_pos h2).symm.trans e2
        exact .inr ⟨h2.1, h2.2, (Option.some.inj e3).symm⟩
      · have e3 := (if_neg h2).symm.trans e2
        cases e3
  have free : ∀ {b : Addr} {o : Obj}, s₁.heap.get? b = some o → (∀ vs n, o.data ≠ .seq vs n) → o.data ≠ .fields #[] → H b = none := fun {b o} e h1 h2 => by
    cases q : H b with
    | none => rfl
    | some u =>
      rcases Ho b u q with ⟨z, _⟩ | ⟨z, _⟩
      · rw [isT b z] at e
        cases e
        exact absurd rfl h2
      · rw [z, ha] at e
        cases e
        exact absurd rfl (h1 _ _)
  have inB : ∀ {b : Addr} {o : Obj}, s₁.heap.get? b = some o → H b = none → (hidT s₁.heap H).get? b = some o := fun e n => hidT_get e n
  have nsB : ∀ {b : Addr} {m : Str → Option Value}, s₁.heap.Ns b m → (hidT s₁.heap H).Ns b m := fun {b m} ⟨o, es, ep, e, d, r⟩ => ⟨o, es, ep, inB e (free e (fun _ _ z => by rw [d] at z; cases z) fun z => by rw [d] at z; cases z), d, r⟩
  have kB : K.In (hidT s₁.heap H) := fun b o e => inB (KX b o e) (by
    cases q : H b with
    | none => rfl
    | some u =>
      rcases Ho b u q with ⟨z, _⟩ | ⟨z, z2, _⟩
      · rw [hts] at z
        obtain ⟨p, hp, ep⟩ := List.mem_map.mp z
        rw [← ep, nT p hp] at e
        cases e
      · rw [z, z2] at e
        cases e)
  have TB : ∀ p ∈ cs, GxR.TabB (hidT s₁.heap H) mg p.1 p.2 := fun p hp => by
    have hTp := hT p hp
    refine ⟨?_, ?_, fun z => ?_⟩
    · obtain ⟨o, us, file, tf, flags, tg, inF, text, tt, e1, r1, r2, r3, r4, r5, r6, r7, r8, hne⟩ := C p hp
      refine ⟨o, us, file, tf, flags, tg, inF, text, tt, inB e1 (free e1 (fun vs n z => by rw [r2] at z; cases z) fun z => ?_), r1, r2, r3, r4, r5, r6, r7, r8, hne⟩
      rw [r2] at z
      cases z
      simp at r3
    · obtain ⟨bm, ob, b1, b2, b3, b4, b5, b6⟩ := hbm
      refine ⟨bm, ob, b1, b2, fun q => ?_, fun q => ?_, inB b3 (free b3 (fun vs n z => by rw [b6] at z; cases z) fun z => by rw [b6] at z; cases z), b4, b5, b6⟩
      · obtain ⟨o, es, ep, e, hd, _⟩ := hns
        rw [q, e] at b3
        cases b3
        rw [hd] at b6
        cases b6
      · rw [q, hTp] at b3
        cases b3
        cases b6
    · obtain ⟨o, es, ep, e, hd, _⟩ := hns
      rw [z, hTp] at e
      cases e
      cases hd
  have hM : L2.Mod K mg (hidT s₁.heap H) := ⟨kB, nsB hns, ⟨mb, nsB hb, hbb⟩, let ⟨mc, h1, h2⟩ := hlim; ⟨mc, nsB h1, h2⟩⟩
  have seerB : (hidT s₁.heap H).NoSeer := ⟨let ⟨mc, a, b⟩ := hsr.statics; ⟨mc, nsB a, b⟩, let ⟨mc, a, b⟩ := hsr.mods; ⟨mc, nsB a, b⟩, ⟨mb, nsB hb, hbb⟩, let ⟨bm, ob, b1, _, b3, b4, b5, b6⟩ := hbm; ⟨mg, bm, ob, nsB hns, b1, inB b3 (free b3 (fun vs n z => by rw [b6] at z; cases z) fun z => by rw [b6] at z; cases z), b4, b5⟩⟩
  have hok : HOk P w H s₁.heap := fun b u e => by
    rcases Ho b u e with ⟨z, rfl⟩ | ⟨rfl, _, rfl⟩
    · exact isT b z
    · exact ⟨ha, by rw [List.length_map]; exact hl, vs, _, rv, ha⟩
  have hS : SqL K H a (ns.map V.int) := by
    cases hk : K.lookup a with
    | some o =>
      have e := KX a o hk
      rw [ha] at e
      cases e
      exact .inr ⟨_, vs.toArray, _, hk, rfl, rfl, rfl, by rw [List.size_toArray, lenV]; exact hl, by simpa using rv⟩
    | none => exact .inl (.inr ⟨_, by rw [hH]; exact (if_neg aT).trans (if_pos ⟨rfl, hk⟩)⟩)
  have e0 : Env0 P w K mg (hidT s₁.heap H) callerA [] s₁ H := ⟨rfl, hM, fun b o e => of_hidT e, Nat.le_of_eq (hidT_size _ _), trivial, fun b hb => absurd (show b ∈ ([] : List Addr) from hb) (by simp), hok, .of_eq hg⟩
  refine codeAny_mono ((F _ kB (nsB hns) TB seerB hM.nolimit).run callerA [] s₁ H ⟨[.ref a], []⟩ [.ref a] [.ref a] _ _ hr rfl e0 (hbind s₁ (.ref a)) (.cons rfl .nil) (hsp H (fun p hp => Ht _ (memT p hp)) hS)) fun r s' h => ?_
  cases r with
  | error e => exact False.elim h
  | ok fl =>
    cases fl with
    | next => exact False.elim h
    | brk => exact False.elim h
    | cont => exact False.elim h
    | ret u =>
      obtain ⟨v, H', os, bare, un, hok', r', q⟩ := h
      have q' : v = .bl true := q
      subst q'
      obtain rfl : u = Value.bool true := r'
      have kept : ∀ b o, b ∉ ts → s₁.heap.get? b = some o → s'.heap.get? b = some o := fun b o nb e => by
        cases q : H b with
        | none => exact un.keep b o e q (by intro z; exact absurd (show b ∈ ([] : List Addr) from z) (by simp)) (by simp)
        | some u =>
          rcases Ho b u q with ⟨z, _⟩ | ⟨z, _, rfl⟩
          · exact absurd z nb
          · obtain ⟨e1, _⟩ := hok b _ q
            obtain ⟨e2, _⟩ := hok' b _ (un.frzs b _ _ q)
            rw [e] at e1
            cases e1
            exact e2
      have grown : ∀ p ∈ cs, ∃ more : Array Value, s'.heap.get? p.2 = some { cls := .none, data := .fields more } := fun p hp => by
        obtain ⟨more, z⟩ := un.tbls p.2 #[] (Ht _ (memT p hp))
        exact ⟨_, hok' p.2 _ z⟩
      refine ⟨rfl, ⟨fun b o e => ?_, fun b o e => ?_⟩, os, bare⟩
      · by_cases hb : b ∈ ts
        · have hb2 := hb
          rw [hts] at hb2
          obtain ⟨p, hp, ep⟩ := List.mem_map.mp hb2
          obtain ⟨more, hm⟩ := grown p hp
          have ep2 : p.2 = b := ep
          subst ep2
          rw [hT p hp] at e
          cases e
          exact .inr (.inl ⟨((C p hp).tab (hT p hp)).isCodeTable, rfl, #[], more, rfl, by rw [Array.empty_append]; exact hm⟩)
        · exact .inl (kept b o hb e)
      · by_cases hb : b ∈ ts
        · have hb2 := hb
          rw [hts] at hb2
          obtain ⟨p, hp, ep⟩ := List.mem_map.mp hb2
          obtain ⟨more, hm⟩ := grown p hp
          exact ⟨_, by rw [← (show p.2 = b from ep)]; exact hm⟩
        · exact ⟨o, kept b o hb e⟩
end
theorem walk_ofGT {l : PySem.W.OpenLaw} {n k : Nat} {q : Program} {loose : List Str} {XP : (Str → Option Value) → Heap → Prop} {YP : World → Heap → Prop} {d : DefRec} {x : Str} (hn : l.most = some n) (hn2 : n ≤ sizeLine) (hdf : d.params.defaults = []) (hr : Room k callerA) (hin : PyProof.Rows.importsNone q = true)
    (F : ∀ (w : World) (mg : Str → Option Value) (fa : Addr) (h : Heap), YP w h → h.Ns mainGlobals mg → mg d.name = some (.ref fa) → ∃ (K : PySem.W.Frag) (fd : FuncData) (sp : Sp) (cs : List (Addr × Addr)), K.In h ∧ (∀ p ∈ cs, h.get? p.2 = some { cls := .none, data := .fields #[] }) ∧ (∀ p ∈ cs, K.lookup p.2 = none) ∧ (∀ p ∈ cs, PySem.W.CodeHd h p.1 p.2) ∧
      (∀ (s : Shared) (u : Value), BindsTo s fd ⟨[u], []⟩ [(x, u)]) ∧ (∀ (H : Hp) (a : Addr) (ns : List Int), ns.length ≤ n → (∀ p ∈ cs, H p.2 = some (.tbl #[])) → SqL K H a (ns.map V.int) → sp [.ref a] H (fun v _ => v = .bl true) fun _ _ _ => False) ∧
        ∀ base : Heap, K.In base → base.Ns mainGlobals mg → (∀ p ∈ cs, GxR.TabB base mg p.1 p.2) → base.NoSeer → base.NoLimit → FnG l.prog w K mg base CX0 k fa fd [x] sp) :
    PySem.W.WalkO q loose XP YP l.row.toRowW d [] (fun f vs => PySem.call f vs) := by
  refine Att.attach_call hn hdf fun w s₀ s₁ mg mb fa o pm cd doc a vs ns G Y ho hd hcd hmg hobj hints hlen hg => ?_
  obtain ⟨K, fd, sp, cs, KX, hT, nT, C, hb, hsp, hF⟩ := F w mg fa _ Y G.T.g hmg
  exact law_callGT KX G.T.g G.T.b G.T.builtins G.T.nolimit hg hT nT C G.T.bmain hobj hints (Nat.le_trans hlen hn2) hr (G.T.seer hin) hF hb fun H hH hS => hsp H a ns hlen hH hS
end Rim

/-! RimU: zip of three lists, lcm, [::-1], reversed(range), xs[i] += e. -/
namespace Rim
open PySem PySem.Spec PyProof.Rows L2
variable [Tabs]

/-! ### zip of three lists -/
def Itz3 (K : PySem.W.Frag) (a b c : Addr) : It :=
  ⟨fun i H => ∃ (xs ys zs : List V), SqL K H a xs ∧ SqL K H b ys ∧ SqL K H c zs ∧ i < xs.length ∧ i < ys.length ∧ i < zs.length,
    fun i H v H' => ∃ T x y z, v = .ref T ∧ H T = none ∧ H' = upd H T (.tup [x, y, z]) ∧ (∀ xs, SqL K H a xs → xs[i]? = some x) ∧ (∀ ys, SqL K H b ys → ys[i]? = some y) ∧ ∀ zs, SqL K H c zs → zs[i]? = some z,
    fun i H => ∃ xs ys zs : List V, SqL K H a xs ∧ SqL K H b ys ∧ SqL K H c zs ∧ i ≤ xs.length ∧ i ≤ ys.length ∧ i ≤ zs.length ∧ (i = xs.length ∨ i = ys.length ∨ i = zs.length)⟩
structure Ap3 (z TI TO i1 i2 i3 a b c : Addr) : Prop where
  S : ZipSep3 z TI TO i1 i2 i3 [i1, a] [i2, b] [i3, c]
  h1 : a ≠ i1
  h2 : b ≠ i2
  h3 : c ≠ i3
theorem turn_zip3 {P : Program} {w : World} {K : PySem.W.Frag} {elts : List Expr} {kk : Nat} {tpos : Pos} {a b c z TI TO i1 i2 i3 : Addr} (D : Ap3 z TI TO i1 i2 i3 a b c) :
    Turn P w K (.Tuple elts kk tpos) (Itz3 K a b c) [z, TI, TO, i1, i2, i3] z (fun i h => IsZip h z TI TO .none ∧ IsTupOf3 h TI (.ref i1) (.ref i2) (.ref i3) ∧ (∃ x y u, IsTupOf3 h TO x y u) ∧ h.IsListIter i1 a i ∧ h.IsListIter i2 b i ∧ h.IsListIter i3 c i) where
  mem := by simp
  obj := fun i h st c hc => by
    obtain ⟨hz, hTI, ⟨x, y, u, hTO⟩, ⟨o1, e1, _, d1⟩, ⟨o2, e2, _, d2⟩, ⟨o3, e3, _, d3⟩⟩ := st
    have e' : c = z ∨ c = TI ∨ c = TO ∨ c = i1 ∨ c = i2 ∨ c = i3 := by simpa using hc
    rcases e' with q | q | q | q | q | q
    · rw [q]; exact ⟨_, hz, fun v q => nomatch q⟩
    · rw [q]; exact ⟨_, hTI, fun v q => nomatch q⟩
    · rw [q]; exact ⟨_, hTO, fun v q => nomatch q⟩
    · rw [q]; exact ⟨o1, e1, fun v q => by rw [d1] at q; cases q⟩
    · rw [q]; exact ⟨o2, e2, fun v q => by rw [d2] at q; cases q⟩
    · rw [q]; exact ⟨o3, e3, fun v q => by rw [d3] at q; cases q⟩
  keep := fun i h h' st k => by
    obtain ⟨hz, hTI, ⟨x, y, u, hTO⟩, h1, h2, h3⟩ := st
    exact ⟨k z (by simp) _ hz, k TI (by simp) _ hTI, ⟨x, y, u, k TO (by simp) _ hTO⟩, h1.at fun o q => k i1 (by simp) o q, h2.at fun o q => k i2 (by simp) o q, h3.at fun o q => k i3 (by simp) o q⟩
  item := by
    intro X hP hw hK hc i pins s σ H E I hf st hg
    subst hP hw hK
    obtain ⟨hz, hTI, ⟨x0, y0, u0, hTO⟩, h1, h2, h3⟩ := st
    obtain ⟨xs, ys, zs, hqx, hqy, hqz, hx, hy, hu⟩ := hg
    obtain ⟨its, rv, p, _⟩ := I.list hqx
    obtain ⟨its2, rv2, p2, _⟩ := I.list hqy
    obtain ⟨its3, rv3, p3, _⟩ := I.list hqz
    have l1 := rv.length
    have l2 := rv2.length
    have l3 := rv3.length
    have hzl : z < s.heap.objs.size := Heap.lt_size hz
    have D1 := Draws.list (prog := X.prog) (w := X.w) (A := X.A.in1) (I.ok.hd hc) i1 a D.h1 its.toArray
    have D2 := Draws.list (prog := X.prog) (w := X.w) (A := X.A.in1) (I.ok.hd hc) i2 b D.h2 its2.toArray
    have D3 := Draws.list (prog := X.prog) (w := X.w) (A := X.A.in1) (I.ok.hd hc) i3 c D.h3 its3.toArray
    refine wpAny_pyNext_zipD3_item D.S D1 D2 D3 hz hTI hTO ⟨h1, p.isList⟩ ⟨h2, p2.isList⟩ ⟨h3, p3.isList⟩ (by simp; omega) (by simp; omega) (by simp; omega) fun u1 u2 u3 h' tk y1 y2 y3 z' TO' s1' s2' s3' hT hsz hk => ?_
    have y1' : its[i]? = some u1 := by simpa using y1
    have y2' : its2[i]? = some u2 := by simpa using y2
    have y3' : its3[i]? = some u3 := by simpa using y3
    have hx1 : xs[i]? = some xs[i] := List.getElem?_eq_getElem hx
    have hy1 : ys[i]? = some ys[i] := List.getElem?_eq_getElem hy
    have ht1 : zs[i]? = some zs[i] := List.getElem?_eq_getElem hu
    obtain ⟨v1, w1, ru⟩ := rv.get hx1
    obtain ⟨v2, w2, ru2⟩ := rv2.get hy1
    obtain ⟨v3, w3, ru3⟩ := rv3.get ht1
    cases Option.some.inj (y1'.symm.trans w1)
    cases Option.some.inj (y2'.symm.trans w2)
    cases Option.some.inj (y3'.symm.trans w3)
    generalize xs[i] = x at hx1 ru
    generalize ys[i] = y at hy1 ru2
    generalize zs[i] = t at ht1 ru3
    refine ⟨_, rfl, wpAny_letOwnedTupleGo_zip (s := { s with heap := h', toks := tk }) z' fun h'' z'' sb => ?_⟩
    have hT2 : h''.get? s.heap.objs.size = some { cls := .type "tuple", data := .seq #[u1, u2, u3] } := (sb.2 _ (Nat.ne_of_gt hzl)).trans hT
    have new : ObjOk X.prog X.w (upd H s.heap.objs.size (.tup [x, y, t])) h'' s.heap.objs.size (.tup [x, y, t]) :=
      ⟨by show 3 ≤ sizeLine; decide, [u1, u2, u3], .cons ru (.cons ru2 (.cons ru3 .nil)), ⟨_, hT2, rfl, _, rfl⟩⟩
    have I1 : Inv X pins σ (upd H s.heap.objs.size (.tup [x, y, t])) { s with heap := h'', toks := tk } :=
      I.turnedNew (t' := tk) (ch := [z, TI, TO, i1, i2, i3]) (fun c o hb q => (sb.2 c (fun q' => hb (by simp [q']))).trans (hk c o (fun q' => hb (by simp [q'])) (fun q' => hb (by simp [q'])) (fun q' => hb (by simp [q'])) (fun q' => hb (by simp [q'])) (fun q' => hb (by simp [q'])) q)) hf (Nat.le_refl _) new
    refine ⟨.ref s.heap.objs.size, _, I1, rfl, ⟨_, x, y, t, rfl, I.hok.fresh (Nat.le_refl _), rfl, fun l hl => by rw [I.list_inj hl hqx]; exact hx1, fun l hl => by rw [I.list_inj hl hqy]; exact hy1, fun l hl => by rw [I.list_inj hl hqz]; exact ht1⟩, ⟨z'', ?_, ⟨u1, u2, u3, ?_⟩, ?_, ?_, ?_⟩, fun c hcm => ?_⟩
    · exact (sb.2 _ D.S.TIz).trans (hk _ _ D.S.TIz D.S.TITO D.S.TIi1 D.S.TIi2 D.S.TIi3 hTI)
    · exact (sb.2 _ D.S.TOz).trans TO'
    · exact s1'.1.at fun o q => (sb.2 _ D.S.zi1.symm).trans q
    · exact s2'.1.at fun o q => (sb.2 _ D.S.zi2.symm).trans q
    · exact s3'.1.at fun o q => (sb.2 _ D.S.zi3.symm).trans q
    · have hlt : c < s.heap.objs.size := by
        have e' : c = z ∨ c = TI ∨ c = TO ∨ c = i1 ∨ c = i2 ∨ c = i3 := by simpa using hcm
        rcases e' with q | q | q | q | q | q
        · rw [q]; exact hzl
        · rw [q]; exact Heap.lt_size hTI
        · rw [q]; exact Heap.lt_size hTO
        · rw [q]; obtain ⟨_, e1, _⟩ := h1; exact Heap.lt_size e1
        · rw [q]; obtain ⟨_, e2, _⟩ := h2; exact Heap.lt_size e2
        · rw [q]; obtain ⟨_, e2, _⟩ := h3; exact Heap.lt_size e2
      rw [upd_ne (Nat.ne_of_lt hlt)]
      exact (hf c hcm).1
  done := by
    intro X hP hw hK hc i pins s σ H E I hf st hg
    subst hP hw hK
    obtain ⟨hz, hTI, ⟨x0, y0, u0, hTO⟩, h1, h2, h3⟩ := st
    obtain ⟨xs, ys, zs, hqx, hqy, hqz, e1, e2, e3, hend⟩ := hg
    obtain ⟨its, rv, p, _⟩ := I.list hqx
    obtain ⟨its2, rv2, p2, _⟩ := I.list hqy
    obtain ⟨its3, rv3, p3, _⟩ := I.list hqz
    have l1 := rv.length
    have l2 := rv2.length
    have l3 := rv3.length
    have D1 := Draws.list (prog := X.prog) (w := X.w) (A := X.A.in1) (I.ok.hd hc) i1 a D.h1 its.toArray
    have D2 := Draws.list (prog := X.prog) (w := X.w) (A := X.A.in1) (I.ok.hd hc) i2 b D.h2 its2.toArray
    have D3 := Draws.list (prog := X.prog) (w := X.w) (A := X.A.in1) (I.ok.hd hc) i3 c D.h3 its3.toArray
    exact wpAny_pyNext_zipD3_end D.S D1 D2 D3 hz hTI hTO ⟨h1, p.isList⟩ ⟨h2, p2.isList⟩ ⟨h3, p3.isList⟩ (by simp; omega) (by simp; omega) (by simp; omega) (by simp; omega) fun h' tk hk => ⟨rfl, I.turnedL (t' := tk) (ch := [z, TI, TO, i1, i2, i3]) (fun c o hb q =>
      hk c o (fun q' => hb (by simp [q'])) (fun q' => hb (by simp [q'])) (fun q' => hb (by simp [q'])) (fun q' => hb (by simp [q'])) (fun q' => hb (by simp [q'])) q) hf⟩
  self := fun A i s Q E st h => wpAny_pyIter_zip st.1 h
def iZip3 (K : PySem.W.Frag) (ta : TA) : TI := fun σ H R => ta σ H fun vs H1 => ∃ a b c xs ys zs, vs = [.ref a, .ref b, .ref c] ∧ SqL K H1 a xs ∧ SqL K H1 b ys ∧ SqL K H1 c zs ∧ R (Itz3 K a b c) H1
theorem pi_zip3 {X : Cx} {e e2 e3 : Expr} {ta : TA} {p pos tpos : Pos} {elts : List Expr} {kk : Nat} (hg : Gl X "zip") (hm : X.mg "zip" = none) (ha : PA X [e, e2, e3] ta)
    (hs : starEach [e, e2, e3] X.env = (false, eval e X.env) :: starEach [e2, e3] X.env := by rfl) (hpl : (backTo pos (starEach [e2, e3] X.env)).any (·.1) = false := by rfl) :
    PI X (.Tuple elts kk tpos) (.Call (.Name "zip" p) [e, e2, e3] [] pos) (iZip3 X.K ta) := by
  refine ⟨fun pins s σ H R I h => ?_⟩
  refine Call_ (ld_blt I hg hm PyProof.Rows.boot_zip (PyProof.Rows.callWith_type1 (thn (ha.run pos pins s σ H _ I h) fun us s1 ⟨vs, H1, I1, r1, q1⟩ => ?_) hs hpl))
  obtain ⟨a, b, c, xs, ys, zs, ex, hqx, hqy, hqz, q⟩ := q1
  subst ex
  cases r1 with
  | cons r rr =>
    cases rr with
    | cons r' rr =>
      cases rr with
      | cons r'' rr =>
        cases rr
        cases r
        cases r'
        cases r''
        obtain ⟨its, rv, p1, _⟩ := I1.list hqx
        obtain ⟨its2, rv2, p2, _⟩ := I1.list hqy
        obtain ⟨its3, rv3, p3, _⟩ := I1.list hqz
        have la := p1.lt
        have lb := p2.lt
        have lc := p3.lt
        generalize hN : s1.heap.objs.size = N at la lb lc
        have fresh6 : ∀ d, d ∈ [N + 5, N + 3, N + 4, N, N + 1, N + 2] → FpOk X pins H1 d := fun d hd => by
          have e' : d = N + 5 ∨ d = N + 3 ∨ d = N + 4 ∨ d = N ∨ d = N + 1 ∨ d = N + 2 := by simpa using hd
          have hle : N ≤ d := by
            rcases e' with z | z | z | z | z | z
            · rw [z]; exact Nat.le_add_right _ _
            · rw [z]; exact Nat.le_add_right _ _
            · rw [z]; exact Nat.le_add_right _ _
            · rw [z]; exact Nat.le_refl _
            · rw [z]; exact Nat.le_add_right _ _
            · rw [z]; exact Nat.le_add_right _ _
          rw [← hN] at hle
          exact I1.fpOk hle (I1.hok.fresh hle)
        have ap : Ap3 (N + 5) (N + 3) (N + 4) N (N + 1) (N + 2) a b c := by
          refine ⟨zip_sep3 (fun d h => ?_) (fun d h => ?_) (fun d h => ?_), Nat.ne_of_lt la, Nat.ne_of_lt (Nat.lt_of_lt_of_le lb (Nat.le_add_right _ _)), Nat.ne_of_lt (Nat.lt_of_lt_of_le lc (Nat.le_add_right _ _))⟩
          · rw [List.mem_singleton.mp h]; exact la
          · rw [List.mem_singleton.mp h]; exact lb
          · rw [List.mem_singleton.mp h]; exact lc
        refine zip_begins3 (begins_list a its.toArray) (begins_list b its2.toArray) (begins_list c its3.toArray) p1.isList p2.isList p3.isList fun h' hz hTI hTO g1 g2 g3 hsz hk => wpAny_pyIter_zip hz ?_
        rw [hN] at hz hTI hTO g1 g2 g3
        have I2 : Inv X pins σ H1 { s1 with heap := h' } := I1.kept (t' := s1.toks) hk
        refine ⟨N + 5, [N + 5, N + 3, N + 4, N, N + 1, N + 2], _, _, H1, by rw [hN], I2, turn_zip3 ap, ⟨hz, hTI, ⟨_, _, _, hTO⟩, ⟨_, g1, rfl, rfl⟩, ⟨_, g2, rfl, rfl⟩, ⟨_, g3, rfl, rfl⟩⟩, fresh6, q⟩
/-- the triples -/
def zi3D (a b c : List PyData) : List PyData := ((a.zip b).zip c).map fun q => .tuple [q.1.1, q.1.2, q.2]
section
variable {K : PySem.W.Frag} {p : Option Addr} {G1 : Hp} {a b c : Addr} {xs ys zs : List V} {ds es fs : List PyData}
theorem wd_zip3 (h1 : SqL K G1 a xs) (ha : DpAll K G1 xs ds) (h2 : SqL K G1 b ys) (hb : DpAll K G1 ys es) (h3 : SqL K G1 c zs) (hc : DpAll K G1 zs fs) : WalkD K p (fun G2 _ => Same G1 G2) (Itz3 K a b c) (zi3D ds es fs) := by
  have l1 := dpA_len ha
  have l2 := dpA_len hb
  have l3 := dpA_len hc
  have hl : (zi3D ds es fs).length = min (min xs.length ys.length) zs.length := by simp [zi3D, l1, l2, l3]
  refine ⟨⟨fun H => SqL K H a xs ∧ SqL K H b ys ∧ SqL K H c zs, fun i H v H' => ∃ T x y z, v = .ref T ∧ H T = none ∧ H' = upd H T (.tup [x, y, z]) ∧ xs[i]? = some x ∧ ys[i]? = some y ∧ zs[i]? = some z, ?_, fun G H r j => ⟨(r.trans j.sub).seq h1, (r.trans j.sub).seq h2, (r.trans j.sub).seq h3⟩, fun i G H v H' hi r j y => ?_⟩⟩
  · rw [hl]
    refine ⟨fun i _ hi q => ?_, fun _ q => ⟨xs, ys, zs, q.1, q.2.1, q.2.2, by omega, by omega, by omega, by omega⟩, fun i H v H' _ q y => ?_⟩
    · exact ⟨xs, ys, zs, q.1, q.2.1, q.2.2, by omega, by omega, by omega⟩
    · obtain ⟨T, x, y, z, e1, e2, e3, e4, e5, e6⟩ := y
      exact ⟨T, x, y, z, e1, e2, e3, e4 xs q.1, e5 ys q.2.1, e6 zs q.2.2⟩
  · obtain ⟨T, x, y, z, rfl, hT, rfl, hx, hy, hz⟩ := y
    obtain ⟨d, hd, dx⟩ := dpA_at ha hx
    obtain ⟨e, he, dy⟩ := dpA_at hb hy
    obtain ⟨f, hf, dz⟩ := dpA_at hc hz
    have x2 := Xt.laid (p := p) j (o := .tup [x, y, z]) hT
    have g := r.trans x2.gg
    exact ⟨_, .tuple [d, e, f], x2, j.laid hT, by simp [zi3D, List.zip, List.getElem?_zipWith, hd, he, hf], .tup (SqT.of upd_same) (.cons (dp_mono g d x dx) (.cons (dp_mono g e y dy) (.cons (dp_mono g f z dz) .nil)))⟩
end
def zip3D (ds : List PyData) (Ψ : List PyData → Prop) : Prop := match ds with
  | [.list a, .list b, .list c] => Ψ (zi3D a b c)
  | _ => False
def vZip3 (f : WL) : WL := fun E Ψ => f E fun ds => zip3D ds Ψ
section
variable {X : Cx} {p : Option Addr} {tg e a b c : Expr} {es : List Expr} {te ta tb tc : TE} {fe fa fb fc : WE} {tA : TA} {fA : WL} {pos px : Pos}
theorem di_zip3 {e2 e3 : Expr} {elts : List Expr} {kk : Nat} {tpos : Pos} (hg : Gl X "zip") (hm : X.mg "zip" = none) (ha : DA X p [e, e2, e3] tA fA)
    (hs : starEach [e, e2, e3] X.env = (false, eval e X.env) :: starEach [e2, e3] X.env := by rfl) (hpl : (backTo pos (starEach [e2, e3] X.env)).any (·.1) = false := by rfl) :
    DI X p (.Tuple elts kk tpos) (.Call (.Name "zip" px) [e, e2, e3] [] pos) (iZip3 X.K tA) (vZip3 fA) := by
  refine ⟨pi_zip3 hg hm ha.py hs hpl, fun E Ψ q => ?_⟩
  intro H0 G H σ j en R z
  refine ha.ok E _ q H0 G H σ j en _ fun vs ds G1 H1 x1 j1 dv hd => ?_
  have hd2 := hd.2
  unfold zip3D at hd2
  split at hd2
  · cases dv with
    | cons d1 dr =>
      cases dr with
      | cons d2 dr =>
        cases dr with
        | cons d3 dr =>
          cases dr
          obtain ⟨a, xs, rfl, hs, ha⟩ := dp_lst d1
          obtain ⟨b, ys, rfl, hs2, hb⟩ := dp_lst d2
          obtain ⟨c, zs, rfl, hs3, hc⟩ := dp_lst d3
          exact ⟨a, b, c, xs, ys, zs, rfl, j1.sub.seq hs, j1.sub.seq hs2, j1.sub.seq hs3, z _ _ G1 H1 x1 j1 (wd_zip3 hs ha hs2 hb hs3 hc) hd2⟩
  · exact hd2.elim

/-! ### lcm -/
def rLcm : List V → Hp → VK → Prop := fun vs H Q => ∃ a b : Int, vs = [.int a, .int b] ∧ a.natAbs < 2 ^ 64 ∧ b.natAbs < 2 ^ 64 ∧ Q (.int ((a.natAbs.lcm b.natAbs : Nat) : Int)) H
theorem cr_lcm : CallR X (.builtin "math.lcm") rLcm := by
  intro pins s σ H vs us Q I r h
  obtain ⟨a, b, rfl, ha, hb, q⟩ := h
  obtain ⟨t, u, rfl⟩ := Vals.int2 r
  exact PySem.W.mc_lcm ha hb fun _ => ⟨.int _, H, I.tok _, ⟨_, rfl⟩, q⟩
def oLcm : WF := fun xs Φ => match xs with
  | [.int a, .int b] => a.natAbs < 2 ^ 64 ∧ b.natAbs < 2 ^ 64 ∧ Φ (.int ((a.natAbs.lcm b.natAbs : Nat) : Int))
  | _ => False
theorem db_lcm : DB X (.builtin "math.lcm") rLcm oLcm := by
  refine ⟨cr_lcm, fun p xs Φ h => ?_⟩
  unfold oLcm at h
  split at h
  · intro G H vs j dv Q q
    cases dv with
    | cons x y =>
      cases y with
      | cons y z =>
        cases z
        rw [dp_int x, dp_int y]
        exact ⟨_, _, rfl, h.1, h.2.1, q _ _ G H Xt.refl j (.int _) h.2.2⟩
  · exact h.elim

/-! ### xs[::-1] -/
def revD (d : PyData) (Φ : PyData → Prop) : Prop := match d with
  | .list ds => Φ (.list ds.reverse)
  | _ => False
def vRevL (f : WE) : WE := fun E Φ => f E fun d => revD d Φ
theorem dpA_rev {K : PySem.W.Frag} {G : Hp} : ∀ {xs : List V} {ds : List PyData}, DpAll K G xs ds → DpAll K G xs.reverse ds.reverse
  | _, _, .nil => .nil
  | _, _, .cons h t => by
    rw [List.reverse_cons, List.reverse_cons]
    exact dpA_append (dpA_rev t) (.cons h .nil)
theorem de_revL {k : Nat} {p1 p2 p3 : Pos} (h : DE X p e te fe) : DE X p (.Subscript e (.Slice none none (some (.UnaryOp .USub (.Constant (.int 1) k p1) p2)) p3) pos) (tRevL X.K te) (vRevL fe) := by
  refine ⟨pe_revL h.py, fun E Φ q => ?_⟩
  intro H0 G H σ j e Q z
  refine h.ok E _ q H0 G H σ j e _ fun v d G1 H1 x1 j1 dv hd => ?_
  unfold revD at hd
  split at hd
  · obtain ⟨m, xs, rfl, hs, ha⟩ := dp_lst dv
    refine ⟨m, xs, rfl, j1.sub.seq hs, fun n hn => ?_⟩
    have x4 := Xt.laid (p := p) j1 (o := .lst xs.reverse) hn
    exact z _ _ _ _ (x1.trans x4) (j1.laid hn) (.lst (SqL.of upd_same) (dpA_mono x4.gg _ _ (dpA_rev ha))) hd
  · exact hd.elim

/-! ### reversed(range(..)) -/
theorem rg_rev (a : Int) (n : Nat) : ((List.range n).map fun (i : Nat) => PyData.int (a + (n : Int) - 1 + (i : Int) * (-1))) = (rgD a n).reverse := by
  refine List.ext_getElem (by simp [rgD]) fun i h1 h2 => ?_
  have h3 : i < n := by simpa using h1
  simp only [rgD, List.getElem_map, List.getElem_range, List.getElem_reverse, List.length_map, List.length_range]
  congr 1
  omega
def vRvR1 (f : WE) : WL := fun E Ψ => f E fun d => r1D [d] fun xs => Ψ xs.reverse
def vRvR2 (f g : WE) : WL := fun E Ψ => f E fun d => g E fun e => r2D [d, e] fun xs => Ψ xs.reverse
theorem di_revR1 {p2 q2 : Pos} (hg : Gl X "reversed") (hm : X.mg "reversed" = none) (hg2 : Gl X "range") (hm2 : X.mg "range" = none) (ha : DE X p a ta fa)
    (na : starEach [a] X.env = (false, eval a X.env) :: starEach [] X.env := by rfl) (hs : starEach [.Call (.Name "range" p2) [a] [] q2] X.env = (false, eval (.Call (.Name "range" p2) [a] [] q2) X.env) :: starEach [] X.env := by rfl) :
    DI X p tg (.Call (.Name "reversed" px) [.Call (.Name "range" p2) [a] [] q2] [] pos) (iRevR (tRg1 ta)) (vRvR1 fa) := by
  refine ⟨pi_revR hg hm (prg_1 hg2 hm2 ha.py na) hs, fun E Ψ q => ?_⟩
  intro H0 G H σ j en R z
  refine ha.ok E _ q H0 G H σ j en _ fun v d G1 H1 x1 j1 dv hd => ?_
  unfold r1D at hd
  split at hd
  · rename_i n e
    cases e
    refine ⟨n, dp_int dv, by decide, by decide, hd.1.1, hd.1.2, z _ _ G1 H1 x1 j1 wd_rangeC ?_⟩
    rw [rg_rev, Int.sub_zero]
    exact hd.2
  · exact hd.elim
theorem di_revR2 {p2 q2 : Pos} (hg : Gl X "reversed") (hm : X.mg "reversed" = none) (hg2 : Gl X "range") (hm2 : X.mg "range" = none) (ha : DE X p a ta fa) (hb : DE X p b tb fb)
    (na : starEach [a, b] X.env = (false, eval a X.env) :: starEach [b] X.env := by rfl) (nb : starEach [b] X.env = (false, eval b X.env) :: starEach [] X.env := by rfl) (hp : (backTo q2 (starEach [b] X.env)).any (·.1) = false := by rfl)
    (hs : starEach [.Call (.Name "range" p2) [a, b] [] q2] X.env = (false, eval (.Call (.Name "range" p2) [a, b] [] q2) X.env) :: starEach [] X.env := by rfl) :
    DI X p tg (.Call (.Name "reversed" px) [.Call (.Name "range" p2) [a, b] [] q2] [] pos) (iRevR (tRg2 ta tb)) (vRvR2 fa fb) := by
  refine ⟨pi_revR hg hm (prg_2 hg2 hm2 ha.py hb.py na nb hp) hs, fun E Ψ q => ?_⟩
  intro H0 G H σ j en R z
  refine ha.ok E _ q H0 G H σ j en _ fun v d G1 H1 x1 j1 dv hd => ?_
  refine hb.ok E _ hd H0 G1 H1 σ j1 (en.mono x1) _ fun u d2 G2 H2 x2 j2 du hd2 => ?_
  unfold r2D at hd2
  split at hd2
  · rename_i n m e
    cases e
    refine ⟨n, m, dp_int dv, dp_int du, hd2.1.1, hd2.1.2.1, hd2.1.2.2.1, hd2.1.2.2.2, z _ _ G2 H2 (x1.trans x2) j2 wd_rangeC ?_⟩
    rw [rg_rev]
    exact hd2.2
  · exact hd2.elim

/-! ### xs[i] += e -/
theorem get_list : PGet X (rIxL X.K) := by
  intro pins s σ H x y v u Q I rx ry h
  obtain ⟨p, xs, i, z, rfl, rfl, hq, he, q⟩ := h
  cases rx
  obtain ⟨t, rfl⟩ := ry
  obtain ⟨its, r, pl, hz⟩ := I.list hq
  obtain ⟨j, h1, h2, h3, h4, h5⟩ := atI_get he
  obtain ⟨w, ew, rw'⟩ := r.get h2
  have hl := r.length
  have hn := line63
  have fin : EP X pins σ Q w s := ⟨z, H, I, rw', q⟩
  by_cases h0 : 0 ≤ i
  · have hj : i.toNat = j := by
      rw [seqIndex_of h0 h5] at h1
      exact Option.some.inj h1
    exact wpAny_getItem_list pl.isList h0 (by omega) (by rw [hj]; simpa using ew) fin
  · have hj : (i + (its.toArray.size : Int)).toNat = j := by
      rw [seqIndex_neg (by omega) h4] at h1
      rw [List.size_toArray, ← hl]
      exact Option.some.inj h1
    exact wpAny_getItem_list_neg pl.isList (by omega) (by rw [List.size_toArray] <;> omega) (by omega) (by rw [hj]; simpa using ew) fin
end
section
variable {K : PySem.W.Frag} {p : Option Addr} {E : Ev} {te : TE} {N : Ev → Prop} {R : PyData → Prop} {B C : Ev → Prop}
theorem S_augM {i : Nat} {ti : TE} {g : Int → Int → Int} {ds : List PyData} (hs : E[i]? = some (.m ds))
    (h : W K p E ti fun y => ∃ (k : Int) (n : Nat) (a : Int), y = .int k ∧ ixN ds.length k = some n ∧ ds[n]? = some (.int a) ∧ W K p E te fun d => ∃ b, d = .int b ∧ N (E.set i (.m (ds.set n (.int (g a b)))))) :
    S K p E (tAugS (tVar i) ti te (rIxL K) (ipI g) rSetL) N R B C := fun G0 H0 G H σ x j e D q => by
  obtain ⟨l, vs, z1, z2, z3, z4, z5, z6⟩ := e.own hs
  refine ⟨_, z1, h H0 G H σ j e _ fun u y G1 H1 x1 j1 du h1 => ?_⟩
  obtain ⟨k, n, a, rfl, hk, ha, h2⟩ := h1
  have e1 := e.mono x1
  obtain ⟨l', vs', y1, y2, y3, y4, y5, y6⟩ := e1.own hs
  rw [z1] at y1
  cases y1
  have hn : n < ds.length := (List.getElem?_eq_some_iff.mp ha).1
  have hl := dpA_len y3
  have hv : vs'[n]? = some vs'[n] := List.getElem?_eq_getElem (by omega)
  obtain ⟨d0, hd0, dd0⟩ := dpA_at y3 hv
  rw [ha] at hd0
  cases hd0
  refine ⟨l, vs', k, vs'[n], rfl, dp_int du, .inl (.inl y2), ?_, h2 H0 G1 H1 σ j1 e1 _ fun w d G2 H2 x2 j2 dw h3 => ?_⟩
  · have hk2 : ixN vs'.length k = some n := by rw [hl]; exact hk
    unfold atI
    rw [hk2]
    exact hv
  · obtain ⟨b, rfl, hb⟩ := h3
    have e2 := e1.mono x2
    obtain ⟨l2, vs2, w1, w2, w3, w4, w5, w6⟩ := e2.own hs
    rw [z1] at w1
    cases w1
    refine ⟨a, b, dp_int dd0, dp_int dw, l, vs2, k, n, rfl, dp_int du, w2, by rw [dpA_len w3]; exact hk, ?_⟩
    exact q.nx σ _ G2 _ (((x.trans x1).trans x2).chg w6) (j2.madeL w4 w5 w2) (e2.chg hs z1 w2 (dpA_set (.int _) n w3) w4 w5 w6) hb
end
section
variable {X : Cx} {p : Option Addr} {e b : Expr} {te tb : TE} {fe fb : WE} {pos px : Pos}
def atD (ds : List PyData) (n : Nat) (k : Int → Prop) : Prop := match ds[n]? with
  | some (.int a) => k a
  | _ => False
def vAugI (i : Nat) (op : Int → Int → Int) (f g : WE) : WS := fun E P => ownD (geE E i) fun ds => g E fun y => intD y fun k => match ixN ds.length k with
  | some n => atD ds n fun a => f E fun d => intD d fun b => puE E i (.m (ds.set n (.int (op a b)))) P.N
  | none => False
theorem ds_augI {i : Nat} {x : Str} {op : Operator} {g : Int → Int → Int} {p1 : Pos} (hN : X.N[i]? = some x) (hv : Vis X.env.scope x) (he : DE X p e te fe) (hb : DE X p b tb fb) (ho : PIp X op (ipI g)) (hd : (x == ("__debug__" : Str)) = false := by decide) (hcd : (x == ("__classdict__" : Str)) = false := by decide)
    (ha : ∀ ov iv new, augStore b ov iv new = (do holding [new, ov, iv] (setItem ov iv new); release [new, ov, iv] []; pure .next) := by intros; rfl) :
    DS X p (.AugAssign (.Subscript (.Name x p1) b px) op e pos) (tAugS (tVar i) tb te (rIxL X.K) (ipI g) rSetL) (vAugI i g fe fb) := by
  refine ⟨ps_augS (pe_var hN hv hd hcd) hb.py get_list he.py ho set_list ha, fun E P q => ?_⟩
  obtain ⟨ds, hs, q⟩ := ownD_ok q
  refine S_augM (geE_ok hs Sl.noConfusion) ((hb.ok E _ q).imp fun y hy => ?_)
  obtain ⟨k, rfl, hk⟩ := intD_ok hy
  split at hk <;> rename_i n hn
  · unfold atD at hk
    split at hk
    · rename_i a ha
      refine ⟨k, n, a, rfl, hn, ha, (he.ok E _ hk).imp fun d hd => ?_⟩
      obtain ⟨b, rfl, hd⟩ := intD_ok hd
      exact ⟨b, rfl, (puE_ok hd).2⟩
    · exact hk.elim
  · exact hk.elim
end
/-! ### not x, of anything -/
def vNotT (f : WE) : WE := fun E Φ => f E fun d => truD d fun b => Φ (.bool (!b))
theorem de_notT {X : Cx} {p : Option Addr} {a : Expr} {ta : TE} {fa : WE} {pos : Pos} (h : DE X p a ta fa) : DE X p (.UnaryOp .Not a pos) (tNotT X.K ta) (vNotT fa) := by
  refine ⟨pe_notT h.py, fun E Φ q => ?_⟩
  intro H0 G H σ j e Q z
  refine h.ok E _ q H0 G H σ j e _ fun v d G1 H1 x1 j1 dv hd => ?_
  obtain ⟨k, hk, hk2⟩ := tru_dp j1.sub dv hd
  exact ⟨k, hk, z _ _ G1 H1 x1 j1 (.bl _) hk2⟩
/-! ### tuple * int, of any count -/
theorem tuple_mul1 (l : Addr) (items : Array Value) (n : Nat) (dd : Option Addr) (sl : Array (Option Value)) (u : Tok) :
    Meets (Builtin.«tuple.__mul__» ⟨[.ref l, .int 1 u], []⟩) (fun _ R s => s.heap.get? l = some { cls := .type "tuple", dict := dd, data := .seq items n, slots := sl } ∧
      R (.ok (.ret (Value.ref l))) s) :=
  .of_wp fun prog w A R s h => by
    obtain ⟨hp, g, d, tk, os⟩ := s
    obtain ⟨hl, h⟩ := h
    have f1 := AutoSeq1.idx_int
    have c1 : (items.isEmpty || (1 : Int) == 1) = true := by rw [show ((1 : Int) == 1) = true from rfl, Bool.or_true]
    wp_walk using wpAny_loadPart' hl
    repeat (first
      | (refine wpAny_ite_false (by decide) ?_; wp_walk using wpAny_loadPart' hl)
      | (refine wpAny_ite_true (decide_eq_true c1) ?_; wp_walk using wpAny_loadPart' hl))
    exact ⟨_, rfl, h⟩
theorem tuple_mul0 (l : Addr) (items : Array Value) (n : Nat) (dd : Option Addr) (sl : Array (Option Value)) (x : Int) (u : Tok) (c0 : (decide (x < -(2 ^ 63)) || decide (x ≥ 2 ^ 63)) = false) (c1 : (items.isEmpty || x == 1) = false) (c2 : (decide (x ≤ 0) || items.isEmpty) = true) :
    Meets (Builtin.«tuple.__mul__» ⟨[.ref l, .int x u], []⟩) (fun _ R s => s.heap.get? l = some { cls := .type "tuple", dict := dd, data := .seq items n, slots := sl } ∧
      R (.ok (.ret (Value.ref s.heap.objs.size))) { s with heap := s.heap.push { cls := Value.type "tuple", data := Data.seq #[] }, toks := s.toks }) :=
  .of_wp fun prog w A R s h => by
    obtain ⟨hp, g, d, tk, os⟩ := s
    obtain ⟨hl, h⟩ := h
    have f1 := AutoSeq1.idx_int
    wp_walk using wpAny_loadPart' hl
    repeat (first
      | (refine wpAny_ite_false (decide_eq_false (by rw [c0]; exact Bool.false_ne_true)) ?_; wp_walk using wpAny_loadPart' hl)
      | (refine wpAny_ite_false (decide_eq_false (by rw [c1]; exact Bool.false_ne_true)) ?_; wp_walk using wpAny_loadPart' hl)
      | (refine wpAny_ite_true (decide_eq_true c2) ?_; wp_walk using wpAny_loadPart' hl))
    exact ⟨_, rfl, h⟩
def rRepA (K : PySem.W.Frag) : R2 := fun x y H Q => ∃ l k xs, x = .ref l ∧ y = .int k ∧ SqT K H l xs ∧ xs ≠ [] ∧ -1000 ≤ k ∧ k ≤ 1000 ∧ xs.length ≤ 1000 ∧ (k = 1 → Q (.ref l) H) ∧ (k ≠ 1 → ∀ p, H p = none → Q (.ref p) (upd H p (.tup (List.replicate k.toNat xs).flatten)))
theorem op_repA {X : Cx} : OpR X (binaryOp .Mult) (rRepA X.K) := by
  intro pins s σ H x y v u Q I rx ry h
  obtain ⟨l, k, xs, rfl, rfl, hT, hne, h0, h1, hz, q1, q2⟩ := h
  by_cases hk : 2 ≤ k
  · exact op_repT pins s σ H _ _ v u Q I rx ry ⟨l, k, xs, rfl, rfl, hT, hne, hk, h1, hz, q2 (by omega)⟩
  cases rx
  obtain ⟨t, rfl⟩ := ry
  obtain ⟨its, r, ⟨⟨cls, dd, data, sl⟩, ho, hc, n, hd⟩, hs⟩ := I.tuple hT
  simp only at hc hd
  subst hc hd
  have hle : its.length = xs.length := r.length.symm
  have hn : its ≠ [] := fun e => hne (by
    rw [e] at hle
    exact List.eq_nil_of_length_eq_zero hle.symm)
  have hi : its.toArray.isEmpty = false := by
    cases its with
    | nil => exact absurd rfl hn
    | cons a b => rfl
  by_cases hk1 : k = 1
  · subst hk1
    exact wpAny_binaryOp_repeat_ref (T := "tuple") (U := "int") (by decide) ⟨_, ho, rfl⟩ (fun s' => typeIs_int s' 1 t) noFill_tuple_mul F.fills_int_mul F.slot_int_rmul repeat_tuple F.slot_int_index.lookup
      (call_meets F.slot_int_rmul (typeIs_int s 1 t) F.entry_int_rmul (F.args_int_rmul_2 _ _) (int_rmul_tuple 1 t l its.toArray n dd sl)
        ⟨ho, rfl, ⟨_, ho, rfl⟩, call_meets F.slot_tuple_mul ⟨_, ho, rfl⟩ F.entry_tuple_mul (F.args_tuple_mul_2 _ _) (tuple_mul1 l its.toArray n dd sl t) ⟨ho, ⟨.ref l, H, I, rfl, q1 rfl⟩⟩⟩)
  · have hk0 : k ≤ 0 := by omega
    have c0 : (decide (k < -(2 ^ 63)) || decide (k ≥ 2 ^ 63)) = false := by
      rw [decide_eq_false (by omega), decide_eq_false (by omega)] <;> rfl
    have c1 : (its.toArray.isEmpty || k == 1) = false := by
      rw [hi, Bool.false_or]
      exact beq_eq_false_iff_ne.mpr hk1
    have c2 : (decide (k ≤ 0) || its.toArray.isEmpty) = true := by
      rw [decide_eq_true hk0, Bool.true_or]
    have q3 := q2 hk1
    rw [show k.toNat = 0 by omega] at q3
    refine wpAny_binaryOp_repeat_ref (T := "tuple") (U := "int") (by decide) ⟨_, ho, rfl⟩ (fun s' => typeIs_int s' k t) noFill_tuple_mul F.fills_int_mul F.slot_int_rmul repeat_tuple F.slot_int_index.lookup
      (call_meets F.slot_int_rmul (typeIs_int s k t) F.entry_int_rmul (F.args_int_rmul_2 _ _) (int_rmul_tuple k t l its.toArray n dd sl)
        ⟨ho, rfl, ⟨_, ho, rfl⟩, call_meets F.slot_tuple_mul ⟨_, ho, rfl⟩ F.entry_tuple_mul (F.args_tuple_mul_2 _ _) (tuple_mul0 l its.toArray n dd sl k t c0 c1 c2) ⟨ho, ?_⟩⟩)
    refine ⟨.ref s.heap.objs.size, _, I.laid (t' := s.toks) (o := .tup []) (fun b ob q => Heap.get?_push_of_some _ q) (Nat.le_refl _) ?_, rfl, q3 _ (I.hok.fresh (Nat.le_refl _))⟩
    exact ⟨Nat.zero_le _, [], .nil, IsTup.new _ _⟩
def oMulT : WO2 := fun x y Φ => match x, y with
  | .tuple ds, .int k => ds ≠ [] ∧ -1000 ≤ k ∧ k ≤ 1000 ∧ ds.length ≤ 1000 ∧ Φ (.tuple (List.replicate k.toNat ds).flatten)
  | _, _ => False
def vMulT (f g : WE) : WE := fun E Φ => f E fun d => g E fun y => oMulT d y Φ
theorem de_mulT {X : Cx} {p : Option Addr} {a b : Expr} {ta tb : TE} {fa fb : WE} {pos : Pos} (ha : DE X p a ta fa) (hb : DE X p b tb fb) : DE X p (.BinOp a .Mult b pos) (tOp (rRepA X.K) ta tb) (vMulT fa fb) := by
  refine ⟨pe_op op_repA ha.py hb.py, fun E Φ q => ?_⟩
  intro H0 G H σ j e Q z
  refine ha.ok E _ q H0 G H σ j e _ fun v d G1 H1 x1 j1 dv hd => ?_
  refine hb.ok E _ hd H0 G1 H1 σ j1 (e.mono x1) _ fun u y G2 H2 x2 j2 du hy => ?_
  unfold oMulT at hy
  split at hy
  · rename_i ds k
    obtain ⟨h1, h2, h3, h4, h5⟩ := hy
    obtain ⟨m, xs, rfl, hs, ha⟩ := dp_tup dv
    have hlen := dpA_len ha
    have hx : xs ≠ [] := fun e => h1 (by rw [e] at hlen; exact List.eq_nil_of_length_eq_zero hlen.symm)
    have g12 := x2.gg
    refine ⟨m, k, xs, rfl, dp_int du, sqT_mono (g12.trans j2.sub) hs, hx, h2, h3, by rw [hlen]; exact h4, fun e1 => ?_, fun _ n hn => ?_⟩
    · subst e1
      have h6 : Φ (.tuple ds) := by
        have := h5
        rw [show ((1 : Int).toNat) = 1 from rfl] at this
        simpa using this
      exact z _ _ G2 H2 (x1.trans x2) j2 (dp_mono g12 _ _ dv) h6
    · have x4 := Xt.laid (p := p) j2 (o := .tup (List.replicate k.toNat xs).flatten) hn
      exact z _ _ _ _ ((x1.trans x2).trans x4) (j2.laid hn) (.tup (SqT.of upd_same) (dpA_mono x4.gg _ _ (dpA_flat (dpA_mono g12 ds xs ha) k.toNat))) h5
  · exact hy.elim
/-! ### enumerate of a tuple -/
theorem meets_enum_tup (l : Addr) (items : Array Value) (n : Nat) (dct : Option Addr) (sl : Array (Option Value)) :
    Meets (Builtin.«enumerate.__new__» ⟨[.type "enumerate", .ref l], []⟩) (fun _ R s => s.heap.get? l = some { cls := .type "tuple", dict := dct, data := .seq items n, slots := sl } ∧
      R (.ok (.ret (.ref (s.heap.push { cls := .type "tuple_iterator", data := .fields #[.ref l, .int 0 0] }).objs.size)))
        { s with heap := (s.heap.push { cls := .type "tuple_iterator", data := .fields #[.ref l, .int 0 0] }).push { cls := .type "enumerate", data := .fields #[.none, .bool false, .ref s.heap.objs.size, rawInt 0, .none, .none] } }) :=
  .of_wp fun prog w A R s h => by
    obtain ⟨hp, g, d, tk, os⟩ := s; obtain ⟨hl, h⟩ := h
    have hsub := sub_enumerate
    have hL : Heap.IsTuple (Shared.heap ⟨hp, g, d, tk, os⟩) l items := ⟨_, hl, rfl, n, rfl⟩
    wp_walk using wpAny_loadPart' hl
    refine wpAny_stack_any fun st => wpAny_pure ?_
    split
    · rename_i c _ _ _ _ _
      cases (c == Value.type "enumerate")
      · wp_walk using wpAny_loadPart' hl, wpAny_pyIter_tuple hL
        exact ⟨_, rfl, h⟩
      · wp_walk using wpAny_loadPart' hl, wpAny_pyIter_tuple hL
        exact ⟨_, rfl, h⟩
    · wp_walk using wpAny_loadPart' hl, wpAny_pyIter_tuple hL
      exact ⟨_, rfl, h⟩
section
variable {prog : Program} {w : World} {A : Around} {E : Value → Shared → Prop} {s : Shared}
theorem call_enum_tup {l : Addr} {items : Array Value} {Q : Value → Shared → Prop} (hL : s.heap.IsTuple l items)
    (h : ∀ h', IsEnum h' (s.heap.objs.size + 1) s.heap.objs.size 0 .none → h'.IsTupleIter s.heap.objs.size l 0 → h'.objs.size = s.heap.objs.size + 2 →
      (∀ b o, s.heap.get? b = some o → h'.get? b = some o) → Q (.ref (s.heap.objs.size + 1)) { s with heap := h' }) :
    wpAny (model prog w) A (call (.type "enumerate") [.ref l]) Q E s := by
  obtain ⟨⟨c, dct, dt, sl⟩, hl, hc, n, hd⟩ := hL
  replace hc : c = .type "tuple" := hc
  replace hd : dt = .seq items n := hd
  subst hc hd
  refine callType_new F.called_enumerate (by decide) (F.typeCall_enumerate_1 _) (F.newCall_enumerate_1 _) (fun obj => F.args_object_init_2 obj _) F.entry_enumerate_new
    (meets_enum_tup l items n dct sl) ⟨hl, ?_⟩
  have hz : (s.heap.push { cls := .type "tuple_iterator", data := .fields #[.ref l, .int 0 0] }).objs.size = s.heap.objs.size + 1 := Heap.size_push ..
  show _ ∧ _
  rw [hz]
  have he : IsEnum ((s.heap.push { cls := .type "tuple_iterator", data := .fields #[.ref l, .int 0 0] }).push
      { cls := .type "enumerate", data := .fields #[.none, .bool false, .ref s.heap.objs.size, rawInt 0, .none, .none] }) (s.heap.objs.size + 1) s.heap.objs.size 0 .none := by
    have := Heap.get?_push_size (s.heap.push { cls := .type "tuple_iterator", data := .fields #[.ref l, .int 0 0] })
      (o := { cls := .type "enumerate", data := .fields #[.none, .bool false, .ref s.heap.objs.size, rawInt 0, .none, .none] }) rfl
    rw [hz] at this; exact this
  exact ⟨⟨_, he, rfl⟩, h _ he ⟨_, Heap.get?_push_of_some _ (Heap.get?_push_size _ rfl), rfl, rfl⟩ (by rw [Heap.size_push, hz]) fun b o x => Heap.get?_push_of_some _ (Heap.get?_push_of_some _ x)⟩
end
def IteT (K : PySem.W.Frag) (a : Addr) : It :=
  ⟨fun i H => ∃ (xs : List V), SqT K H a xs ∧ i < xs.length, fun i H v H' => ∃ T x, v = .ref T ∧ H T = none ∧ H' = upd H T (.tup [.int (i : Nat), x]) ∧ ∀ xs, SqT K H a xs → xs[i]? = some x, fun i H => ∃ xs : List V, SqT K H a xs ∧ xs.length = i⟩
theorem turn_enumT {P : Program} {w : World} {K : PySem.W.Frag} {elts : List Expr} {kk : Nat} {tpos : Pos} (a e it : Addr) :
    Turn P w K (.Tuple elts kk tpos) (IteT K a) [e, it] e (fun i h => (∃ old, IsEnum h e it ((i : Nat) : Int) old) ∧ h.IsTupleIter it a i ∧ e ≠ it ∧ a ≠ it ∧ e ≠ a) where
  mem := by simp
  obj := fun i h st b hb => by
    obtain ⟨⟨old, he⟩, ⟨o, ho, hc, hd⟩, _⟩ := st
    have e' : b = e ∨ b = it := by simpa using hb
    rcases e' with z | z
    · rw [z]; exact ⟨_, he, fun v q => nomatch q⟩
    · rw [z]; exact ⟨o, ho, fun v q => by rw [hd] at q; cases q⟩
  keep := fun i h h' st k => let ⟨⟨old, he⟩, hi, hne⟩ := st; ⟨⟨old, k e (by simp) _ he⟩, hi.at fun o q => k it (by simp) o q, hne⟩
  item := by
    intro X hP hw hK hc i pins s σ H E I hf st hg
    subst hP hw hK
    obtain ⟨⟨old, he⟩, hit, hne, ha, hea⟩ := st
    obtain ⟨xs, hq, hx⟩ := hg
    obtain ⟨its, rv, p, hz⟩ := I.tuple hq
    have hl := rv.length
    have hx1 : xs[i]? = some xs[i] := List.getElem?_eq_getElem hx
    obtain ⟨u, hu, ru⟩ := rv.get hx1
    generalize xs[i] = x at hx1 ru
    have hel : e < s.heap.objs.size := Heap.lt_size he
    have hil : it < s.heap.objs.size := by obtain ⟨_, q, _⟩ := id hit; exact Heap.lt_size q
    have D := Draws.tuple (prog := X.prog) (w := X.w) (A := X.A.in1) (I.ok.hd hc) it a ha its.toArray
    refine wpAny_pyNext_enum_itemD D he ⟨hit, p⟩ (by simp; omega) hne (by simp [hne, hea]) fun u' h' tk hu' ho hit' hT hsz hk => ?_
    have hu2 : its[i]? = some u' := by simpa using hu'
    cases Option.some.inj (hu2.symm.trans hu)
    refine ⟨_, rfl, wpAny_letOwnedTupleGo_enum (s := { s with heap := h', toks := tk + 1 }) ho fun h'' he' sb => ?_⟩
    have hT2 : h''.get? s.heap.objs.size = some { cls := .type "tuple", data := .seq #[.int i tk, u] } := (sb.2 _ (Nat.ne_of_gt hel)).trans hT
    have new : ObjOk X.prog X.w (upd H s.heap.objs.size (.tup [.int (i : Nat), x])) h'' s.heap.objs.size (.tup [.int (i : Nat), x]) :=
      ⟨by show 2 ≤ sizeLine; decide, [.int i tk, u], .cons ⟨_, rfl⟩ (.cons ru .nil), ⟨_, hT2, rfl, _, rfl⟩⟩
    have I1 : Inv X pins σ (upd H s.heap.objs.size (.tup [.int (i : Nat), x])) { s with heap := h'', toks := tk + 1 } :=
      I.turnedNew (ch := [e, it]) (fun b ob hb q => (sb.2 b (fun z => hb (by simp [z]))).trans (hk b ob (fun z => hb (by simp [z])) (fun z => hb (by simp [z])) q)) hf (Nat.le_refl _) new
    refine ⟨.ref s.heap.objs.size, _, I1, rfl, ⟨_, x, rfl, I.hok.fresh (Nat.le_refl _), rfl, fun ys hy => by rw [I.tuple_inj hy hq]; exact hx1⟩, ⟨⟨u, ?_⟩, hit'.1.at fun o q => (sb.2 it (Ne.symm hne)).trans q, hne, ha, hea⟩, fun b hb => ?_⟩
    · have e1 : ((i + 1 : Nat) : Int) = (i : Int) + 1 := by omega
      rw [e1]; exact he'
    · have hb' : b < s.heap.objs.size := by
        have e' : b = e ∨ b = it := by simpa using hb
        rcases e' with z | z
        · rw [z]; exact hel
        · rw [z]; exact hil
      rw [upd_ne (Nat.ne_of_lt hb')]
      exact (hf b hb).1
  done := by
    intro X hP hw hK hc i pins s σ H E I hf st hg
    subst hP hw hK
    obtain ⟨⟨old, he⟩, hit, hne, ha, hea⟩ := st
    obtain ⟨xs, hq, hx⟩ := hg
    obtain ⟨its, rv, p, hz⟩ := I.tuple hq
    have hl := rv.length
    have D := Draws.tuple (prog := X.prog) (w := X.w) (A := X.A.in1) (I.ok.hd hc) it a ha its.toArray
    have e1 : i = its.toArray.size := by simp; omega
    subst e1
    exact wpAny_pyNext_enum_endD D he ⟨hit, p⟩ fun h' eb => ⟨rfl, I.turnedL (t' := s.toks) (ch := [e, it]) (fun b o hb q => eb b o (fun z => hb (by simp [z])) q) hf⟩
  self := fun A i s Q E st h => let ⟨⟨_, he⟩, _⟩ := st; wpAny_pyIter_enum he h
def iEnumA (K : PySem.W.Frag) (ta : TA) : TI := fun σ H R => ta σ H fun vs H1 => ∃ a xs, vs = [.ref a] ∧ ((SqL K H1 a xs ∧ R (Ite K a) H1) ∨ (SqT K H1 a xs ∧ R (IteT K a) H1))
theorem pi_enumA {X : Cx} {e : Expr} {ta : TA} {p pos tpos : Pos} {elts : List Expr} {kk : Nat} (hg : Gl X "enumerate") (hm : X.mg "enumerate" = none) (ha : PA X [e] ta) (hs : starEach [e] X.env = [(false, eval e X.env)] := by rfl) :
    PI X (.Tuple elts kk tpos) (.Call (.Name "enumerate" p) [e] [] pos) (iEnumA X.K ta) := by
  refine ⟨fun pins s σ H R I h => ?_⟩
  refine Call_ (ld_blt I hg hm boot_enumerate (PyProof.Rows.callWith_type1 (thn (ha.run pos pins s σ H _ I h) fun us s1 ⟨vs, H1, I1, r1, q1⟩ => ?_) hs rfl))
  obtain ⟨a, xs, ex, q⟩ := q1
  subst ex
  cases r1 with
  | cons r rr =>
    cases rr
    cases r
    have fresh : ∀ b, b ∈ [s1.heap.objs.size + 1, s1.heap.objs.size] → FpOk X pins H1 b := fun b hb => by
      have e' : b = s1.heap.objs.size + 1 ∨ b = s1.heap.objs.size := by simpa using hb
      have hle : s1.heap.objs.size ≤ b := by
        rcases e' with z | z
        · rw [z]; exact Nat.le_add_right _ _
        · rw [z]; exact Nat.le_refl _
      exact I1.fpOk hle (I1.hok.fresh hle)
    rcases q with ⟨hq, q⟩ | ⟨hq, q⟩
    · obtain ⟨its, rv, p', hz⟩ := I1.list hq
      refine call_enumerate_list p'.isList fun h' he hit hsz hk => wpAny_pyIter_enum he ?_
      have I2 : Inv X pins σ H1 { s1 with heap := h' } := I1.kept (t' := s1.toks) hk
      exact ⟨s1.heap.objs.size + 1, [s1.heap.objs.size + 1, s1.heap.objs.size], _, _, H1, rfl, I2, turn_enum a (s1.heap.objs.size + 1) s1.heap.objs.size, ⟨⟨.none, he⟩, hit, Nat.succ_ne_self _⟩, fresh, q⟩
    · obtain ⟨its, rv, p', hz⟩ := I1.tuple hq
      have hlt : a < s1.heap.objs.size := by obtain ⟨o, ho, _⟩ := id p'; exact Heap.lt_size ho
      refine call_enum_tup (show s1.heap.IsTuple a its.toArray from p') fun h' he hit hsz hk => wpAny_pyIter_enum he ?_
      have I2 : Inv X pins σ H1 { s1 with heap := h' } := I1.kept (t' := s1.toks) hk
      exact ⟨s1.heap.objs.size + 1, [s1.heap.objs.size + 1, s1.heap.objs.size], _, _, H1, rfl, I2, turn_enumT a (s1.heap.objs.size + 1) s1.heap.objs.size, ⟨⟨.none, he⟩, hit, Nat.succ_ne_self _, Nat.ne_of_lt hlt, Ne.symm (Nat.ne_of_lt (Nat.lt_succ_of_lt hlt))⟩, fresh, q⟩
section
variable {K : PySem.W.Frag} {p : Option Addr} {G1 : Hp} {a : Addr} {xs : List V} {ds : List PyData}
theorem walk_enumT : Walk (IteT K a) xs.length (fun H => SqT K H a xs) (YPair (fun i => some (.int (i : Nat))) (fun i => xs[i]?)) := by
  refine ⟨fun i _ hi q => ⟨xs, q, hi⟩, fun _ q => ⟨xs, q, rfl⟩, fun i H v H' _ q y => ?_⟩
  obtain ⟨T, x, h1, h2, h3, h4⟩ := y
  exact ⟨T, .int (i : Nat), x, h1, h2, h3, rfl, h4 xs q⟩
theorem wd_enumT (hs : SqT K G1 a xs) (ha : DpAll K G1 xs ds) : WalkD K p (fun G2 _ => Same G1 G2) (IteT K a) (enD ds) := by
  have hl := dpA_len ha
  refine wd_pair (by simp [enD, hl]) walk_enumT (fun G H r j => sqT_mono (r.trans j.sub) hs) fun i x y hi hx hy => ?_
  cases hx
  obtain ⟨d, hd, dv⟩ := dpA_at ha hy
  refine ⟨.int (i : Nat), d, ?_, .int _, dv⟩
  simp [enD, hd]
end
def enumDA (ds : List PyData) (Ψ : List PyData → Prop) : Prop := match ds with
  | [.list ds] => Ψ (enD ds)
  | [.tuple ds] => Ψ (enD ds)
  | _ => False
def vEnumA (f : WL) : WL := fun E Ψ => f E fun ds => enumDA ds Ψ
theorem di_enumA {X : Cx} {p : Option Addr} {e : Expr} {tA : TA} {fA : WL} {pos px : Pos} {elts : List Expr} {kk : Nat} {tpos : Pos} (hg : Gl X "enumerate") (hm : X.mg "enumerate" = none) (ha : DA X p [e] tA fA) (hs : starEach [e] X.env = [(false, eval e X.env)] := by rfl) :
    DI X p (.Tuple elts kk tpos) (.Call (.Name "enumerate" px) [e] [] pos) (iEnumA X.K tA) (vEnumA fA) := by
  refine ⟨pi_enumA hg hm ha.py hs, fun E Ψ q => ?_⟩
  intro H0 G H σ j en R z
  refine ha.ok E _ q H0 G H σ j en _ fun vs ds G1 H1 x1 j1 dv hd => ?_
  have hd2 := hd.2
  unfold enumDA at hd2
  split at hd2
  · rename_i ds
    cases dv with
    | cons d1 dr =>
      cases dr
      obtain ⟨a, xs, rfl, hs, ha⟩ := dp_lst d1
      exact ⟨a, xs, rfl, Or.inl ⟨j1.sub.seq hs, z _ _ G1 H1 x1 j1 (wd_enum hs ha) hd2⟩⟩
  · rename_i ds
    cases dv with
    | cons d1 dr =>
      cases dr
      obtain ⟨a, xs, rfl, hs, ha⟩ := dp_tup d1
      exact ⟨a, xs, rfl, Or.inr ⟨sqT_mono j1.sub hs, z _ _ G1 H1 x1 j1 (wd_enumT hs ha) hd2⟩⟩
  · exact hd2.elim
end Rim

/-! RimV: a, b = e, f, where lists of one's own may come. -/
namespace Rim
open PySem PySem.Spec PyProof.Rows L2
variable [Tabs]
/-- what has come: a datum, or a new list of one's own -/
def SlV (K : PySem.W.Frag) (H G' H' : Hp) (v : V) : Sl → Prop
  | .d d => Dp K G' v d
  | .m ds => ∃ l vs, v = .ref l ∧ H l = none ∧ H' l = some (.lst vs) ∧ G' l = none ∧ DpAll K G' vs ds
  | _ => False
def W1 (K : PySem.W.Frag) (p : Option Addr) (E : Ev) (t : TE) (Θ : Sl → Prop) : Prop :=
  ∀ (H0 G H : Hp) (σ : L2.St), J p G H → EnvOk K p H0 G H σ E → ∀ Q : VK,
    (∀ v s G' H', Xt p G H G' H' → J p G' H' → SlV K H G' H' v s → Θ s → Q v H') → t σ H Q
structure DX (X : Cx) (p : Option Addr) (e : Expr) (t : TE) (f : Ev → (Sl → Prop) → Prop) : Prop where
  py : PE X e t
  ok : ∀ E Θ, f E Θ → W1 X.K p E t Θ
def fD (f : WE) : Ev → (Sl → Prop) → Prop := fun E Θ => f E fun d => Θ (.d d)
def fM (f : WL) : Ev → (Sl → Prop) → Prop := fun E Θ => f E fun ds => Θ (.m ds)
section
variable {X : Cx} {p : Option Addr} {e : Expr} {te : TE} {fe : WE} {ga : WL}
theorem dx_d (h : DE X p e te fe) : DX X p e te (fD fe) := ⟨h.py, fun E Θ q => fun H0 G H σ j en Q z => h.ok E _ q H0 G H σ j en Q fun v d G' H' x' j' dv hd => z v (.d d) G' H' x' j' dv hd⟩
theorem dx_m (h : DM X p e te ga) : DX X p e te (fM ga) := ⟨h.py, fun E Θ q => fun H0 G H σ j en Q z => h.ok E _ q H0 G H σ j en Q fun l vs ds G' H' x' j' hn hl hg dv hd => z (.ref l) (.m ds) G' H' x' j' ⟨l, vs, rfl, hn, hl, hg, dv⟩ hd⟩
end
section
variable {K : PySem.W.Frag} {p : Option Addr} {E : Ev} {N : Ev → Prop} {R : PyData → Prop} {B C : Ev → Prop} {G0 H0 G H : Hp} {σ : L2.St}
/-- two values come one after the other, then they are stored: i first -/
theorem two_come {i k : Nat} {s t : Sl} {v w : V} {G1 H1 G2 H2 : Hp} (hi : i < E.length) (hk : k < E.length) (hik : i ≠ k) (x : Xt p G0 H0 G H) (j : J p G H) (e : EnvOk K p H0 G H σ E) (x1 : Xt p G H G1 H1) (j1 : J p G1 H1) (hv : SlV K H G1 H1 v s) (x2 : Xt p G1 H1 G2 H2) (j2 : J p G2 H2) (hw : SlV K H1 G2 H2 w t) :
    EnvOk K p H0 G2 H2 ((σ.set i (some v)).set k (some w)) ((E.set i s).set k t) := by
  have e2 := (e.mono x1).mono x2
  have li : i < σ.length := by rw [e.len]; exact hi
  have lk : k < (σ.set i (some v)).length := by rw [List.length_set, e.len]; exact hk
  -- the first is stored
  have f1 : EnvOk K p H0 G2 H2 (σ.set i (some v)) (E.set i s) := by
    cases s with
    | d d => exact e2.setD li (dp_mono x2.gg d v hv)
    | m ds =>
      obtain ⟨l, vs, rfl, hn, hl, hg, dv⟩ := hv
      have hp := j.ne hn
      refine e2.setM li (fun a es m h1 h2 => ?_) (x2.hh l _ hp (fun _ z => by cases z) hl) (dpA_mono x2.gg _ _ dv) (x2.fr l hp (by rw [hl]; exact Option.some_ne_none _) hg) hp (x.fresh j hn)
      obtain ⟨l', vs', z1, z2, _⟩ := e.own h1
      rw [z1] at h2
      cases h2
      exact ne_of_none z2 hn
    | _ => exact hv.elim
  cases t with
  | d d => exact f1.setD lk hw
  | m ds =>
    obtain ⟨l, vs, rfl, hn, hl, hg, dv⟩ := hw
    have hp := j1.ne hn
    refine f1.setM lk (fun a es m h1 h2 => ?_) hl dv hg hp ((x.trans x1).fresh j1 hn)
    obtain ⟨l', vs', z1, z2, _, _, z5, _⟩ := f1.own h1
    rw [z1] at h2
    cases h2
    -- an own list that stands there stood already when the second came
    by_cases q : a = i
    · subst q
      rw [get_set li, if_pos rfl] at z1
      rw [get_set hi, if_pos rfl] at h1
      cases z1
      cases h1
      obtain ⟨l3, vs3, e3, _, e5, _⟩ := hv
      cases e3
      exact ne_of_none e5 hn
    · rw [get_set li, if_neg q] at z1
      rw [get_set hi, if_neg q] at h1
      obtain ⟨l3, vs3, y1, y2, _⟩ := (e.mono x1).own h1
      rw [z1] at y1
      cases y1
      exact ne_of_none y2 hn
  | _ => exact hw.elim
end
/-- i, k = f, g -/
def vPar2 (i k : Nat) (f g : Ev → (Sl → Prop) → Prop) : WS := fun E P => f E fun s => g E fun t => puE E i s fun E1 => puE E1 k t P.N
section
variable {X : Cx} {p : Option Addr} {a b : Expr} {ta tb : TE} {fa fb : Ev → (Sl → Prop) → Prop} {pos : Pos}
theorem W1.at {K : PySem.W.Frag} {E : Ev} {t : TE} {Θ : Sl → Prop} (h : W1 K p E t Θ) : ∀ (H0 G H : Hp) (σ : L2.St), J p G H → EnvOk K p H0 G H σ E → ∀ Q : VK,
    (∀ v s G' H', Xt p G H G' H' → J p G' H' → SlV K H G' H' v s → Θ s → Q v H') → t σ H Q := h
theorem S_parM {i k : Nat} {P : Post} {E : Ev} (hik : i ≠ k) (ha : DX X p a ta fa) (hb : DX X p b tb fb) (q : vPar2 i k fa fb E P) : S X.K p E (tPar i k (tCons ta (tCons tb tNil))) P.N P.R P.B P.C := fun G0 H0 G H σ x j e D z => by
  refine ha.ok E _ q H0 G H σ j e _ fun v s G1 H1 x1 j1 hv h1 => ?_
  refine hb.ok E _ h1 H0 G1 H1 σ j1 (e.mono x1) _ fun w t G2 H2 x2 j2 hw h2 => ?_
  obtain ⟨hi, h3⟩ := puE_ok h2
  obtain ⟨hk, h4⟩ := puE_ok h3
  rw [List.length_set] at hk
  exact ⟨v, w, rfl, z.nx _ _ G2 H2 ((x.trans x1).trans x2) j2 (two_come hi hk hik x j e x1 j1 hv x2 j2 hw) h4⟩
theorem ds_parM {i k : Nat} {x y : Str} {px py pt : Pos} {kt k2 pt2} (hc : X.calm = true) (hN : X.N.Nodup) (hi : X.N[i]? = some x) (hj : X.N[k]? = some y) (hij : i ≠ k)
    (hx : X.env.scope.names.lookup x = some .local) (hy : X.env.scope.names.lookup y = some .local) (ha : DX X p a ta fa) (hb : DX X p b tb fb)
    (hw : swappedStores [.Tuple [.Name x px, .Name y py] kt pt] (.Tuple [a, b] k2 pt2) X.env = pure (some [x, y]))
    (hs : swapsWithSole [.Tuple [.Name x px, .Name y py] kt pt] (.Tuple [a, b] k2 pt2) pos.line X.env = pure false := by rfl)
    (na : starEach [a, b] X.env = (false, eval a X.env) :: starEach [b] X.env := by rfl) (nb : starEach [b] X.env = (false, eval b X.env) :: starEach [] X.env := by rfl) :
    DS X p (.Assign [.Tuple [.Name x px, .Name y py] kt pt] (.Tuple [a, b] k2 pt2) pos) (tPar i k (tCons ta (tCons tb tNil))) (vPar2 i k fa fb) :=
  ⟨ps_par hc hN hi hj hij hx hy (pa_cons ha.py (pa_cons hb.py pa_nil nb) na) hw hs, fun E P q => S_parM hij ha hb q⟩
theorem S_asgM2x {i k : Nat} {P : Post} {E : Ev} (hik : i ≠ k) (ha : DX X p a ta fa) (hb : DX X p b tb fb) (q : vPar2 i k fa fb E P) : S X.K p E (tAsg (tTup (tCons ta (tCons tb tNil))) (gBoth X.K 2 (gCons (gName i) (gCons (gName k) gNil)))) P.N P.R P.B P.C := fun G0 H0 G H σ x j e D z => by
  refine ha.ok E _ q H0 G H σ j e _ fun v s G1 H1 x1 j1 hv h1 => ?_
  refine hb.ok E _ h1 H0 G1 H1 σ j1 (e.mono x1) _ fun w t G2 H2 x2 j2 hw h2 => ?_
  obtain ⟨hi, h3⟩ := puE_ok h2
  obtain ⟨hk, h4⟩ := puE_ok h3
  rw [List.length_set] at hk
  refine ⟨by rw [sizeLine_eq]; show 2 ≤ 16777216; decide, fun T hT => Or.inl ⟨T, [v, w], rfl, SqT.of upd_same, rfl, v, [w], rfl, w, [], rfl, rfl, ?_⟩⟩
  have x3 := Xt.made (p := p) (o := .tup [v, w]) j2 hT
  exact z.nx _ _ G2 _ (((x.trans x1).trans x2).trans x3) (j2.madeN hT) ((two_come hi hk hik x j e x1 j1 hv x2 j2 hw).mono x3) h4
theorem ds_asgM {i k : Nat} {tg : Expr} {k2 : Nat} {pt2 : Pos} {vs : List Nat} {fg : WG} (hik : i ≠ k) (ha : DX X p a ta fa) (hb : DX X p b tb fb) (hg : DV X p tg (gBoth X.K 2 (gCons (gName i) (gCons (gName k) gNil))) vs fg)
    (hs : swapsWithSole [tg] (.Tuple [a, b] k2 pt2) pos.line X.env = pure false := by rfl) (hw : swappedStores [tg] (.Tuple [a, b] k2 pt2) X.env = pure none := by rfl)
    (h1 : (assignEach [tg] X.env).map (·.2) = [assign tg X.env] := by rfl)
    (na : starEach [a, b] X.env = (false, eval a X.env) :: starEach [b] X.env := by rfl) (nb : starEach [b] X.env = (false, eval b X.env) :: starEach [] X.env := by rfl) :
    DS X p (.Assign [tg] (.Tuple [a, b] k2 pt2) pos) (tAsg (tTup (tCons ta (tCons tb tNil))) (gBoth X.K 2 (gCons (gName i) (gCons (gName k) gNil)))) (vPar2 i k fa fb) :=
  ⟨ps_asg (pe_tup (pa_cons ha.py (pa_cons hb.py pa_nil nb) na)) hg.py hs hw h1, fun E P q => S_asgM2x hik ha hb q⟩
end
end Rim

/-! RimX: defs that hand back several lists of one's own at once, and who takes them; two stores at once. -/
namespace Rim
open PySem PySem.Spec PyProof.Rows L2
variable [Tabs]

/-! ### several that have come -/
inductive Come (K : PySem.W.Frag) (H G' H' : Hp) : List V → List Sl → Prop
  | nil : Come K H G' H' [] []
  | cons {v : V} {s : Sl} {us : List V} {ss : List Sl} : SlV K H G' H' v s → Come K H G' H' us ss → Come K H G' H' (v :: us) (s :: ss)
/-- where the lists of one's own among them stand -/
def ownA : List V → List Sl → List Addr
  | .ref l :: us, .m _ :: ss => l :: ownA us ss
  | _ :: us, _ :: ss => ownA us ss
  | _, _ => []
theorem ownA_m {l : Addr} {ds : List PyData} {us : List V} {ss : List Sl} : ownA (.ref l :: us) (.m ds :: ss) = l :: ownA us ss := rfl
theorem ownA_d {v : V} {d : PyData} {us : List V} {ss : List Sl} : ownA (v :: us) (.d d :: ss) = ownA us ss := by
  cases v <;> rfl
structure TupV (K : PySem.W.Frag) (H G' H' : Hp) (v : V) (ss : List Sl) : Prop where
  ex : ∃ t us, v = .ref t ∧ SqT K G' t us ∧ Come K H G' H' us ss ∧ (ownA us ss).Nodup
theorem Come.len {K : PySem.W.Frag} {H G' H' : Hp} : ∀ {us : List V} {ss : List Sl}, Come K H G' H' us ss → us.length = ss.length
  | _, _, .nil => rfl
  | _, _, .cons _ t => by rw [List.length_cons, List.length_cons, t.len]
theorem Come.own {K : PySem.W.Frag} {H G' H' : Hp} : ∀ {us : List V} {ss : List Sl}, Come K H G' H' us ss → ∀ l ∈ ownA us ss, H l = none
  | _, _, .nil, _, h => by cases h
  | _, _, .cons (s := s) a t, l, h => by
    cases s with
    | d d =>
      rw [ownA_d] at h
      exact t.own l h
    | m ds =>
      obtain ⟨m, vs, rfl, hn, _⟩ := a
      rw [ownA_m] at h
      rcases List.mem_cons.mp h with h | h
      · rw [h]; exact hn
      · exact t.own l h
    | un => exact a.elim
    | v x => exact a.elim
theorem SlV.back {K : PySem.W.Frag} {H H1 G' H' : Hp} (hb : ∀ l, H1 l = none → H l = none) {v : V} {s : Sl} (h : SlV K H1 G' H' v s) : SlV K H G' H' v s := by
  cases s with
  | d d => exact h
  | m ds =>
    obtain ⟨l, vs, e, hn, r⟩ := h
    exact ⟨l, vs, e, hb l hn, r⟩
  | un => exact h
  | v x => exact h
theorem Come.back {K : PySem.W.Frag} {H H1 G' H' : Hp} (hb : ∀ l, H1 l = none → H l = none) : ∀ {us : List V} {ss : List Sl}, Come K H1 G' H' us ss → Come K H G' H' us ss
  | _, _, .nil => .nil
  | _, _, .cons a t => .cons (a.back hb) (t.back hb)
theorem Xt.none_back {p : Option Addr} {G H G1 H1 : Hp} (x : Xt p G H G1 H1) {l : Addr} (hp : p ≠ Option.some l) (h : H1 l = none) : H l = none := by
  cases z : H l with
  | none => rfl
  | some o =>
    rw [(x.some hp z).choose_spec] at h
    cases h

/-! ### expressions of which such a tuple comes -/
abbrev WXE := Ev → (List Sl → Prop) → Prop
abbrev WFX := List PyData → (List Sl → Prop) → Prop
def WX (K : PySem.W.Frag) (p : Option Addr) (E : Ev) (t : TE) (Θ : List Sl → Prop) : Prop :=
  ∀ (H0 G H : Hp) (σ : L2.St), J p G H → EnvOk K p H0 G H σ E → ∀ Q : VK,
    (∀ v ss G' H', Xt p G H G' H' → J p G' H' → TupV K H G' H' v ss → Θ ss → Q v H') → t σ H Q
structure DR (X : Cx) (p : Option Addr) (e : Expr) (t : TE) (f : WXE) : Prop where
  py : PE X e t
  ok : ∀ E Θ, f E Θ → WX X.K p E t Θ
def spX (K : PySem.W.Frag) (n : Nat) (F : WFX) : Sp := fun vs H Q _ =>
  vs.length = n ∧ ∃ (p : Option Addr) (G : Hp) (ds : List PyData) (Θ : List Sl → Prop), J p G H ∧ DpAll K G vs ds ∧ F ds Θ ∧
    ∀ v ss G' H', Xt p G H G' H' → J p G' H' → TupV K H G' H' v ss → Θ ss → Q v H'
def mkX (n m : Nat) (b : WXE) : WFX := fun ds Θ => ds.length = n ∧ b (ends ds m) Θ
def AriX (n : Nat) (F : WFX) : Prop := ∀ ds Θ, F ds Θ → ds.length = n
theorem mkX_ari {n m : Nat} {b : WXE} : AriX n (mkX n m b) := fun _ _ h => h.1
def vCallX (F : WFX) (f : WL) : WXE := fun E Θ => f E fun xs => F xs Θ
section
variable {X : Cx} {p : Option Addr} {e : Expr} {es : List Expr} {te : TE} {tA : TA} {fA : WL} {fx : WXE} {pos : Pos} {CX : CXT} {k n : Nat} {f : Addr} {fd : FuncData} {ps : List Str} {F : WFX} {E0 : XK} {x : Str} {px : Pos}
theorem dr_call (hf : FnG X.prog X.w X.K X.mg X.base CX k f fd ps (spX X.K n F)) (hF : AriX n F) (hr : Room k X.A) (hgu : X.A.guards = some [])
    (hg : Gl X x) (hm : X.mg x = some (.ref f)) (hk : PySem.W.keepIn X.K (.ref f) = true) (hb : Binds X.K fd ps []) (hx : Passes CX X E0) (ha : DA X p (e :: es) tA fA)
    (hdb : (x == ("__debug__" : Str)) = false := by decide)
    (he : starEach (e :: es) X.env = (false, eval e X.env) :: starEach es X.env := by rfl)
    (hpl : (backTo pos (starEach es X.env)).any (·.1) = false := by rfl) :
    DR X p (.Call (.Name x px) (e :: es) [] pos) (tCall (spX X.K n F) [] E0 tA) (vCallX F fA) := by
  refine ⟨pe_callG hf hr hgu hg hm hk hb .nil hx ha.py hdb he hpl, fun E Θ q => ?_⟩
  intro H0 G H σ j e Q z
  refine ha.ok E _ q H0 G H σ j e _ fun vs xs G1 H1 x1 j1 dvs h1 => ?_
  rw [List.append_nil]
  refine ⟨(dpA_len dvs).trans (hF _ _ h1.2), p, G1, xs, Θ, j1, dvs, h1.2, fun v ss G2 H2 x2 j2 dv hd => ?_⟩
  obtain ⟨t, us, e1, e2, e3, e4⟩ := dv.ex
  refine z v ss G2 H2 (x1.trans x2) j2 ⟨⟨t, us, e1, e2, ?_, e4⟩⟩ hd
  -- what is new for the def is new for the caller
  have key : ∀ {us : List V} {ss : List Sl}, Come X.K H1 G2 H2 us ss → Come X.K H G2 H2 us ss := fun c => by
    induction c with
    | nil => exact .nil
    | cons a t ih =>
      refine .cons ?_ ih
      rename_i v s us ss
      cases s with
      | d d => exact a
      | m ds =>
        obtain ⟨l, vs, e, hn, r⟩ := a
        exact ⟨l, vs, e, x1.none_back (j1.ne hn) hn, r⟩
      | un => exact a
      | v x => exact a
  exact key e3
end

/-! ### who takes them -/
def puEs : Ev → List Nat → List Sl → (Ev → Prop) → Prop
  | E, [], [], N => N E
  | E, i :: is, s :: ss, N => puE E i s fun E1 => puEs E1 is ss N
  | _, _, _, _ => False
def gNames : List Nat → TGs
  | [] => gNil
  | i :: is => gCons (gName i) (gNames is)
def vAsgX (is : List Nat) (f : WXE) : WS := fun E P => f E fun ss => puEs E is ss P.N
section
variable {K : PySem.W.Frag} {p : Option Addr} {H0 G H Hc : Hp}
theorem come_set : ∀ {is : List Nat} {us : List V} {ss : List Sl} {σ : L2.St} {E : Ev} {N : Ev → Prop} {Q : L2.St → Hp → Prop}, EnvOk K p H0 G H σ E → Come K Hc G H us ss → (ownA us ss).Nodup →
    (∀ (i : Nat) (es : List PyData) (m : Addr), E[i]? = some (.m es) → σ[i]? = some (some (.ref m)) → m ∉ ownA us ss) → (∀ l, Hc l = none → p ≠ some l ∧ H0 l = none) →
    puEs E is ss N → (∀ σ' E', EnvOk K p H0 G H σ' E' → N E' → Q σ' H) → gNames is us σ H Q
  | [], us, ss, σ, E, N, Q, e, c, nd, hd, hc, q, z => by
    cases c with
    | nil => exact ⟨rfl, z σ E e q⟩
    | cons _ _ => exact q.elim
  | i :: is, us, ss, σ, E, N, Q, e, c, nd, hd, hc, q, z => by
    cases c with
    | nil => exact q.elim
    | cons a t =>
      rename_i v s us ss
      obtain ⟨hi, q⟩ := puE_ok (N := fun E1 => puEs E1 is ss N) q
      have li : i < σ.length := by rw [e.len]; exact hi
      refine ⟨v, us, rfl, ?_⟩
      cases s with
      | d d =>
        rw [ownA_d] at nd hd
        refine come_set (e.setD li a) t nd (fun b es m h1 h2 => ?_) hc q z
        rw [get_set hi] at h1
        rw [get_set li] at h2
        by_cases w : b = i
        · rw [if_pos w] at h1
          cases h1
        · rw [if_neg w] at h1 h2
          exact hd b es m h1 h2
      | m ds =>
        obtain ⟨l, vs, rfl, hn, hl, hg, dv⟩ := a
        rw [ownA_m] at nd hd
        obtain ⟨hp, h0⟩ := hc l hn
        refine come_set (e.setM li (fun b es m h1 h2 w => hd b es m h1 h2 (by rw [w]; exact List.mem_cons_self ..)) hl dv hg hp h0) t (List.nodup_cons.mp nd).2 (fun b es m h1 h2 => ?_) hc q z
        rw [get_set hi] at h1
        rw [get_set li] at h2
        by_cases w : b = i
        · rw [if_pos w] at h2
          cases h2
          exact (List.nodup_cons.mp nd).1
        · rw [if_neg w] at h1 h2
          exact fun y => hd b es m h1 h2 (List.mem_cons_of_mem _ y)
      | un => exact a.elim
      | v x => exact a.elim
end
section
variable {X : Cx} {p : Option Addr} {tg e : Expr} {te : TE} {fx : WXE} {pos : Pos}
theorem ds_asgX {is : List Nat} {n : Nat} {vs : List Nat} {fg : WG} (hn : is.length = n) (he : DR X p e te fx) (hg : DV X p tg (gBoth X.K n (gNames is)) vs fg) (hs : swapsWithSole [tg] e pos.line X.env = pure false := by rfl) (hw : swappedStores [tg] e X.env = pure none := by rfl)
    (h1 : (assignEach [tg] X.env).map (·.2) = [assign tg X.env] := by rfl) : DS X p (.Assign [tg] e pos) (tAsg te (gBoth X.K n (gNames is))) (vAsgX is fx) := by
  refine ⟨ps_asg he.py hg.py hs hw h1, fun E P q => ?_⟩
  intro G0 H0 G H σ x j e D z
  refine he.ok E _ q H0 G H σ j e _ fun v ss G1 H1 x1 j1 tv hss => ?_
  obtain ⟨t, us, rfl, e2, e3, e4⟩ := tv.ex
  have hl : us.length = n := by
    have l1 := e3.len
    have key : ∀ {is : List Nat} {ss : List Sl} {E : Ev} {N : Ev → Prop}, puEs E is ss N → ss.length = is.length := fun {is} => by
      induction is with
      | nil =>
        intro ss E N h
        cases ss with
        | nil => rfl
        | cons _ _ => exact h.elim
      | cons i is ih =>
        intro ss E N h
        cases ss with
        | nil => exact h.elim
        | cons s ss =>
          obtain ⟨_, h2⟩ := puE_ok (N := fun E1 => puEs E1 is ss N) h
          rw [List.length_cons, List.length_cons, ih h2]
    rw [l1, key hss, hn]
  refine Or.inl ⟨t, us, rfl, sqT_mono j1.sub e2, hl, ?_⟩
  refine come_set (Hc := H) (e.mono x1) e3 e4 (fun i es m h1 h2 w => ?_) (fun l hl => ⟨j.ne hl, x.fresh j hl⟩) hss fun σ' E' e' k => z.nx σ' E' G1 H1 (x.trans x1) j1 e' k
  obtain ⟨l', vs', z1, z2, _⟩ := e.own h1
  rw [z1] at h2
  cases h2
  exact ne_of_none z2 (e3.own _ w) rfl
end

/-! ### defs that hand them back -/
def SX (K : PySem.W.Frag) (p : Option Addr) (E : Ev) (t : TS) (Θ : List Sl → Prop) : Prop :=
  ∀ (G0 H0 G H : Hp) (σ : L2.St), Xt p G0 H0 G H → J p G H → EnvOk K p H0 G H σ E → ∀ D : Ends,
    (∀ v ss G' H', Xt p G0 H0 G' H' → J p G' H' → TupV K H0 G' H' v ss → Θ ss → D.rt v H') → t D σ H
structure DSX (X : Cx) (p : Option Addr) (ss : List Stmt) (t : TS) (f : WXE) : Prop where
  py : PSs X ss t
  ok : ∀ E Θ, f E Θ → SX X.K p E t Θ
def vSeqX (f : WS) (g : WXE) : WXE := fun E Θ => f E ⟨fun E' => g E' Θ, fun _ => False, Nev, Nev⟩
section
variable {X : Cx} {p : Option Addr} {s : Stmt} {ss : List Stmt} {ts us : TS} {fs : WS} {gm : WXE} {pos : Pos}
theorem dsx_cons (h : DS X p s ts fs) (k : DSX X p ss us gm) : DSX X p (s :: ss) (tSeq ts us) (vSeqX fs gm) :=
  ⟨pss_cons h.py k.py, fun E Θ q => fun G0 H0 G H σ x j e D z => (h.ok E _ q) G0 H0 G H σ x j e { D with nx := us D } ⟨fun σ' E' G' H' x' j' e' w => k.ok E' Θ w G0 H0 G' H' σ' x' j' e' D z, fun _ _ _ _ _ _ _ z => z.elim, fun _ _ _ _ _ _ _ z => z.elim, fun _ _ _ _ _ _ _ z => z.elim⟩⟩
def isDM : Sl → Prop
  | .d _ => True
  | .m _ => True
  | _ => False
/-- return a, b, c, all names -/
def vRetX (is : List Nat) : WXE := fun E Θ => (∀ i ∈ is, isDM (geE E i)) ∧ Θ (is.map (geE E))
def tVars : List Nat → TA
  | [] => tNil
  | i :: is => tCons (tVar i) (tVars is)
theorem vars_come {K : PySem.W.Frag} {p : Option Addr} {H0 G H : Hp} {σ : L2.St} {E : Ev} (e : EnvOk K p H0 G H σ E) : ∀ {is : List Nat} {Q : List V → Hp → Prop}, is.Nodup → (∀ i ∈ is, isDM (geE E i)) →
    (∀ us, Come K H0 G H us (is.map (geE E)) → (ownA us (is.map (geE E))).Nodup → (∀ l ∈ ownA us (is.map (geE E)), ∃ i ∈ is, (∃ ds, E[i]? = some (.m ds)) ∧ σ[i]? = some (some (.ref l))) → Q us H) → tVars is σ H Q
  | [], Q, _, _, z => z [] .nil List.nodup_nil fun l h => by cases h
  | i :: is, Q, nd, hi, z => by
    have h1 := hi i (List.mem_cons_self ..)
    have nd2 := List.nodup_cons.mp nd
    show ∃ v, σ[i]? = some (some v) ∧ tVars is σ H fun us H2 => Q (v :: us) H2
    cases q : geE E i with
    | un => rw [q] at h1; exact h1.elim
    | v x => rw [q] at h1; exact h1.elim
    | d d =>
      obtain ⟨v, g1, g2⟩ := e.dat (geE_ok q Sl.noConfusion)
      refine ⟨v, g1, vars_come e nd2.2 (fun k hk => hi k (List.mem_cons_of_mem _ hk)) fun us c n1 n2 => z (v :: us) ?_ ?_ ?_⟩
      · rw [List.map_cons, q]; exact .cons g2 c
      · rw [List.map_cons, q, ownA_d]; exact n1
      · rw [List.map_cons, q, ownA_d]
        exact fun l hl => (n2 l hl).elim fun k hk => ⟨k, List.mem_cons_of_mem _ hk.1, hk.2⟩
    | m ds =>
      obtain ⟨l, vs, g1, g2, g3, g4, g5, g6⟩ := e.own (geE_ok q Sl.noConfusion)
      refine ⟨.ref l, g1, vars_come e nd2.2 (fun k hk => hi k (List.mem_cons_of_mem _ hk)) fun us c n1 n2 => z (.ref l :: us) ?_ ?_ ?_⟩
      · rw [List.map_cons, q]; exact .cons ⟨l, vs, rfl, g6, g2, g4, g3⟩ c
      · rw [List.map_cons, q, ownA_m]
        refine List.nodup_cons.mpr ⟨fun w => ?_, n1⟩
        obtain ⟨k, hk, ⟨es, he⟩, hs⟩ := n2 l w
        exact e.ap i k ds es l (fun w => nd2.1 (by rw [w]; exact hk)) (geE_ok q Sl.noConfusion) he g1 hs
      · rw [List.map_cons, q, ownA_m]
        intro m hm
        rcases List.mem_cons.mp hm with hm | hm
        · exact ⟨i, List.mem_cons_self .., ⟨ds, geE_ok q Sl.noConfusion⟩, by rw [hm]; exact g1⟩
        · exact (n2 m hm).elim fun k hk => ⟨k, List.mem_cons_of_mem _ hk.1, hk.2⟩
theorem come_laid {K : PySem.W.Frag} {p : Option Addr} {H0 G H : Hp} {T : Addr} {o : HO} (j : J p G H) (hT : H T = none) : ∀ {us : List V} {ss : List Sl}, Come K H0 G H us ss → Come K H0 (upd G T o) (upd H T o) us ss
  | _, _, .nil => .nil
  | _, _, .cons (s := s) a t => by
    refine .cons ?_ (come_laid j hT t)
    have x2 := Xt.laid (p := p) j (o := o) hT
    cases s with
    | d d => exact dp_mono x2.gg d _ a
    | m ds =>
      obtain ⟨l, vs, e, hn, hl, hg, dv⟩ := a
      have hne : l ≠ T := fun w => by rw [w, hT] at hl; cases hl
      exact ⟨l, vs, e, hn, by rw [upd_ne hne]; exact hl, by rw [upd_ne hne]; exact hg, dpA_mono x2.gg ds vs dv⟩
    | un => exact a
    | v x => exact a
theorem dsx_ret {is : List Nat} {es : List Expr} {k1 : Nat} {p1 : Pos} (nd : is.Nodup) (hl : is.length ≤ 1000) (hp : PA X es (tVars is)) : DSX X p [.Return (some (.Tuple es k1 p1)) pos] (tRet (tTup (tVars is))) (vRetX is) := by
  refine ⟨pss_one (ps_ret (pe_tup hp)), fun E Θ q => ?_⟩
  intro G0 H0 G H σ x j e D z
  refine vars_come e nd q.1 fun us c n1 n2 => ⟨?_, fun T hT => ?_⟩
  · rw [c.len, List.length_map, sizeLine_eq]; omega
  · have x2 := Xt.laid (p := p) j (o := .tup us) hT
    exact z (.ref T) _ _ _ (x.trans x2) (j.laid hT) ⟨⟨T, us, rfl, SqT.of upd_same, come_laid j hT c, n1⟩⟩ q.2
end
section
variable {P : Program} {w : World} {K : PySem.W.Frag} {mg : Str → Option Value} {base : Heap} {x qual : Str} {params : Arguments} {body : List Stmt} {scope : Scope} {dvs : List V} {kws : List (Str × V)} {f : Addr} {fd : FuncData} {CX : CXT} {N ps : List Str} {k : Nat}
theorem fn_X {n m : Nat} {b : WXE} (F : FunD K x qual params body scope dvs kws f fd) (Sc : FnScope N ps scope) (hn : ps.length = n) (hN : N.length = n + m)
    (hb : ∀ (cdv : Value) (A : Around) (outer : List Env) (s : Shared) (H : Hp) (E : XK) (p : Option Addr), Room k (A.deeper (envOfC qual scope s.heap.objs.size f cdv)) → A.guards = some [] →
      ∃ t, DSX (cxOf CX P w K mg base N qual scope f cdv A outer s H E).nox p body t b) : FnG P w K mg base CX (k + 1) f fd ps (spX K n (mkX n m b)) := by
  refine FnG.of F Sc (fun vs H Q E h => h.1.trans hn.symm) fun cdv A outer s H vs Q E hr hg _ h => ?_
  obtain ⟨h1, p, G, ds, Θ, j, dv, h2, k2⟩ := h
  obtain ⟨t, ht⟩ := hb cdv A outer s H E p hr hg
  refine ⟨t, PSs.nox ht.py, ?_⟩
  obtain ⟨hl, hbb⟩ := h2
  exact ht.ok _ _ hbb G H G H _ Xt.refl j (env_start dv m (by rw [h1]; exact hN)) _ fun v ss G' H' x' j' tv o => k2 v ss G' H' x' j' tv o
end

/-! ### xs[i], ys[k] = e, f -/
def stD (n : Option Nat) (k : Nat → Prop) : Prop := match n with
  | some n => k n
  | none => False
theorem stD_ok {n : Option Nat} {k : Nat → Prop} (h : stD n k) : ∃ m, n = some m ∧ k m := by
  cases n with
  | some m => exact ⟨m, rfl, h⟩
  | none => exact h.elim
def vSetI2 (i k : Nat) (fa fb fi fk : WE) : WS := fun E P => ownD (geE E i) fun ds => fa E fun d => fb E fun d2 => fi E fun y => intD y fun q => stD (ixN ds.length q) fun n =>
  puE E i (.m (ds.set n d)) fun E1 => ownD (geE E1 k) fun es => fk E1 fun y2 => intD y2 fun q2 => stD (ixN es.length q2) fun n2 => puE E1 k (.m (es.set n2 d2)) P.N
section
variable {X : Cx} {p : Option Addr} {a b ei ek : Expr} {ta tb ti tk : TE} {fa fb fi fk : WE} {pos p1 p2 px py : Pos}
/-- one store among others -/
theorem g_setM {K : PySem.W.Frag} {i : Nat} {ti : TE} {E : Ev} {G0 H0 G H : Hp} {σ : L2.St} {v : V} {d : PyData} {ds : List PyData} {Q : L2.St → Hp → Prop} {M : Ev → Prop} (x : Xt p G0 H0 G H) (j : J p G H) (e : EnvOk K p H0 G H σ E) (hs : E[i]? = some (.m ds)) (dv : Dp K G v d)
    (h : W K p E ti fun y => intD y fun q => stD (ixN ds.length q) fun n => puE E i (.m (ds.set n d)) M)
    (z : ∀ E' G' H', Xt p G0 H0 G' H' → Same G G' → J p G' H' → EnvOk K p H0 G' H' σ E' → M E' → Q σ H') : gSub (tVar i) ti rSetL v σ H Q := by
  obtain ⟨l, vs, z1, z2, z3, z4, z5, z6⟩ := e.own hs
  refine ⟨_, z1, h H0 G H σ j e _ fun u y G2 H2 x2 j2 du h2 => ?_⟩
  obtain ⟨q, rfl, h3⟩ := intD_ok h2
  obtain ⟨n, hn, h4⟩ := stD_ok h3
  have e2 := e.mono x2
  obtain ⟨l', vs', y1, y2, y3, y4, y5, y6⟩ := e2.own hs
  rw [z1] at y1
  cases y1
  refine ⟨l, vs', q, n, rfl, dp_int du, y2, by rw [dpA_len y3]; exact hn, ?_⟩
  exact z _ G2 _ ((x.trans x2).chg y6) x2.gg (j2.madeL y4 y5 y2) (e2.chg hs z1 y2 (dpA_set (dp_mono x2.gg d v dv) n y3) y4 y5 y6) (puE_ok h4).2
theorem S_setM2 {i k : Nat} {P : Post} {E : Ev} (ha : ∀ E Φ, fa E Φ → W X.K p E ta Φ) (hb : ∀ E Φ, fb E Φ → W X.K p E tb Φ) (hi : ∀ E Φ, fi E Φ → W X.K p E ti Φ) (hk : ∀ E Φ, fk E Φ → W X.K p E tk Φ) (q : vSetI2 i k fa fb fi fk E P) :
    S X.K p E (tAsg (tTup (tCons ta (tCons tb tNil))) (gBoth X.K 2 (gCons (gSub (tVar i) ti rSetL) (gCons (gSub (tVar k) tk rSetL) gNil)))) P.N P.R P.B P.C := fun G0 H0 G H σ x j e D z => by
  obtain ⟨ds, hs, q⟩ := ownD_ok q
  refine ha E _ q H0 G H σ j e _ fun v d G1 H1 x1 j1 dv h1 => ?_
  have e1 := e.mono x1
  refine hb E _ h1 H0 G1 H1 σ j1 e1 _ fun w d2 G2 H2 x2 j2 dw h2 => ?_
  have e2 := e1.mono x2
  refine ⟨by rw [sizeLine_eq]; show 2 ≤ 16777216; decide, fun T hT => ?_⟩
  have x3 := Xt.laid (p := p) (o := .tup [v, w]) j2 hT
  have j3 := j2.laid (o := .tup [v, w]) hT
  have e3 := e2.mono x3
  have x03 := ((x.trans x1).trans x2).trans x3
  have dv3 := dp_mono (x2.gg.trans x3.gg) d v dv
  have dw3 := dp_mono x3.gg d2 w dw
  refine Or.inl ⟨T, [v, w], rfl, SqT.of upd_same, rfl, v, [w], rfl, ?_⟩
  refine g_setM x03 j3 e3 (geE_ok hs Sl.noConfusion) dv3 (hi E _ h2) fun E4 G4 H4 x4 g4 j4 e4 h4 => ?_
  obtain ⟨es, hs4, h5⟩ := ownD_ok h4
  refine ⟨w, [], rfl, ?_⟩
  refine g_setM x4 j4 e4 (geE_ok hs4 Sl.noConfusion) (dp_mono g4 d2 w dw3) (hk E4 _ h5) fun E6 G6 H6 x6 g6 j6 e6 h6 => ?_
  exact ⟨rfl, z.nx σ E6 G6 H6 x6 j6 e6 h6⟩
theorem ds_setI2 {i k : Nat} {x y : Str} {kt k2 : Nat} {pt pt2 : Pos} (hc : X.calm = true) (hN : X.N[i]? = some x) (hv : Vis X.env.scope x) (hN2 : X.N[k]? = some y) (hv2 : Vis X.env.scope y)
    (ha : DE X p a ta fa) (hb : DE X p b tb fb) (hi : DE X p ei ti fi) (hk : DE X p ek tk fk) (hd : (x == ("__debug__" : Str)) = false := by decide) (hcd : (x == ("__classdict__" : Str)) = false := by decide) (hd2 : (y == ("__debug__" : Str)) = false := by decide) (hcd2 : (y == ("__classdict__" : Str)) = false := by decide)
    (s1 : ∀ v, assign (.Subscript (.Name x p1) ei px) X.env v = (do
      let ov ← holding [v] (eval (.Name x p1) X.env)
      let iv ← holding [v, ov] (eval ei X.env)
      standAt px
      holding [v, ov, iv] (setItem ov iv v)
      release [v, ov, iv] []) := by intro _; rfl)
    (s2 : ∀ v, assign (.Subscript (.Name y p2) ek py) X.env v = (do
      let ov ← holding [v] (eval (.Name y p2) X.env)
      let iv ← holding [v, ov] (eval ek X.env)
      standAt py
      holding [v, ov, iv] (setItem ov iv v)
      release [v, ov, iv] []) := by intro _; rfl)
    (hs : swapsWithSole [.Tuple [.Subscript (.Name x p1) ei px, .Subscript (.Name y p2) ek py] kt pt] (.Tuple [a, b] k2 pt2) pos.line X.env = pure false := by rfl)
    (hw : swappedStores [.Tuple [.Subscript (.Name x p1) ei px, .Subscript (.Name y p2) ek py] kt pt] (.Tuple [a, b] k2 pt2) X.env = pure none := by rfl)
    (h1 : (assignEach [.Tuple [.Subscript (.Name x p1) ei px, .Subscript (.Name y p2) ek py] kt pt] X.env).map (·.2) = [assign (.Tuple [.Subscript (.Name x p1) ei px, .Subscript (.Name y p2) ek py] kt pt) X.env] := by rfl)
    (c1 : (assignEach [.Subscript (.Name x p1) ei px, .Subscript (.Name y p2) ek py] X.env).map (·.2) = assign (.Subscript (.Name x p1) ei px) X.env :: (assignEach [.Subscript (.Name y p2) ek py] X.env).map (·.2) := by rfl)
    (c2 : (assignEach [.Subscript (.Name y p2) ek py] X.env).map (·.2) = assign (.Subscript (.Name y p2) ek py) X.env :: (assignEach [] X.env).map (·.2) := by rfl)
    (n1 : (assignEach [.Subscript (.Name x p1) ei px, .Subscript (.Name y p2) ek py] X.env).length = 2 := by rfl)
    (n2 : (assignEach [.Subscript (.Name x p1) ei px, .Subscript (.Name y p2) ek py] X.env).findIdx? (·.1) = none := by rfl)
    (na : starEach [a, b] X.env = (false, eval a X.env) :: starEach [b] X.env := by rfl) (nb : starEach [b] X.env = (false, eval b X.env) :: starEach [] X.env := by rfl) :
    DS X p (.Assign [.Tuple [.Subscript (.Name x p1) ei px, .Subscript (.Name y p2) ek py] kt pt] (.Tuple [a, b] k2 pt2) pos) (tAsg (tTup (tCons ta (tCons tb tNil))) (gBoth X.K 2 (gCons (gSub (tVar i) ti rSetL) (gCons (gSub (tVar k) tk rSetL) gNil)))) (vSetI2 i k fa fb fi fk) :=
  ⟨ps_asg (pe_tup (pa_cons ha.py (pa_cons hb.py pa_nil nb) na)) (pg_both hc (pgs_cons (pg_sub (pe_var hN hv hd hcd) hi.py set_list s1) (pgs_cons (pg_sub (pe_var hN2 hv2 hd2 hcd2) hk.py set_list s2) pgs_nil c2) c1) n1 n2) hs hw h1, fun E P q => S_setM2 ha.ok hb.ok hi.ok hk.ok q⟩
end
end Rim

/-! RimQ: whole division by numbers of any size. -/
namespace Rim
open PySem PySem.Spec PyProof.Rows L2
/-- what is asked of the program and of the heap that stays -/
structure BigOk (P : Program) (base : Heap) : Prop where
  seer : base.NoSeer
  lim : base.NoLimit
  tree : P.given.tree = none
def BigDiv (P : Program) (w : World) (A : Around) (base : Heap) : Prop := ∀ s : Shared, (∀ b o, base.get? b = some o → s.heap.get? b = some o) → PySem.PylongRoom (model P w) A s
theorem bigDiv_of {P : Program} {w : World} {A : Around} {base : Heap} {k : Nat} {env : Env} {l : List Env} (B : BigOk P base) (hf : A.frames = some l) (hr : Room k (A.deeper env)) (hk : 33 ≤ k) (hgen : env.scope.isGenerator = false) (hco : env.scope.isCoroutine = false)
    (hb : env.builtins = builtinsNs) (hg : env.globals = mainGlobals) : BigDiv P w (A.deeper env) base := fun s hs => by
  refine PySem.PylongRoom.of (B.lim.keeps hs) ?_ (PySem.SeerAt.of (B.seer.keeps hs) B.tree (PySem.Around.frames_deeper hf) hgen hco hb hg)
  have := hr.dp
  have e : Builtin.pylongFrames = 100 := rfl
  rw [e]
  omega
def CDivL (_ j : Int) : Prop := j ≠ 0
abbrev rDivL : R2 := rI CDivL fun i j => .int (i.fdiv j)
section
variable [Tabs] {X : Cx} {K : PySem.W.Frag} {p : Option Addr} {Φ : PyData → Prop}
theorem op_fdivL (h : BigDiv X.prog X.w X.A X.base) : OpR X (binaryOp .FloorDiv) rDivL := by
  intro pins s σ H x y v u Q I rx ry q
  obtain ⟨i, j, rfl, rfl, hc, q⟩ := q
  obtain ⟨t, rfl⟩ := rx
  obtain ⟨t', rfl⟩ := ry
  exact PyProof.Rows.floordiv_int hc ⟨.int (i.fdiv j), H, I.tok _, ⟨_, rfl⟩, q⟩ (Or.inr (h s fun b o e => (I.env0.bs b o e).1))
def oDivL : WO2 := fun x y Φ => match x, y with
  | .int a, .int b => b ≠ 0 ∧ Φ (.int (a.fdiv b))
  | _, _ => False
theorem do_divL (h : BigDiv X.prog X.w X.A X.base) : DO X (OpR X (binaryOp .FloorDiv)) rDivL oDivL := by
  refine ⟨op_fdivL h, fun p x y Φ q => ?_⟩
  unfold oDivL at q
  split at q
  · exact WR_I q.1 rfl q.2
  · exact q.elim
end
section
variable [Tabs] {P : Program} {w : World} {K : PySem.W.Frag} {mg : Str → Option Value} {base : Heap} {x qual : Str}
  {params : Arguments} {body : List Stmt} {scope : Scope} {dvs : List V} {kws : List (Str × V)} {f : Addr} {fd : FuncData}
theorem FnG.ofB {CX : CXT} {N ps : List Str} {k : Nat} {sp : Sp} (F : FunD K x qual params body scope dvs kws f fd)
    (S : FnScope N ps scope) (BB : BigOk P base) (hk : 33 ≤ k) (len : ∀ vs H Q E, sp vs H Q E → vs.length = ps.length)
    (hb : ∀ (cdv : Value) (A : Around) (outer : List Env) (s : Shared) (H : Hp) (vs : List V) (Q : VK) (E : XK),
      Room k (A.deeper (envOfC qual scope s.heap.objs.size f cdv)) → A.guards = some [] → BigDiv P w (A.deeper (envOfC qual scope s.heap.objs.size f cdv)) base → sp vs H Q E →
      ∃ t, PSs (cxOf CX P w K mg base N qual scope f cdv A outer s H E) body t ∧
        t { nx := fun _ H' => Q .non H', rt := Q } (start N vs) H) :
    FnG P w K mg base CX (k + 1) f fd ps sp := by
  obtain ⟨oc, od, dV, kV, doc, pm, an, cdv, ct, osl, rfl, lk, hcd, _, _⟩ := F.ex
  refine ⟨len, fun A outer s H args us vs Q E hr hg e0 hbi r hsp => ?_⟩
  have hl := len _ _ _ _ hsp
  have base_in : ∀ b o, base.get? b = some o → s.heap.get? b = some o := fun b o e => (e0.bs b o e).1
  have KX : K.In s.heap := e0.mod.kin.keeps base_in
  have lim : s.heap.NoLimit := e0.mod.nolimit.keeps base_in
  have hkind : ∀ y ∈ ps.zip us, scope.names.lookup y.1 = some .local ∨
      (scope.names.lookup y.1 = some .cell ∧
        ((cellsFrom (s.heap.objs.size + 1) scope.names []).lookup y.1).isSome = true) := by
    rintro ⟨n, v⟩ hy
    rcases S.par n (List.of_mem_zip hy).1 with z | z
    · exact Or.inl z
    · exact Or.inr ⟨z, PySem.W.cellsFrom_some _ _ _ (Or.inl z)⟩
  refine codeAny_call_function hr.depth (KX _ _ lk) rfl S.co S.gen rfl (PySem.W.codeRec_of KX hcd) (hbi _ _ _ _ ?_)
  refine wpAny_newFunctionEnv_cells S.kind hkind fun env he s1 z => ?_
  subst he
  refine ⟨lim.keeps z.toInCall.keep, codeAny_func ?_⟩
  obtain ⟨t, ht, hq⟩ := hb cdv A outer s H vs Q E (hr.deeper _) hg (bigDiv_of BB e0.frames (hr.deeper _) hk S.gen S.co rfl rfl) hsp
  have I := inv_start (CX := CX) (E := E) S hr.hd e0 hl r z
  refine wpAny_mono (ht.run [] s1 (start N vs) H _ I hq) (fun fl s' hs => ?_) fun e s' hs => hs
  cases fl with
  | ret u =>
    obtain ⟨v, σ', H', J, rv, q⟩ := hs
    exact ⟨v, H', J.os, J.bare, J.base, J.hok, rv, q⟩
  | next =>
    obtain ⟨σ', H', J, q⟩ := hs
    exact ⟨V.non, H', J.os, J.bare, J.base, J.hok, rfl, q⟩
  | brk =>
    obtain ⟨_, _, _, q⟩ := hs
    exact False.elim q
  | cont =>
    obtain ⟨_, _, _, q⟩ := hs
    exact False.elim q
end
section
variable [Tabs] {P : Program} {w : World} {K : PySem.W.Frag} {mg : Str → Option Value} {base : Heap} {x qual : Str} {params : Arguments} {body : List Stmt} {scope : Scope} {dvs : List V} {kws : List (Str × V)} {f : Addr} {fd : FuncData} {CX : CXT} {N ps : List Str} {k : Nat}
theorem fn_FB {n m : Nat} {b : WS} (F : FunD K x qual params body scope dvs kws f fd) (Sc : FnScope N ps scope) (BB : BigOk P base) (hk : 33 ≤ k) (hn : ps.length = n) (hN : N.length = n + m)
    (hb : ∀ (cdv : Value) (A : Around) (outer : List Env) (s : Shared) (H : Hp) (E : XK) (p : Option Addr), Room k (A.deeper (envOfC qual scope s.heap.objs.size f cdv)) → A.guards = some [] → BigDiv P w (A.deeper (envOfC qual scope s.heap.objs.size f cdv)) base →
      ∃ t, DSs (cxOf CX P w K mg base N qual scope f cdv A outer s H E).nox p body t b) : FnG P w K mg base CX (k + 1) f fd ps (spF K n (mkF n m b)) := by
  refine FnG.ofB F Sc BB hk (fun vs H Q E h => h.1.trans hn.symm) fun cdv A outer s H vs Q E hr hg hd h => ?_
  obtain ⟨h1, p, G, ds, Φ, j, dv, h2, k2⟩ := h
  obtain ⟨t, ht⟩ := hb cdv A outer s H E p hr hg hd
  refine ⟨t, PSs.nox ht.py, ?_⟩
  obtain ⟨hl, hbb⟩ := h2
  refine ht.ok _ _ hbb G H G H _ Xt.refl j (env_start dv m (by rw [h1]; exact hN)) _ ?_
  exact ⟨fun σ E G' H' x j' e o => k2 _ _ G' H' x j' .non o, fun v d G' H' x j' dv' o => k2 v d G' H' x j' dv' o, fun _ _ _ _ _ _ _ z => z.elim, fun _ _ _ _ _ _ _ z => z.elim⟩
end
/-! ### x in l, l a list of data -/
theorem units65 {k : Nat} {A : Around} (r : Room k A) : A.units + 65 < cLine := by have := r.un; omega
section
variable [Tabs] {X : Cx} {K : PySem.W.Frag} {p : Option Addr} {Φ : PyData → Prop}
def oIn : WO2 := fun x y Φ => match y with
  | .list ds => SeqAt.shaped x = true ∧ SeqAt.shaped (.list ds) = true ∧ Φ (.bool (ds.any fun z => PyData.eqv z x))
  | _ => False
def oNotIn : WO2 := fun x y Φ => match y with
  | .list ds => SeqAt.shaped x = true ∧ SeqAt.shaped (.list ds) = true ∧ Φ (.bool (!ds.any fun z => PyData.eqv z x))
  | _ => False
theorem do_in (hu : X.A.units + 65 < cLine) : DO X (OpR X (compareOp .In)) (rInD X.K) oIn := by
  refine ⟨op_inD hu, fun p x y Φ q => ?_⟩
  unfold oIn at q
  split at q
  · intro G H v u j dv du Q z
    exact ⟨_, _, dp_mono j.sub _ _ dv, dp_mono j.sub _ _ du, q.1, q.2.1, z _ _ G H Xt.refl j (.bl _) q.2.2⟩
  · exact q.elim
theorem do_notIn (hu : X.A.units + 65 < cLine) : DO X (OpR X (compareOp .NotIn)) (rNotInD X.K) oNotIn := by
  refine ⟨op_notInD hu, fun p x y Φ q => ?_⟩
  unfold oNotIn at q
  split at q
  · intro G H v u j dv du Q z
    exact ⟨_, _, dp_mono j.sub _ _ dv, dp_mono j.sub _ _ du, q.1, q.2.1, z _ _ G H Xt.refl j (.bl _) q.2.2⟩
  · exact q.elim
end
/-! ### xs.pop() -/
def lastD (ds : List PyData) (k : PyData → Prop) : Prop := match ds.getLast? with
  | some d => k d
  | none => False
theorem lastD_ok {ds : List PyData} {k : PyData → Prop} (h : lastD ds k) : ∃ es d, ds = es ++ [d] ∧ k d := by
  unfold lastD at h
  split at h
  · rename_i d e
    obtain ⟨es, e2⟩ := List.getLast?_eq_some_iff.mp e
    exact ⟨es, d, e2, h⟩
  · exact h.elim
theorem lastD_of {es : List PyData} {d : PyData} {k : PyData → Prop} (h : k d) : lastD (es ++ [d]) k := by
  unfold lastD
  rw [List.getLast?_append]
  exact h
theorem dpA_dropLast {K : PySem.W.Frag} {G : Hp} : ∀ {vs : List V} {ds : List PyData}, DpAll K G vs ds → DpAll K G vs.dropLast ds.dropLast
  | _, _, .nil => .nil
  | _, _, .cons h .nil => .nil
  | _, _, .cons h (.cons h2 t) => .cons h (dpA_dropLast (.cons h2 t))
def vPop (i : Nat) : WS := fun E P => ownD (geE E i) fun ds => lastD ds fun _ => puE E i (.m ds.dropLast) P.N
def vPopA (i k : Nat) : WS := fun E P => ownD (geE E i) fun ds => lastD ds fun d => puE E i (.m ds.dropLast) fun E1 => puE E1 k (.d d) P.N
section
variable [Tabs] {X : Cx} {K : PySem.W.Frag} {p : Option Addr} {E : Ev} {N B C : Ev → Prop} {R : PyData → Prop}
/-- what the call does -/
theorem pop_run {G0 H0 G H : Hp} {σ : L2.St} {i : Nat} {ds : List PyData} {Q : VK} (x : Xt p G0 H0 G H) (j : J p G H) (e : EnvOk K p H0 G H σ E) (hs : E[i]? = some (.m ds)) (hd : ∃ es d, ds = es ++ [d])
    (z : ∀ v H', Xt p G0 H0 G H' → J p G H' → EnvOk K p H0 G H' σ (E.set i (.m ds.dropLast)) → (∀ es d, ds = es ++ [d] → Dp K G v d) → Q v H') : tBM0 K "list" rPop (tVar i) σ H Q := by
  obtain ⟨l, vs, z1, z2, z3, z4, z5, z6⟩ := e.own hs
  obtain ⟨es, d, rfl⟩ := hd
  have hl := dpA_len z3
  rw [List.length_append, List.length_singleton] at hl
  have hg : (es ++ [d])[es.length]? = some d := by simp
  obtain ⟨v, hv, dv⟩ := dpA_get z3 hg
  refine ⟨_, z1, Or.inl ⟨rfl, _, Or.inl (Or.inl z2)⟩, l, vs, v, rfl, rfl, z2, by rw [hl]; exact hv, ?_⟩
  refine z v _ (x.chg z6) (j.madeL z4 z5 z2) (e.chg hs z1 z2 (dpA_dropLast z3) z4 z5 z6) fun es' d' q => ?_
  obtain ⟨rfl, q2⟩ := List.append_inj' q rfl
  cases q2
  exact dv
end
section
variable [Tabs] {X : Cx} {p : Option Addr} {pos p1 apos cpos py : Pos}
theorem ds_pop {i : Nat} {x : Str} (hN : X.N[i]? = some x) (hv : Vis X.env.scope x) (hd : (x == ("__debug__" : Str)) = false := by decide) (hcd : (x == ("__classdict__" : Str)) = false := by decide)
    (hbase : attributeBase (.Name x p1) "pop" X.env (eval (.Name x p1) X.env) = eval (.Name x p1) X.env := by rfl) (hline : (apos.endLine == cpos.line) = true := by rfl)
    (hsw : swapsWith (.Call (.Attribute (.Name x p1) "pop" apos) [] [] cpos) none pos.line X.env = pure false := by rfl) :
    DS X p (.Expr (.Call (.Attribute (.Name x p1) "pop" apos) [] [] cpos) pos) (tDrop (tBM0 X.K "list" rPop (tVar i))) (vPop i) := by
  refine ⟨ps_expr (pe_bm0 PySem.F.plainAttrs_list PySem.F.slot_list_pop PySem.F.type_list_pop mt_pop (pe_var hN hv hd hcd) hbase hline) hsw, fun E P q => ?_⟩
  obtain ⟨ds, hs, q⟩ := ownD_ok q
  obtain ⟨es, d, hds, q⟩ := lastD_ok q
  intro G0 H0 G H σ x j e D z
  refine pop_run x j e (geE_ok hs Sl.noConfusion) ⟨es, d, hds⟩ fun v H' x' j' e' _ => ?_
  exact z.nx σ _ G H' x' j' e' (puE_ok q).2
theorem ds_popA {i k : Nat} {x y : Str} (hc : X.N.Nodup) (hN : X.N[i]? = some x) (hv : Vis X.env.scope x) (hk : X.N[k]? = some y) (hy : Loc X.env.scope y) (hd : (x == ("__debug__" : Str)) = false := by decide) (hcd : (x == ("__classdict__" : Str)) = false := by decide)
    (hf : X.fn y = true ∨ X.env.scope.names.lookup y = some .local := by first | exact .inl rfl | exact .inr rfl | assumption)
    (hbase : attributeBase (.Name x p1) "pop" X.env (eval (.Name x p1) X.env) = eval (.Name x p1) X.env := by rfl) (hline : (apos.endLine == cpos.line) = true := by rfl)
    (hs : swapsWithSole [.Name y py] (.Call (.Attribute (.Name x p1) "pop" apos) [] [] cpos) pos.line X.env = pure false := by rfl) (hw : swappedStores [.Name y py] (.Call (.Attribute (.Name x p1) "pop" apos) [] [] cpos) X.env = pure none := by rfl)
    (h1 : (assignEach [.Name y py] X.env).map (·.2) = [assign (.Name y py) X.env] := by rfl) :
    DS X p (.Assign [.Name y py] (.Call (.Attribute (.Name x p1) "pop" apos) [] [] cpos) pos) (tAsg (tBM0 X.K "list" rPop (tVar i)) (gName k)) (vPopA i k) := by
  refine ⟨ps_asg (pe_bm0 PySem.F.plainAttrs_list PySem.F.slot_list_pop PySem.F.type_list_pop mt_pop (pe_var hN hv hd hcd) hbase hline) (pg_name hc hk hy hf) hs hw h1, fun E P q => ?_⟩
  obtain ⟨ds, hs, q⟩ := ownD_ok q
  obtain ⟨es, d, hds, q⟩ := lastD_ok q
  intro G0 H0 G H σ x j e D z
  refine pop_run x j e (geE_ok hs Sl.noConfusion) ⟨es, d, hds⟩ fun v H' x' j' e' dv => ?_
  obtain ⟨_, q⟩ := puE_ok q
  obtain ⟨hk2, q⟩ := puE_ok q
  refine z.nx _ _ G H' x' j' (e'.setD (by rw [e'.len]; exact hk2) (dv es d hds)) q
end
end Rim

/-! RimC: enumerate(zip(xs, ys)): the inner tuple goes out each turn and is not told to come back. -/
namespace Rim
open PySem PySem.Spec PyProof.Rows L2
/-- a zip's record, whatever it holds of a tuple that went out -/
abbrev Zr (h : Heap) (z TI TO : Addr) (v : Value) (f : Bool) : Prop :=
  h.get? z = some { cls := .type "zip", dict := none, data := .fields #[v, .bool f, .bool false, .ref TI, .ref TO], slots := #[] }
def Zh (h : Heap) (z TI TO : Addr) : Prop := ∃ v f, Zr h z TI TO v f ∧ (v = .none ∨ ∃ T : Addr, v = rawInt T)
section
variable {prog : Program} {w : World} {A : Around} {E : Value → Shared → Prop} {s : Shared}
theorem gone_alive {a : Addr} {Q : Option Obj → Shared → Prop} (ho : s.heap.get? a = none) (h : Q none s) : wpAny (model prog w) A (loadIfAlive a) Q E s := by
  have h' : Q (s.heap.get? a) s := by rw [ho]; exact h
  exact fun _ _ _ => h'
/-- is the tuple free? either way -/
theorem zr_free {z TI TO : Addr} {v : Value} {f : Bool} {Q : Bool → Shared → Prop} (hz : Zr s.heap z TI TO v f) (hv : v = .none ∨ ∃ T : Addr, v = rawInt T) (h1 : Q true s)
    (h0 : ∀ (T : Addr) h', v = rawInt T → Zr h' z TI TO (rawInt T) true → Heap.SameBut z s.heap h' → Q false { s with heap := h' }) : wpAny (model prog w) A (Builtin.SmallTypes.ownedTupleIsFree (.ref z)) Q E s := by
  rcases hv with rfl | ⟨T, rfl⟩
  · unfold Builtin.SmallTypes.ownedTupleIsFree
    exact wpAny_bind (wpAny_field hz rfl (x := .none) rfl (wpAny_pure h1))
  · cases q : s.heap.get? T with
    | some oT => exact wpAny_tupleHeld_zip hz q fun h' a b => h0 T h' rfl a b
    | none =>
      unfold Builtin.SmallTypes.ownedTupleIsFree
      refine wpAny_bind (wpAny_field hz rfl (x := rawInt T) rfl ?_)
      show wpAny _ _ (loadIfAlive ((T : Int).toNat) >>= _) _ _ _
      rw [Int.toNat_natCast]
      refine wpAny_bind (gone_alive q ?_)
      simp only [Option.isNone_none, if_true]
      exact wpAny_pure h1
theorem zr_next_item {z TI TO i1 i2 l1 l2 : Addr} {k1 k2 : Nat} {xs ys : Array Value} {x y a b v : Value} {f : Bool} {Q : Value → Shared → Prop} (D : ZipApart z TI TO i1 i2 l1 l2)
    (hz : Zr s.heap z TI TO v f) (hv : v = .none ∨ ∃ T : Addr, v = rawInt T) (hTI : IsPair s.heap TI (.ref i1) (.ref i2)) (hTO : IsPair s.heap TO a b)
    (h1 : s.heap.IsListIter i1 l1 k1) (h2 : s.heap.IsListIter i2 l2 k2) (hl1 : s.heap.IsList l1 xs) (hl2 : s.heap.IsList l2 ys) (hx : xs[k1]? = some x) (hy : ys[k2]? = some y)
    (hQ : ∀ h', Zh h' z TI TO → (∃ a b, IsPair h' TO a b) → h'.IsListIter i1 l1 (k1 + 1) → h'.IsListIter i2 l2 (k2 + 1) → IsPair h' s.heap.objs.size x y → h'.objs.size = s.heap.objs.size + 1 →
      (∀ c o, c ≠ z → c ≠ TO → c ≠ i1 → c ≠ i2 → s.heap.get? c = some o → h'.get? c = some o) → Q (.ref s.heap.objs.size) { s with heap := h' }) :
    wpAny (model prog w) A (Builtin.«zip.__next__» ⟨[.ref z], []⟩) (fun fin s' => ∃ v, fin = .done (.ret v) ∧ Q v s') E s := by
  show wpAny _ _ (field (.ref z) 2 >>= _) _ _ _
  refine wpAny_bind (wpAny_field hz rfl (x := .bool false) rfl ?_)
  show wpAny _ _ (field (.ref z) 3 >>= _) _ _ _
  refine wpAny_bind (wpAny_field hz rfl (x := .ref TI) rfl ?_)
  refine wpAny_bind (wpAny_seqItems hTI rfl ?_)
  show wpAny _ _ (Builtin.SmallTypes.ownedTupleIsFree (.ref z) >>= _) _ _ _
  refine wpAny_bind (zr_free hz hv ?_ fun T h₁ hvT hz₁ hs₁ => ?_)
  · simp only [if_true]
    refine wpAny_bind (wpAny_rule ?_)
    refine wpAny_bind (wpAny_field hz rfl (x := .ref TO) rfl ?_)
    refine wpAny_bind (wpAny_setField_rec hz (by simp) fun h₁ hz₁ hs₁ => ?_)
    replace hz₁ : Zr h₁ z TI TO .ellipsis f := hz₁
    refine wpAny_bind ?_
    simp only [List.zipIdx_cons, List.zipIdx_nil, List.forIn_cons, List.forIn_nil]
    refine wpAny_bind (wpAny_bind (wpAny_onRaise ?_))
    show wpAny _ _ (Builtin.SmallTypes.nextOf (.ref i1) >>= _) _ _ _
    refine wpAny_bind (wpAny_nextOf_list_item (h1.extBut hs₁.extBut D.i1z) (hl1.extBut hs₁.extBut D.l1z) hx fun h₂ h1₂ hs₂ => wpAny_pure ?_)
    have hTO₂ : IsPair h₂ TO a b := hs₂.extBut _ _ D.TOi1 (hs₁.extBut _ _ D.TOz hTO)
    refine wpAny_bind (wpAny_seqItems hTO₂ rfl ?_)
    refine wpAny_bind (wpAny_updateSeq_pair hTO₂ fun h₃ hTO₃ hs₃ => ?_)
    replace hTO₃ : IsPair h₃ TO x b := hTO₃
    refine wpAny_bind (wpAny_letGo (wpAny_pure ?_))
    refine wpAny_bind (wpAny_bind (wpAny_onRaise ?_))
    show wpAny _ _ (Builtin.SmallTypes.nextOf (.ref i2) >>= _) _ _ _
    refine wpAny_bind (wpAny_nextOf_list_item (((h2.extBut hs₁.extBut D.i2z).extBut hs₂.extBut D.i12.symm).extBut hs₃.extBut D.TOi2.symm)
      (((hl2.extBut hs₁.extBut D.l2z).extBut hs₂.extBut D.l2i1).extBut hs₃.extBut D.l2TO) hy fun h₄ h2₄ hs₄ => wpAny_pure ?_)
    have hTO₄ : IsPair h₄ TO x b := hs₄.extBut _ _ D.TOi2 hTO₃
    refine wpAny_bind (wpAny_seqItems hTO₄ rfl ?_)
    refine wpAny_bind (wpAny_updateSeq_pair hTO₄ fun h₅ hTO₅ hs₅ => ?_)
    replace hTO₅ : IsPair h₅ TO x y := hTO₅
    refine wpAny_bind (wpAny_letGo (wpAny_pure (wpAny_pure ?_)))
    refine wpAny_bind (wpAny_seqItems hTO₅ rfl ?_)
    refine wpAny_bind (wpAny_newTuple ?_)
    have hsz : h₅.objs.size = s.heap.objs.size := by rw [hs₅.1, hs₄.1, hs₃.1, hs₂.1, hs₁.1]
    have hz₅ : Zr h₅ z TI TO .ellipsis f := hs₅.extBut _ _ D.TOz.symm (hs₄.extBut _ _ D.i2z.symm (hs₃.extBut _ _ D.TOz.symm (hs₂.extBut _ _ D.i1z.symm hz₁)))
    have hk₅ : ∀ c o, c ≠ z → c ≠ TO → c ≠ i1 → c ≠ i2 → s.heap.get? c = some o → h₅.get? c = some o := fun c o c1 c2 c3 c4 e =>
      hs₅.extBut _ _ c2 (hs₄.extBut _ _ c4 (hs₃.extBut _ _ c2 (hs₂.extBut _ _ c3 (hs₁.extBut _ _ c1 e))))
    have h1₅ : h₅.IsListIter i1 l1 (k1 + 1) := ((h1₂.extBut hs₃.extBut D.TOi1.symm).extBut hs₄.extBut D.i12).extBut hs₅.extBut D.TOi1.symm
    have h2₅ : h₅.IsListIter i2 l2 (k2 + 1) := h2₄.extBut hs₅.extBut D.TOi2.symm
    have hzlt : z < h₅.objs.size := Heap.lt_size hz₅
    show wpAny _ _ (Builtin.SmallTypes.ownedTupleHandOut (.ref z) (.ref h₅.objs.size) >>= _) _ _ _
    refine wpAny_bind ?_
    unfold Builtin.SmallTypes.ownedTupleHandOut
    have hz₆ : Zr (h₅.push { cls := .type "tuple", data := .seq #[x, y] }) z TI TO .ellipsis f := Heap.get?_push_of_some _ hz₅
    refine wpAny_bind (wpAny_setField_rec hz₆ (by simp) fun h₇ hz₇ hs₇ => ?_)
    replace hz₇ : Zr h₇ z TI TO (rawInt h₅.objs.size) f := hz₇
    refine wpAny_setField_rec hz₇ (by simp) fun h₈ hz₈ hs₈ => ?_
    replace hz₈ : Zr h₈ z TI TO (rawInt h₅.objs.size) false := hz₈
    have up : ∀ c o, c ≠ z → h₅.get? c = some o → h₈.get? c = some o := fun c o c1 e => hs₈.extBut _ _ c1 (hs₇.extBut _ _ c1 (Heap.get?_push_of_some _ e))
    have hT₈ : IsPair h₈ h₅.objs.size x y := hs₈.extBut _ _ (Nat.ne_of_gt hzlt) (hs₇.extBut _ _ (Nat.ne_of_gt hzlt) (Heap.get?_push_size _ rfl))
    have hz8 : h₈.objs.size = h₅.objs.size + 1 := by rw [hs₈.1, hs₇.1, Heap.size_push]
    rw [hsz] at hz₈ hT₈ hz8
    refine wpAny_pure ⟨_, rfl, ?_⟩
    show Q (.ref h₅.objs.size) _
    rw [hsz]
    exact hQ h₈ ⟨_, _, hz₈, Or.inr ⟨_, rfl⟩⟩ ⟨_, _, up _ _ D.TOz hTO₅⟩ (h1₅.at fun o e => up _ o D.i1z e) (h2₅.at fun o e => up _ o D.i2z e) hT₈ hz8 fun c o c1 c2 c3 c4 e => up c o c1 (hk₅ c o c1 c2 c3 c4 e)
  · simp only [Bool.false_eq_true, if_false]
    refine wpAny_bind ?_
    rw [← Array.forIn_toList]
    simp only [List.forIn_cons, List.forIn_nil]
    refine wpAny_bind (wpAny_bind (wpAny_holding ?_))
    show wpAny _ _ (Builtin.SmallTypes.nextOf (.ref i1) >>= _) _ _ _
    refine wpAny_bind (wpAny_nextOf_list_item (s := { s with heap := h₁ }) (h1.extBut hs₁.extBut D.i1z) (hl1.extBut hs₁.extBut D.l1z) hx fun h₂ h1₂ hs₂ => wpAny_pure ?_)
    refine wpAny_pure ?_
    refine wpAny_bind (wpAny_bind (wpAny_holding ?_))
    show wpAny _ _ (Builtin.SmallTypes.nextOf (.ref i2) >>= _) _ _ _
    refine wpAny_bind (wpAny_nextOf_list_item (s := { s with heap := h₂ }) ((h2.extBut hs₁.extBut D.i2z).extBut hs₂.extBut D.i12.symm) ((hl2.extBut hs₁.extBut D.l2z).extBut hs₂.extBut D.l2i1) hy fun h₃ h2₃ hs₃ => wpAny_pure ?_)
    refine wpAny_pure (wpAny_pure ?_)
    show wpAny _ _ (newTuple [x, y] >>= _) _ _ _
    refine wpAny_bind (wpAny_newTuple ?_)
    have hsz : h₃.objs.size = s.heap.objs.size := by rw [hs₃.1, hs₂.1, hs₁.1]
    have hz₃ : Zr h₃ z TI TO (rawInt T) true := hs₃.extBut _ _ D.i2z.symm (hs₂.extBut _ _ D.i1z.symm hz₁)
    have hk : ∀ c o, c ≠ z → c ≠ i1 → c ≠ i2 → s.heap.get? c = some o → h₃.get? c = some o := fun c o c1 c2 c3 e => hs₃.extBut _ _ c3 (hs₂.extBut _ _ c2 (hs₁.extBut _ _ c1 e))
    have h1₃ : h₃.IsListIter i1 l1 (k1 + 1) := h1₂.extBut hs₃.extBut D.i12
    refine wpAny_pure ⟨_, rfl, ?_⟩
    show Q (.ref h₃.objs.size) _
    have hp : IsPair (h₃.push { cls := .type "tuple", data := .seq #[x, y] }) h₃.objs.size x y := Heap.get?_push_size _ rfl
    have hz4 : (h₃.push { cls := .type "tuple", data := .seq #[x, y] }).objs.size = h₃.objs.size + 1 := Heap.size_push ..
    rw [hsz] at hp hz4 ⊢
    exact hQ _ ⟨_, _, Heap.get?_push_of_some _ hz₃, Or.inr ⟨_, rfl⟩⟩ ⟨_, _, Heap.get?_push_of_some _ (hk _ _ D.TOz D.TOi1 D.TOi2 hTO)⟩ (h1₃.at fun o e => Heap.get?_push_of_some _ e) (h2₃.at fun o e => Heap.get?_push_of_some _ e) hp hz4 fun c o c1 c2 c3 c4 e => Heap.get?_push_of_some _ (hk c o c1 c3 c4 e)
theorem zr_next_end {z TI TO i1 i2 l1 l2 : Addr} {k1 k2 : Nat} {xs ys : Array Value} {a b v : Value} {f : Bool} {Q : Fin → Shared → Prop} (hh : A.handled = none) (D : ZipApart z TI TO i1 i2 l1 l2)
    (hz : Zr s.heap z TI TO v f) (hv : v = .none ∨ ∃ T : Addr, v = rawInt T) (hTI : IsPair s.heap TI (.ref i1) (.ref i2)) (hTO : IsPair s.heap TO a b)
    (h1 : s.heap.IsListIter i1 l1 k1) (h2 : s.heap.IsListIter i2 l2 k2) (hl1 : s.heap.IsList l1 xs) (hl2 : s.heap.IsList l2 ys) (hend : xs[k1]? = none ∨ ys[k2]? = none)
    (hE : ∀ h' e, (∀ c o, c ≠ z → c ≠ TO → c ≠ i1 → c ≠ i2 → s.heap.get? c = some o → h'.get? c = some o) → (∃ o, h'.get? e = some o ∧ o.cls = .type "StopIteration") → E (.ref e) { s with heap := h' }) :
    wpAny (model prog w) A (Builtin.«zip.__next__» ⟨[.ref z], []⟩) Q E s := by
  show wpAny _ _ (field (.ref z) 2 >>= _) _ _ _
  refine wpAny_bind (wpAny_field hz rfl (x := .bool false) rfl ?_)
  show wpAny _ _ (field (.ref z) 3 >>= _) _ _ _
  refine wpAny_bind (wpAny_field hz rfl (x := .ref TI) rfl ?_)
  refine wpAny_bind (wpAny_seqItems hTI rfl ?_)
  show wpAny _ _ (Builtin.SmallTypes.ownedTupleIsFree (.ref z) >>= _) _ _ _
  refine wpAny_bind (zr_free hz hv ?_ fun T h₁ hvT hz₁ hs₁ => ?_)
  · simp only [if_true]
    refine wpAny_bind (wpAny_rule ?_)
    refine wpAny_bind (wpAny_field hz rfl (x := .ref TO) rfl ?_)
    refine wpAny_bind (wpAny_setField_rec hz (by simp) fun h₁ hz₁ hs₁ => ?_)
    replace hz₁ : Zr h₁ z TI TO .ellipsis f := hz₁
    refine wpAny_bind ?_
    simp only [List.zipIdx_cons, List.zipIdx_nil, List.forIn_cons, List.forIn_nil]
    refine wpAny_bind (wpAny_bind (wpAny_onRaise ?_))
    show wpAny _ _ (Builtin.SmallTypes.nextOf (.ref i1) >>= _) _ _ _
    cases hx : xs[k1]? with
    | none =>
      refine wpAny_bind (wpAny_nextOf_list_end hh (h1.extBut hs₁.extBut D.i1z) (hl1.extBut hs₁.extBut D.l1z) hx fun h₂ e hs₂ he => ?_)
      obtain ⟨oe, hoe, hce⟩ := he
      have hz₂ : Zr h₂ z TI TO .ellipsis f := hs₂ _ _ D.i1z.symm hz₁
      have hez : e ≠ z := fun x => by subst x; rw [hz₂] at hoe; cases hoe; simp at hce
      refine wpAny_setField_rec hz₂ (by simp) fun h₃ _ hs₃ => hE h₃ e (fun c o c1 _ c3 _ x => hs₃.extBut _ _ c1 (hs₂ _ _ c3 (hs₁.extBut _ _ c1 x))) ⟨oe, hs₃.extBut _ _ hez hoe, hce⟩
    | some x =>
      have hy : ys[k2]? = none := by rcases hend with h | h; rw [hx] at h; cases h; exact h
      refine wpAny_bind (wpAny_nextOf_list_item (h1.extBut hs₁.extBut D.i1z) (hl1.extBut hs₁.extBut D.l1z) hx fun h₂ h1₂ hs₂ => wpAny_pure ?_)
      have hTO₂ : IsPair h₂ TO a b := hs₂.extBut _ _ D.TOi1 (hs₁.extBut _ _ D.TOz hTO)
      refine wpAny_bind (wpAny_seqItems hTO₂ rfl ?_)
      refine wpAny_bind (wpAny_updateSeq_pair hTO₂ fun h₃ hTO₃ hs₃ => ?_)
      refine wpAny_bind (wpAny_letGo (wpAny_pure ?_))
      refine wpAny_bind (wpAny_bind (wpAny_onRaise ?_))
      show wpAny _ _ (Builtin.SmallTypes.nextOf (.ref i2) >>= _) _ _ _
      refine wpAny_bind (wpAny_nextOf_list_end hh (((h2.extBut hs₁.extBut D.i2z).extBut hs₂.extBut D.i12.symm).extBut hs₃.extBut D.TOi2.symm)
        (((hl2.extBut hs₁.extBut D.l2z).extBut hs₂.extBut D.l2i1).extBut hs₃.extBut D.l2TO) hy fun h₄ e hs₄ he => ?_)
      obtain ⟨oe, hoe, hce⟩ := he
      have hz₄ : Zr h₄ z TI TO .ellipsis f := hs₄ _ _ D.i2z.symm (hs₃.extBut _ _ D.TOz.symm (hs₂.extBut _ _ D.i1z.symm hz₁))
      have hez : e ≠ z := fun x => by subst x; rw [hz₄] at hoe; cases hoe; simp at hce
      refine wpAny_setField_rec hz₄ (by simp) fun h₅ _ hs₅ => hE h₅ e (fun c o c1 c2 c3 c4 x => hs₅.extBut _ _ c1 (hs₄ _ _ c4 (hs₃.extBut _ _ c2 (hs₂.extBut _ _ c3 (hs₁.extBut _ _ c1 x))))) ⟨oe, hs₅.extBut _ _ hez hoe, hce⟩
  · simp only [Bool.false_eq_true, if_false]
    refine wpAny_bind ?_
    rw [← Array.forIn_toList]
    simp only [List.forIn_cons, List.forIn_nil]
    refine wpAny_bind (wpAny_bind (wpAny_holding ?_))
    show wpAny _ _ (Builtin.SmallTypes.nextOf (.ref i1) >>= _) _ _ _
    cases hx : xs[k1]? with
    | none =>
      refine wpAny_bind (wpAny_nextOf_list_end (s := { s with heap := h₁ }) hh (h1.extBut hs₁.extBut D.i1z) (hl1.extBut hs₁.extBut D.l1z) hx fun h₂ e hs₂ he => ?_)
      exact hE h₂ e (fun c o c1 _ c3 _ x => hs₂ _ _ c3 (hs₁.extBut _ _ c1 x)) he
    | some x =>
      have hy : ys[k2]? = none := by rcases hend with h | h; rw [hx] at h; cases h; exact h
      refine wpAny_bind (wpAny_nextOf_list_item (s := { s with heap := h₁ }) (h1.extBut hs₁.extBut D.i1z) (hl1.extBut hs₁.extBut D.l1z) hx fun h₂ h1₂ hs₂ => wpAny_pure ?_)
      refine wpAny_pure ?_
      refine wpAny_bind (wpAny_bind (wpAny_holding ?_))
      show wpAny _ _ (Builtin.SmallTypes.nextOf (.ref i2) >>= _) _ _ _
      refine wpAny_bind (wpAny_nextOf_list_end (s := { s with heap := h₂ }) hh ((h2.extBut hs₁.extBut D.i2z).extBut hs₂.extBut D.i12.symm) ((hl2.extBut hs₁.extBut D.l2z).extBut hs₂.extBut D.l2i1) hy fun h₃ e hs₃ he => ?_)
      exact hE h₃ e (fun c o c1 _ c3 c4 x => hs₃ _ _ c4 (hs₂.extBut _ _ c3 (hs₁.extBut _ _ c1 x))) he
/-- the inner one's next -/
theorem zr_nextOf_item {z TI TO i1 i2 l1 l2 : Addr} {k1 k2 : Nat} {xs ys : Array Value} {x y a b : Value} {Q : Value → Shared → Prop} (D : ZipApart z TI TO i1 i2 l1 l2)
    (hz : Zh s.heap z TI TO) (hTI : IsPair s.heap TI (.ref i1) (.ref i2)) (hTO : IsPair s.heap TO a b)
    (h1 : s.heap.IsListIter i1 l1 k1) (h2 : s.heap.IsListIter i2 l2 k2) (hl1 : s.heap.IsList l1 xs) (hl2 : s.heap.IsList l2 ys) (hx : xs[k1]? = some x) (hy : ys[k2]? = some y)
    (hQ : ∀ h', Zh h' z TI TO → (∃ a b, IsPair h' TO a b) → h'.IsListIter i1 l1 (k1 + 1) → h'.IsListIter i2 l2 (k2 + 1) → IsPair h' s.heap.objs.size x y → h'.objs.size = s.heap.objs.size + 1 →
      (∀ c o, c ≠ z → c ≠ TO → c ≠ i1 → c ≠ i2 → s.heap.get? c = some o → h'.get? c = some o) → Q (.ref s.heap.objs.size) { s with heap := h' }) :
    wpAny (model prog w) A (Builtin.SmallTypes.nextOf (.ref z)) Q E s := by
  obtain ⟨v, f, hz, hv⟩ := hz
  have hT : s.TypeIs (.ref z) "zip" := ⟨_, hz, rfl⟩
  unfold Builtin.SmallTypes.nextOf
  exact wpAny_bind (wpAny_callSpecial?_slot (name := Str.ofString "__next__") hT F.slot_zip_next
    (wpAny_call_entry F.slot_zip_next hT F.entry_zip_next (zr_next_item D hz hv hTI hTO h1 h2 hl1 hl2 hx hy fun h' a1 a2 a3 a4 a5 a6 a7 => wpAny_pure (hQ h' a1 a2 a3 a4 a5 a6 a7)) (F.args_zip_next_1 _)))
theorem zr_nextOf_end {z TI TO i1 i2 l1 l2 : Addr} {k1 k2 : Nat} {xs ys : Array Value} {a b : Value} {Q : Value → Shared → Prop} (hh : A.handled = none) (D : ZipApart z TI TO i1 i2 l1 l2)
    (hz : Zh s.heap z TI TO) (hTI : IsPair s.heap TI (.ref i1) (.ref i2)) (hTO : IsPair s.heap TO a b)
    (h1 : s.heap.IsListIter i1 l1 k1) (h2 : s.heap.IsListIter i2 l2 k2) (hl1 : s.heap.IsList l1 xs) (hl2 : s.heap.IsList l2 ys) (hend : xs[k1]? = none ∨ ys[k2]? = none)
    (hE : ∀ h' e, (∀ c o, c ≠ z → c ≠ TO → c ≠ i1 → c ≠ i2 → s.heap.get? c = some o → h'.get? c = some o) → (∃ o, h'.get? e = some o ∧ o.cls = .type "StopIteration") → E (.ref e) { s with heap := h' }) :
    wpAny (model prog w) A (Builtin.SmallTypes.nextOf (.ref z)) Q E s := by
  obtain ⟨v, f, hz, hv⟩ := hz
  have hT : s.TypeIs (.ref z) "zip" := ⟨_, hz, rfl⟩
  unfold Builtin.SmallTypes.nextOf
  exact wpAny_bind (wpAny_callSpecial?_slot (name := Str.ofString "__next__") hT F.slot_zip_next
    (wpAny_call_entry F.slot_zip_next hT F.entry_zip_next (zr_next_end hh D hz hv hTI hTO h1 h2 hl1 hl2 hend fun h' e hk he => hE h' e hk he) (F.args_zip_next_1 _)))
/-- what stands between two turns, but for the enumerate's own record -/
structure Zs (h : Heap) (z TI TO i1 i2 l1 l2 : Addr) (k : Nat) : Prop where
  z : Zh h z TI TO
  ti : IsPair h TI (.ref i1) (.ref i2)
  to : ∃ a b, IsPair h TO a b
  i1 : h.IsListIter i1 l1 k
  i2 : h.IsListIter i2 l2 k
theorem Zh.at {h h' : Heap} {z TI TO : Addr} (x : Zh h z TI TO) (k : ∀ o, h.get? z = some o → h'.get? z = some o) : Zh h' z TI TO :=
  let ⟨v, f, e, hv⟩ := x; ⟨v, f, k _ e, hv⟩
theorem Zs.at {h h' : Heap} {z TI TO i1 i2 l1 l2 : Addr} {k : Nat} (x : Zs h z TI TO i1 i2 l1 l2 k) (kz : ∀ o, h.get? z = some o → h'.get? z = some o) (kt : ∀ o, h.get? TI = some o → h'.get? TI = some o) (ko : ∀ o, h.get? TO = some o → h'.get? TO = some o)
    (k1 : ∀ o, h.get? i1 = some o → h'.get? i1 = some o) (k2 : ∀ o, h.get? i2 = some o → h'.get? i2 = some o) : Zs h' z TI TO i1 i2 l1 l2 k :=
  ⟨x.z.at kz, kt _ x.ti, (let ⟨a, b, e⟩ := x.to; ⟨a, b, ko _ e⟩), x.i1.at k1, x.i2.at k2⟩
/-- the enumerate's record lies apart -/
structure EApart (e z TI TO i1 i2 l1 l2 : Addr) : Prop where
  d : ZipApart z TI TO i1 i2 l1 l2
  ez : e ≠ z
  eTI : e ≠ TI
  eTO : e ≠ TO
  e1 : e ≠ i1
  e2 : e ≠ i2
section
variable {prog : Program} {w : World} {A : Around} {E : Value → Shared → Prop} {s : Shared}
theorem ez_item {e z TI TO i1 i2 l1 l2 : Addr} {k : Nat} {c : Int} {old x y : Value} {xs ys : Array Value} {Q : Value → Shared → Prop} (D : EApart e z TI TO i1 i2 l1 l2)
    (he : IsEnum s.heap e z c old) (Z : Zs s.heap z TI TO i1 i2 l1 l2 k) (hl1 : s.heap.IsList l1 xs) (hl2 : s.heap.IsList l2 ys) (hx : xs[k]? = some x) (hy : ys[k]? = some y)
    (hQ : ∀ h' tk, IsEnumOut h' e z (c + 1) (.ref s.heap.objs.size) (s.heap.objs.size + 1) → Zs h' z TI TO i1 i2 l1 l2 (k + 1) → IsPair h' s.heap.objs.size x y →
      h'.get? (s.heap.objs.size + 1) = some { cls := .type "tuple", data := .seq #[.int c tk, .ref s.heap.objs.size] } → h'.objs.size = s.heap.objs.size + 2 →
      (∀ b o, b ≠ e → b ≠ z → b ≠ TO → b ≠ i1 → b ≠ i2 → s.heap.get? b = some o → h'.get? b = some o) → Q (.ref (s.heap.objs.size + 1)) { s with heap := h', toks := tk + 1 }) :
    wpAny (model prog w) A (Builtin.«enumerate.__next__» ⟨[.ref e], []⟩) (fun fin s' => ∃ v, fin = .done (.ret v) ∧ Q v s') E s := by
  obtain ⟨a0, b0, hTO⟩ := Z.to
  obtain ⟨hp, g, d, tk, os⟩ := s
  show wpAny _ _ (field (.ref e) 2 >>= _) _ _ _
  refine wpAny_bind (wpAny_field he rfl (x := .ref z) rfl ?_)
  refine wpAny_bind (zr_nextOf_item D.d Z.z Z.ti hTO Z.i1 Z.i2 hl1 hl2 hx hy fun h₁ z₁ to₁ i1₁ i2₁ hp₁ sz₁ k₁ => ?_)
  have hel : e < hp.objs.size := Heap.lt_size he
  have nN : e ≠ hp.objs.size := Nat.ne_of_lt hel
  have he₁ : IsEnum h₁ e z c old := k₁ _ _ D.ez D.eTO D.e1 D.e2 he
  have ti₁ := k₁ _ _ D.d.TIz D.d.TITO D.d.TIi1 D.d.TIi2 Z.ti
  show wpAny _ _ (field (.ref e) 3 >>= _) _ _ ⟨h₁, g, d, tk, os⟩
  refine wpAny_bind (wpAny_field he₁ rfl (x := rawInt c) rfl ?_)
  show wpAny _ _ (field (.ref e) 4 >>= _) _ _ ⟨h₁, g, d, tk, os⟩
  refine wpAny_bind (wpAny_field he₁ rfl (x := .none) rfl ?_)
  show wpAny _ _ (mkInt c >>= _) _ _ ⟨h₁, g, d, tk, os⟩
  refine wpAny_bind (wpAny_mkInt ?_)
  show wpAny _ _ (setField (.ref e) 3 (rawInt (c + 1)) >>= _) _ _ ⟨h₁, g, d, tk + 1, os⟩
  refine wpAny_bind (wpAny_setField_rec he₁ (by simp) fun h₂ he₂ hs₂ => ?_)
  replace hs₂ : Heap.SameBut e h₁ h₂ := hs₂
  replace he₂ : IsEnum h₂ e z (c + 1) old := he₂
  show wpAny _ _ (setField (.ref e) 4 .none >>= _) _ _ ⟨h₂, g, d, tk + 1, os⟩
  refine wpAny_bind (wpAny_setField_rec he₂ (by simp) fun h₃ he₃ hs₃ => ?_)
  replace hs₃ : Heap.SameBut e h₂ h₃ := hs₃
  replace he₃ : IsEnum h₃ e z (c + 1) old := he₃
  show wpAny _ _ (newTuple [.int c tk, .ref hp.objs.size] >>= _) _ _ ⟨h₃, g, d, tk + 1, os⟩
  refine wpAny_bind (wpAny_newTuple ?_)
  have he₄ : IsEnum (h₃.push { cls := .type "tuple", data := .seq #[.int c tk, .ref hp.objs.size] }) e z (c + 1) old := Heap.get?_push_of_some _ he₃
  generalize hh₄ : h₃.push { cls := .type "tuple", data := .seq #[.int c tk, .ref hp.objs.size] } = h₄ at he₄
  have hsz : h₃.objs.size = hp.objs.size + 1 := by rw [hs₃.1, hs₂.1, sz₁]
  have ht₄ : h₄.get? (hp.objs.size + 1) = some { cls := .type "tuple", data := .seq #[.int c tk, .ref hp.objs.size] } := by rw [← hh₄, ← hsz]; exact Heap.get?_push_size _ rfl
  have hz₄ : h₄.objs.size = hp.objs.size + 2 := by rw [← hh₄, Heap.size_push, hsz]
  have up₄ : ∀ b o, b ≠ e → h₁.get? b = some o → h₄.get? b = some o := fun b o hbe y => by
    rw [← hh₄]; exact Heap.get?_push_of_some _ (hs₃.extBut b o hbe (hs₂.extBut b o hbe y))
  have kT : e ≠ hp.objs.size + 1 := Nat.ne_of_lt (Nat.lt_succ_of_lt hel)
  have Z₁ : Zs h₁ z TI TO i1 i2 l1 l2 (k + 1) := ⟨z₁, ti₁, to₁, i1₁, i2₁⟩
  show wpAny _ _ (Builtin.SmallTypes.ownedTupleIsFree (.ref e) >>= _) _ _ ⟨h₄, g, d, tk + 1, os⟩
  rw [hsz]
  clear hh₄ he₃ hs₃ he₂ hs₂ he₁ hsz h₃ h₂
  refine wpAny_bind ?_
  unfold Builtin.SmallTypes.ownedTupleIsFree
  refine wpAny_bind (wpAny_field he₄ rfl (x := .none) rfl (wpAny_pure ?_))
  simp only [if_true]
  refine wpAny_bind (wpAny_rule ?_)
  refine wpAny_bind (wpAny_field he₄ rfl (x := old) rfl ?_)
  refine wpAny_bind (wpAny_setField_rec he₄ (by simp) fun h₅ he₅ hs₅ => ?_)
  replace hs₅ : Heap.SameBut e h₄ h₅ := hs₅
  replace he₅ : IsEnum h₅ e z (c + 1) (.ref hp.objs.size) := he₅
  show wpAny _ _ (Builtin.SmallTypes.ownedTupleHandOut (.ref e) (.ref (hp.objs.size + 1)) >>= _) _ _ ⟨h₅, g, d, tk + 1, os⟩
  refine wpAny_bind ?_
  unfold Builtin.SmallTypes.ownedTupleHandOut
  refine wpAny_bind (wpAny_setField_rec he₅ (by simp) fun h₆ he₆ hs₆ => ?_)
  replace hs₆ : Heap.SameBut e h₅ h₆ := hs₆
  replace he₆ : IsEnumOut h₆ e z (c + 1) (.ref hp.objs.size) (hp.objs.size + 1) := he₆
  refine wpAny_setField_rec he₆ (by simp) fun h₇ he₇ hs₇ => ?_
  replace hs₇ : Heap.SameBut e h₆ h₇ := hs₇
  replace he₇ : IsEnumOut h₇ e z (c + 1) (.ref hp.objs.size) (hp.objs.size + 1) := he₇
  have up : ∀ b o, b ≠ e → h₄.get? b = some o → h₇.get? b = some o := fun b o hbe y => hs₇.extBut b o hbe (hs₆.extBut b o hbe (hs₅.extBut b o hbe y))
  have up1 : ∀ b o, b ≠ e → h₁.get? b = some o → h₇.get? b = some o := fun b o hbe y => up b o hbe (up₄ b o hbe y)
  refine wpAny_bind (wpAny_letGo (wpAny_pure ⟨_, rfl, hQ h₇ tk he₇ ?_ ?_ ?_ ?_ ?_⟩))
  · exact Z₁.at (fun o q => up1 _ o D.ez.symm q) (fun o q => up1 _ o D.eTI.symm q) (fun o q => up1 _ o D.eTO.symm q) (fun o q => up1 _ o D.e1.symm q) (fun o q => up1 _ o D.e2.symm q)
  · exact up1 _ _ nN.symm hp₁
  · exact up _ _ kT.symm ht₄
  · rw [hs₇.1, hs₆.1, hs₅.1, hz₄]
  · exact fun b o hbe hbz hbo hb1 hb2 hb => up1 b o hbe (k₁ b o hbz hbo hb1 hb2 hb)
theorem ez_pyNext {e z TI TO i1 i2 l1 l2 : Addr} {k : Nat} {c : Int} {old x y : Value} {xs ys : Array Value} {Q : Option Value → Shared → Prop} (D : EApart e z TI TO i1 i2 l1 l2)
    (he : IsEnum s.heap e z c old) (Z : Zs s.heap z TI TO i1 i2 l1 l2 k) (hl1 : s.heap.IsList l1 xs) (hl2 : s.heap.IsList l2 ys) (hx : xs[k]? = some x) (hy : ys[k]? = some y)
    (hQ : ∀ h' tk, IsEnumOut h' e z (c + 1) (.ref s.heap.objs.size) (s.heap.objs.size + 1) → Zs h' z TI TO i1 i2 l1 l2 (k + 1) → IsPair h' s.heap.objs.size x y →
      h'.get? (s.heap.objs.size + 1) = some { cls := .type "tuple", data := .seq #[.int c tk, .ref s.heap.objs.size] } → h'.objs.size = s.heap.objs.size + 2 →
      (∀ b o, b ≠ e → b ≠ z → b ≠ TO → b ≠ i1 → b ≠ i2 → s.heap.get? b = some o → h'.get? b = some o) → Q (some (.ref (s.heap.objs.size + 1))) { s with heap := h', toks := tk + 1 }) :
    wpAny (model prog w) A (pyNext (.ref e)) Q E s := by
  have hT : s.TypeIs (.ref e) "enumerate" := ⟨_, he, rfl⟩
  unfold pyNext
  exact wpAny_bind (wpAny_attempt (wpAny_callSpecial?_slot (name := Str.ofString "__next__") hT F.slot_enumerate_next
    (wpAny_call_entry F.slot_enumerate_next hT F.entry_enumerate_next
      (ez_item D he Z hl1 hl2 hx hy fun h' tk a b c d k q => wpAny_pure (hQ h' tk a b c d k q)) (F.args_enumerate_next_1 _))))
theorem ez_end {e z TI TO i1 i2 l1 l2 : Addr} {k : Nat} {c : Int} {old : Value} {xs ys : Array Value} {Q : Option Value → Shared → Prop} (hh : A.handled = none) (D : EApart e z TI TO i1 i2 l1 l2)
    (he : IsEnum s.heap e z c old) (Z : Zs s.heap z TI TO i1 i2 l1 l2 k) (hl1 : s.heap.IsList l1 xs) (hl2 : s.heap.IsList l2 ys) (hend : xs[k]? = none ∨ ys[k]? = none)
    (hQ : ∀ h', (∀ b o, b ≠ z → b ≠ TO → b ≠ i1 → b ≠ i2 → s.heap.get? b = some o → h'.get? b = some o) → Q none { s with heap := h' }) : wpAny (model prog w) A (pyNext (.ref e)) Q E s := by
  obtain ⟨a0, b0, hTO⟩ := Z.to
  have hT : s.TypeIs (.ref e) "enumerate" := ⟨_, he, rfl⟩
  unfold pyNext
  refine wpAny_bind (wpAny_attempt (wpAny_callSpecial?_slot (name := Str.ofString "__next__") hT F.slot_enumerate_next
    (wpAny_call_entry F.slot_enumerate_next hT F.entry_enumerate_next ?_ (F.args_enumerate_next_1 _))))
  show wpAny _ _ (field (.ref e) 2 >>= _) _ _ _
  refine wpAny_bind (wpAny_field he rfl (x := .ref z) rfl ?_)
  refine wpAny_bind (zr_nextOf_end hh D.d Z.z Z.ti hTO Z.i1 Z.i2 hl1 hl2 hend fun h' x hk hx' => ?_)
  obtain ⟨o, ho, hc⟩ := hx'
  refine wpAny_bind (wpAny_isInstance (T := "StopIteration") (b := true) ⟨o, ho, hc⟩ isSubtype_stop ?_)
  exact wpAny_pure (hQ _ hk)
end
end
set_option maxHeartbeats 4000000 in
theorem meets_enum_zip (z TI TO : Addr) :
    Meets (Builtin.«enumerate.__new__» ⟨[.type "enumerate", .ref z], []⟩) (fun _ R s => IsZip s.heap z TI TO .none ∧
      R (.ok (.ret (.ref s.heap.objs.size))) { s with heap := s.heap.push { cls := .type "enumerate", data := .fields #[.none, .bool false, .ref z, rawInt 0, .none, .none] } }) :=
  .of_wp fun prog w A R s h => by
    obtain ⟨hp, g, d, tk, os⟩ := s; obtain ⟨hz, h⟩ := h
    have hsub := sub_enumerate
    have hL : IsZip (Shared.heap ⟨hp, g, d, tk, os⟩) z TI TO .none := hz
    wp_walk using wpAny_pyIter_zip hL
    refine wpAny_stack_any fun st => wpAny_pure ?_
    split
    · rename_i c _ _ _ _ _
      cases (c == Value.type "enumerate")
      · wp_walk using wpAny_pyIter_zip hL
        exact ⟨_, rfl, h⟩
      · wp_walk using wpAny_pyIter_zip hL
        exact ⟨_, rfl, h⟩
    · wp_walk using wpAny_pyIter_zip hL
      exact ⟨_, rfl, h⟩
section
variable {prog : Program} {w : World} {A : Around} {E : Value → Shared → Prop} {s : Shared}
theorem call_enum_zip {z TI TO : Addr} {Q : Value → Shared → Prop} (hz : IsZip s.heap z TI TO .none)
    (h : ∀ h', IsEnum h' s.heap.objs.size z 0 .none → h'.objs.size = s.heap.objs.size + 1 →
      (∀ b o, s.heap.get? b = some o → h'.get? b = some o) → Q (.ref s.heap.objs.size) { s with heap := h' }) :
    wpAny (model prog w) A (call (.type "enumerate") [.ref z]) Q E s := by
  refine callType_new F.called_enumerate (by decide) (F.typeCall_enumerate_1 _) (F.newCall_enumerate_1 _) (fun obj => F.args_object_init_2 obj _) F.entry_enumerate_new
    (meets_enum_zip z TI TO) ⟨hz, ?_⟩
  have he : IsEnum (s.heap.push { cls := .type "enumerate", data := .fields #[.none, .bool false, .ref z, rawInt 0, .none, .none] }) s.heap.objs.size z 0 .none := Heap.get?_push_size _ rfl
  exact ⟨⟨_, he, rfl⟩, h _ he (Heap.size_push ..) fun b o x => Heap.get?_push_of_some _ x⟩
end
/-! ### the walk -/
variable [Tabs]
def ItEZ (K : PySem.W.Frag) (a b : Addr) : It :=
  ⟨fun i H => ∃ (xs ys : List V), SqL K H a xs ∧ SqL K H b ys ∧ i < xs.length ∧ i < ys.length,
    fun i H v H' => ∃ T1 T x y, v = .ref T ∧ H T1 = none ∧ upd H T1 (.tup [x, y]) T = none ∧ H' = upd (upd H T1 (.tup [x, y])) T (.tup [.int (i : Nat), .ref T1]) ∧ (∀ xs, SqL K H a xs → xs[i]? = some x) ∧ ∀ ys, SqL K H b ys → ys[i]? = some y,
    fun i H => ∃ xs ys : List V, SqL K H a xs ∧ SqL K H b ys ∧ i ≤ xs.length ∧ i ≤ ys.length ∧ (i = xs.length ∨ i = ys.length)⟩
theorem turn_ez {P : Program} {w : World} {K : PySem.W.Frag} {elts : List Expr} {kk : Nat} {tpos : Pos} {e z TI TO i1 i2 a b : Addr} (D : EApart e z TI TO i1 i2 a b) :
    Turn P w K (.Tuple elts kk tpos) (ItEZ K a b) [e, z, TI, TO, i1, i2] e (fun i h => (∃ old, IsEnum h e z ((i : Nat) : Int) old) ∧ Zs h z TI TO i1 i2 a b i) where
  mem := by simp
  obj := fun i h st c hc => by
    obtain ⟨⟨old, he⟩, ⟨⟨v, f, hz, _⟩, hTI, ⟨x, y, hTO⟩, ⟨o1, e1, _, d1⟩, ⟨o2, e2, _, d2⟩⟩⟩ := st
    have e' : c = e ∨ c = z ∨ c = TI ∨ c = TO ∨ c = i1 ∨ c = i2 := by simpa using hc
    rcases e' with q | q | q | q | q | q
    · rw [q]; exact ⟨_, he, fun v q => nomatch q⟩
    · rw [q]; exact ⟨_, hz, fun v q => nomatch q⟩
    · rw [q]; exact ⟨_, hTI, fun v q => nomatch q⟩
    · rw [q]; exact ⟨_, hTO, fun v q => nomatch q⟩
    · rw [q]; exact ⟨o1, e1, fun v q => by rw [d1] at q; cases q⟩
    · rw [q]; exact ⟨o2, e2, fun v q => by rw [d2] at q; cases q⟩
  keep := fun i h h' st k => by
    obtain ⟨⟨old, he⟩, Z⟩ := st
    exact ⟨⟨old, k e (by simp) _ he⟩, Z.at (fun o q => k z (by simp) o q) (fun o q => k TI (by simp) o q) (fun o q => k TO (by simp) o q) (fun o q => k i1 (by simp) o q) fun o q => k i2 (by simp) o q⟩
  item := by
    intro X hP hw hK hc i pins s σ H E I hf st hg
    subst hP hw hK
    obtain ⟨⟨old, he⟩, Z⟩ := st
    obtain ⟨xs, ys, hqx, hqy, hx, hy⟩ := hg
    obtain ⟨its, rv, p, _⟩ := I.list hqx
    obtain ⟨its2, rv2, p2, _⟩ := I.list hqy
    have hx1 : xs[i]? = some xs[i] := List.getElem?_eq_getElem hx
    have hy1 : ys[i]? = some ys[i] := List.getElem?_eq_getElem hy
    obtain ⟨v1, w1, ru⟩ := rv.get hx1
    obtain ⟨v2, w2, ru2⟩ := rv2.get hy1
    generalize xs[i] = x at hx1 ru
    generalize ys[i] = y at hy1 ru2
    have hel : e < s.heap.objs.size := Heap.lt_size he
    refine ez_pyNext (xs := its.toArray) (ys := its2.toArray) D he Z p.isList p2.isList (by simpa using w1) (by simpa using w2) fun h' tk ho Z' hp' hT hsz hk => ?_
    refine ⟨_, rfl, wpAny_letOwnedTupleGo_enum (s := { s with heap := h', toks := tk + 1 }) ho fun h'' he' sb => ?_⟩
    have nT : e ≠ s.heap.objs.size + 1 := Nat.ne_of_lt (Nat.lt_succ_of_lt hel)
    have nN : e ≠ s.heap.objs.size := Nat.ne_of_lt hel
    have hT2 : h''.get? (s.heap.objs.size + 1) = some { cls := .type "tuple", data := .seq #[.int i tk, .ref s.heap.objs.size] } := (sb.2 _ nT.symm).trans hT
    have hN2 : h''.get? s.heap.objs.size = some { cls := .type "tuple", data := .seq #[v1, v2] } := (sb.2 _ nN.symm).trans hp'
    -- the inner tuple alone, then all
    have hgN : (s.heap.push { cls := .type "tuple", data := .seq #[v1, v2] }).get? s.heap.objs.size = some { cls := .type "tuple", data := .seq #[v1, v2] } := Heap.get?_push_size _ rfl
    have I0 : Inv X pins σ (upd H s.heap.objs.size (.tup [x, y])) { s with heap := s.heap.push { cls := .type "tuple", data := .seq #[v1, v2] }, toks := s.toks } :=
      I.laid (t' := s.toks) (fun c o q => Heap.get?_push_of_some _ q) (Nat.le_refl _) ⟨by show 2 ≤ sizeLine; decide, [v1, v2], .cons ru (.cons ru2 .nil), ⟨_, hgN, rfl, _, rfl⟩⟩
    have hHN : H s.heap.objs.size = none := I.hok.fresh (Nat.le_refl _)
    have hsz0 : (s.heap.push { cls := .type "tuple", data := .seq #[v1, v2] }).objs.size = s.heap.objs.size + 1 := Heap.size_push ..
    have lt6 : ∀ c ∈ [e, z, TI, TO, i1, i2], c < s.heap.objs.size := fun c hcm => by
      have e' : c = e ∨ c = z ∨ c = TI ∨ c = TO ∨ c = i1 ∨ c = i2 := by simpa using hcm
      obtain ⟨⟨v, f, hz, _⟩, hTI, ⟨x, y, hTO⟩, ⟨o1, e1, _, d1⟩, ⟨o2, e2, _, d2⟩⟩ := Z
      rcases e' with q | q | q | q | q | q
      · rw [q]; exact hel
      · rw [q]; exact Heap.lt_size hz
      · rw [q]; exact Heap.lt_size hTI
      · rw [q]; exact Heap.lt_size hTO
      · rw [q]; exact Heap.lt_size e1
      · rw [q]; exact Heap.lt_size e2
    have hf0 : ∀ c ∈ [e, z, TI, TO, i1, i2], FpOk X pins (upd H s.heap.objs.size (.tup [x, y])) c := fun c hcm => by
      obtain ⟨f1, f2⟩ := hf c hcm
      exact ⟨by rw [upd_ne (Nat.ne_of_lt (lt6 c hcm))]; exact f1, f2⟩
    have new : ObjOk X.prog X.w (upd (upd H s.heap.objs.size (.tup [x, y])) (s.heap.objs.size + 1) (.tup [.int (i : Nat), .ref s.heap.objs.size])) h'' (s.heap.objs.size + 1) (.tup [.int (i : Nat), .ref s.heap.objs.size]) :=
      ⟨by show 2 ≤ sizeLine; decide, [.int i tk, .ref s.heap.objs.size], .cons ⟨_, rfl⟩ (.cons rfl .nil), ⟨_, hT2, rfl, _, rfl⟩⟩
    have I1 : Inv X pins σ (upd (upd H s.heap.objs.size (.tup [x, y])) (s.heap.objs.size + 1) (.tup [.int (i : Nat), .ref s.heap.objs.size])) { s with heap := h'', toks := tk + 1 } := by
      refine I0.turnedNew (t' := tk + 1) (ch := [e, z, TI, TO, i1, i2]) (fun c o hb q => ?_) hf0 (by rw [hsz0]; exact Nat.le_refl _) new
      have q0 : (s.heap.push { cls := .type "tuple", data := .seq #[v1, v2] }).get? c = some o := q
      by_cases hcN : c = s.heap.objs.size
      · rw [hcN] at q0 ⊢
        rw [hgN] at q0
        cases q0
        exact hN2
      · have hlt : c < s.heap.objs.size + 1 := by have := Heap.lt_size q0; rw [hsz0] at this; exact this
        have q1 : s.heap.get? c = some o := by
          rcases Heap.get?_push_cases q0 with z | z
          · exact absurd z.1 hcN
          · exact z
        exact (sb.2 c (fun z => hb (by simp [z]))).trans (hk c o (fun z => hb (by simp [z])) (fun z => hb (by simp [z])) (fun z => hb (by simp [z])) (fun z => hb (by simp [z])) (fun z => hb (by simp [z])) q1)
    have nTN : s.heap.objs.size + 1 ≠ s.heap.objs.size := Nat.succ_ne_self _
    refine ⟨.ref (s.heap.objs.size + 1), _, I1, rfl, ⟨s.heap.objs.size, s.heap.objs.size + 1, x, y, rfl, hHN, ?_, rfl, fun l hl => by rw [I.list_inj hl hqx]; exact hx1, fun l hl => by rw [I.list_inj hl hqy]; exact hy1⟩, ⟨⟨.ref s.heap.objs.size, ?_⟩, Z'.at (fun o q => (sb.2 _ D.ez.symm).trans q) (fun o q => (sb.2 _ D.eTI.symm).trans q) (fun o q => (sb.2 _ D.eTO.symm).trans q) (fun o q => (sb.2 _ D.e1.symm).trans q) fun o q => (sb.2 _ D.e2.symm).trans q⟩, fun c hcm => ?_⟩
    · rw [upd_ne nTN]
      exact I.hok.fresh (Nat.le_succ _)
    · have e1 : ((i + 1 : Nat) : Int) = (i : Int) + 1 := by omega
      rw [e1]; exact he'
    · have hlt := lt6 c hcm
      rw [upd_ne (Nat.ne_of_lt (Nat.lt_succ_of_lt hlt)), upd_ne (Nat.ne_of_lt hlt)]
      exact (hf c hcm).1
  done := by
    intro X hP hw hK hc i pins s σ H E I hf st hg
    subst hP hw hK
    obtain ⟨⟨old, he⟩, Z⟩ := st
    obtain ⟨xs, ys, hqx, hqy, e1, e2, hend⟩ := hg
    obtain ⟨its, rv, p, _⟩ := I.list hqx
    obtain ⟨its2, rv2, p2, _⟩ := I.list hqy
    have l1 := rv.length
    have l2 := rv2.length
    refine ez_end (A := X.A) (xs := its.toArray) (ys := its2.toArray) (I.ok.hd hc) D he Z p.isList p2.isList ?_ fun h' hk => ⟨rfl, I.turnedL (t' := s.toks) (ch := [e, z, TI, TO, i1, i2]) (fun c o hb q => hk c o (fun z => hb (by simp [z])) (fun z => hb (by simp [z])) (fun z => hb (by simp [z])) (fun z => hb (by simp [z])) q) hf⟩
    rcases hend with h | h
    · exact Or.inl (Array.getElem?_eq_none (by simp; omega))
    · exact Or.inr (Array.getElem?_eq_none (by simp; omega))
  self := fun A i s Q E st h => let ⟨⟨_, he⟩, _⟩ := st; wpAny_pyIter_enum he h
theorem e_apart (N a b : Nat) (la : a < N) (lb : b < N) : EApart (N + 5) (N + 4) (N + 2) (N + 3) N (N + 1) a b :=
  ⟨⟨(by omega : (N + 2 : Nat) ≠ N + 4), (by omega : (N + 3 : Nat) ≠ N + 4), (by omega : (N : Nat) ≠ N + 4), (by omega : (N + 1 : Nat) ≠ N + 4), (by omega : (N + 2 : Nat) ≠ N + 3), (by omega : (N + 2 : Nat) ≠ N), (by omega : (N + 2 : Nat) ≠ N + 1), (by omega : (N + 3 : Nat) ≠ N), (by omega : (N + 3 : Nat) ≠ N + 1), (by omega : (N : Nat) ≠ N + 1),
    (by omega : (a : Nat) ≠ N + 4), (by omega : (a : Nat) ≠ N + 3), (by omega : (a : Nat) ≠ N), (by omega : (a : Nat) ≠ N + 1), (by omega : (b : Nat) ≠ N + 4), (by omega : (b : Nat) ≠ N + 3), (by omega : (b : Nat) ≠ N), (by omega : (b : Nat) ≠ N + 1)⟩,
    (by omega : (N + 5 : Nat) ≠ N + 4), (by omega : (N + 5 : Nat) ≠ N + 2), (by omega : (N + 5 : Nat) ≠ N + 3), (by omega : (N + 5 : Nat) ≠ N), (by omega : (N + 5 : Nat) ≠ N + 1)⟩
def iEZ (K : PySem.W.Frag) (ta : TA) : TI := fun σ H R => ta σ H fun vs H1 => ∃ a b xs ys, vs = [.ref a, .ref b] ∧ SqL K H1 a xs ∧ SqL K H1 b ys ∧ R (ItEZ K a b) H1
theorem pi_ez {X : Cx} {e e2 : Expr} {ta : TA} {p p2 pos pos2 tpos : Pos} {elts : List Expr} {kk : Nat} (hg : Gl X "enumerate") (hm : X.mg "enumerate" = none) (hg2 : Gl X "zip") (hm2 : X.mg "zip" = none) (ha : PA X [e, e2] ta)
    (hs : starEach [e, e2] X.env = (false, eval e X.env) :: starEach [e2] X.env := by rfl) (hpl : (backTo pos2 (starEach [e2] X.env)).any (·.1) = false := by rfl)
    (hs2 : starEach [.Call (.Name "zip" p2) [e, e2] [] pos2] X.env = (false, eval (.Call (.Name "zip" p2) [e, e2] [] pos2) X.env) :: starEach [] X.env := by rfl) :
    PI X (.Tuple elts kk tpos) (.Call (.Name "enumerate" p) [.Call (.Name "zip" p2) [e, e2] [] pos2] [] pos) (iEZ X.K ta) := by
  refine ⟨fun pins s σ H R I h => ?_⟩
  refine Call_ (ld_blt I hg hm boot_enumerate (PyProof.Rows.callWith_type1 (args_cons (Call_ (ld_blt I hg2 hm2 PyProof.Rows.boot_zip (PyProof.Rows.callWith_type1 (thn (ha.run pos2 pins s σ H _ I h) fun us s1 ⟨vs, H1, I1, r1, q1⟩ => ?_) hs hpl))) hs2) hs2 rfl))
  obtain ⟨a, b, xs, ys, ex, hqx, hqy, q⟩ := q1
  subst ex
  cases r1 with
  | cons r rr =>
    cases rr with
    | cons r' rr =>
      cases rr
      cases r
      cases r'
      obtain ⟨its, rv, p1, _⟩ := I1.list hqx
      obtain ⟨its2, rv2, p3, _⟩ := I1.list hqy
      have la := p1.lt
      have lb := p3.lt
      generalize hN : s1.heap.objs.size = N at la lb
      refine call_zip_2 p1.isList p3.isList fun h' hz hTI hTO g1 g2 hsz hk => args_nil ?_
      rw [hN] at hz hTI hTO g1 g2 hsz ⊢
      refine call_enum_zip (s := { s1 with heap := h' }) hz fun h'' he hsz2 hk2 => ?_
      have e5 : h'.objs.size = N + 5 := hsz
      replace he : IsEnum h'' h'.objs.size (N + 4) 0 .none := he
      show wpAny _ _ (pyIter (.ref h'.objs.size)) _ _ _
      rw [e5] at he ⊢
      refine wpAny_pyIter_enum he ?_
      have kk2 : ∀ c o, s1.heap.get? c = some o → h''.get? c = some o := fun c o x => hk2 c o (hk c o x)
      have I2 : Inv X pins σ H1 { s1 with heap := h'' } := I1.kept (t' := s1.toks) kk2
      have fresh6 : ∀ d, d ∈ [N + 5, N + 4, N + 2, N + 3, N, N + 1] → FpOk X pins H1 d := fun d hd => by
        have e' : d = N + 5 ∨ d = N + 4 ∨ d = N + 2 ∨ d = N + 3 ∨ d = N ∨ d = N + 1 := by simpa using hd
        have hle : s1.heap.objs.size ≤ d := by
          rw [hN]
          rcases e' with z | z | z | z | z | z
          · rw [z]; exact Nat.le_add_right _ _
          · rw [z]; exact Nat.le_add_right _ _
          · rw [z]; exact Nat.le_add_right _ _
          · rw [z]; exact Nat.le_add_right _ _
          · rw [z]; exact Nat.le_refl _
          · rw [z]; exact Nat.le_add_right _ _
        exact I1.fpOk hle (I1.hok.fresh hle)
      have ap : EApart (N + 5) (N + 4) (N + 2) (N + 3) N (N + 1) a b := e_apart N a b la lb
      exact ⟨N + 5, [N + 5, N + 4, N + 2, N + 3, N, N + 1], _, _, H1, rfl, I2, turn_ez ap, ⟨⟨.none, he⟩, ⟨⟨.none, false, hk2 _ _ hz, Or.inl rfl⟩, hk2 _ _ hTI, ⟨_, _, hk2 _ _ hTO⟩, g1.at fun o x => hk2 _ o x, g2.at fun o x => hk2 _ o x⟩⟩, fresh6, q⟩
section
variable {K : PySem.W.Frag} {p : Option Addr} {G1 : Hp} {a b : Addr} {xs ys : List V} {ds es : List PyData}
theorem wd_ez (h1 : SqL K G1 a xs) (ha : DpAll K G1 xs ds) (h2 : SqL K G1 b ys) (hb : DpAll K G1 ys es) : WalkD K p (fun G2 _ => Same G1 G2) (ItEZ K a b) (enD (ziD ds es)) := by
  have l1 := dpA_len ha
  have l2 := dpA_len hb
  have hl : (enD (ziD ds es)).length = min xs.length ys.length := by simp [enD, ziD, l1, l2]
  refine ⟨⟨fun H => SqL K H a xs ∧ SqL K H b ys, fun i H v H' => ∃ T1 T x y, v = .ref T ∧ H T1 = none ∧ upd H T1 (.tup [x, y]) T = none ∧ H' = upd (upd H T1 (.tup [x, y])) T (.tup [.int (i : Nat), .ref T1]) ∧ xs[i]? = some x ∧ ys[i]? = some y, ?_, fun G H r j => ⟨(r.trans j.sub).seq h1, (r.trans j.sub).seq h2⟩, fun i G H v H' hi r j y => ?_⟩⟩
  · rw [hl]
    refine ⟨fun i _ hi q => ?_, fun _ q => ⟨xs, ys, q.1, q.2, by omega, by omega, by omega⟩, fun i H v H' _ q y => ?_⟩
    · exact ⟨xs, ys, q.1, q.2, by omega, by omega⟩
    · obtain ⟨T1, T, x, y, e1, e2, e3, e4, e5, e6⟩ := y
      exact ⟨T1, T, x, y, e1, e2, e3, e4, e5 xs q.1, e6 ys q.2⟩
  · obtain ⟨T1, T, x, y, rfl, hT1, hT, rfl, hx, hy⟩ := y
    obtain ⟨d, hd, dx⟩ := dpA_at ha hx
    obtain ⟨e, he, dy⟩ := dpA_at hb hy
    have x2 := Xt.laid (p := p) j (o := .tup [x, y]) hT1
    have j2 := j.laid (o := .tup [x, y]) hT1
    have x3 := Xt.laid (p := p) j2 (o := .tup [.int (i : Nat), .ref T1]) hT
    have g := r.trans x2.gg
    have inner : Dp K (upd G T1 (.tup [x, y])) (.ref T1) (.tuple [d, e]) := .tup (SqT.of upd_same) (.cons (dp_mono g d x dx) (.cons (dp_mono g e y dy) .nil))
    exact ⟨_, .tuple [.int (i : Nat), .tuple [d, e]], x2.trans x3, j2.laid hT, by simp [enD, ziD, List.zip, List.getElem?_zipWith, hd, he], .tup (SqT.of upd_same) (.cons (.int _) (.cons (dp_mono x3.gg _ _ inner) .nil))⟩
end
def ezD (ds : List PyData) (Ψ : List PyData → Prop) : Prop := match ds with
  | [.list a, .list b] => Ψ (enD (ziD a b))
  | _ => False
def vEZ (f : WL) : WL := fun E Ψ => f E fun ds => ezD ds Ψ
section
variable {X : Cx} {p : Option Addr} {e e2 : Expr} {tA : TA} {fA : WL} {pos px p2 pos2 : Pos}
theorem di_ez {elts : List Expr} {kk : Nat} {tpos : Pos} (hg : Gl X "enumerate") (hm : X.mg "enumerate" = none) (hg2 : Gl X "zip") (hm2 : X.mg "zip" = none) (ha : DA X p [e, e2] tA fA)
    (hs : starEach [e, e2] X.env = (false, eval e X.env) :: starEach [e2] X.env := by rfl) (hpl : (backTo pos2 (starEach [e2] X.env)).any (·.1) = false := by rfl)
    (hs2 : starEach [.Call (.Name "zip" p2) [e, e2] [] pos2] X.env = (false, eval (.Call (.Name "zip" p2) [e, e2] [] pos2) X.env) :: starEach [] X.env := by rfl) :
    DI X p (.Tuple elts kk tpos) (.Call (.Name "enumerate" px) [.Call (.Name "zip" p2) [e, e2] [] pos2] [] pos) (iEZ X.K tA) (vEZ fA) := by
  refine ⟨pi_ez hg hm hg2 hm2 ha.py hs hpl hs2, fun E Ψ q => ?_⟩
  intro H0 G H σ j en R z
  refine ha.ok E _ q H0 G H σ j en _ fun vs ds G1 H1 x1 j1 dv hd => ?_
  have hd2 := hd.2
  unfold ezD at hd2
  split at hd2
  · cases dv with
    | cons d1 dr =>
      cases dr with
      | cons d2 dr =>
        cases dr
        obtain ⟨a, xs, rfl, hs, ha⟩ := dp_lst d1
        obtain ⟨b, ys, rfl, hs2, hb⟩ := dp_lst d2
        exact ⟨a, b, xs, ys, rfl, j1.sub.seq hs, j1.sub.seq hs2, z _ _ G1 H1 x1 j1 (wd_ez hs ha hs2 hb) hd2⟩
  · exact hd2.elim
end
end Rim

namespace Rim
open PySem PySem.Spec PyProof.Rows L2
@[reducible] def c_NOUGHT : PyData := .tuple [.tuple [.int 0, .int 1], .tuple [.int 0, .int 1]]
@[reducible] def c_UNIT : PyData := .tuple [.tuple [.int 1, .int 1], .tuple [.int 0, .int 1]]
@[reducible] def c_PRIME : PyData := .int 2305843009213693921
@[reducible] def c_TURN : PyData := .int 583529827753931384
def kp_2_10 {α : Type} (l : List α) : List α := match l with | [x0, x1] => [x1, x0] | _ => l
def b_reduced : WS := (vSeqS (vAsg 2 (vB oGcd (vCons (vVar 0) (vCons (vVar 1) vNil)))) (vSeqS (vIfS (vTest (vOp oLt (vVar 1) (vC (.int 0)))) (vAsg 2 (vNeg (vVar 2))) vNext) (vRet (vTup (vCons (vOp oDiv (vVar 0) (vVar 2)) (vCons (vOp oDiv (vVar 1) (vVar 2)) vNil))))))
def F_reduced : WF := mkF 2 1 b_reduced
def b_mirror : WS := (vSeqS (vAsgG (vOp oIx (vVar 0) (vC (.int 1))) (vgT 2 (vgCons (vgN 1) (vgCons (vgN 2) vgNil)))) (vRet (vTup (vCons (vOp oIx (vVar 0) (vC (.int 0))) (vCons (vTup (vCons (vNeg (vVar 1)) (vCons (vVar 2) vNil))) vNil)))))
def F_mirror : WF := mkF 1 2 b_mirror
def b_trimmed : WS := (vSeqS (vAsg 1 (vB oLen (vCons (vVar 0) vNil))) (vSeqS (vWhile (vAnd (vTest (vOp oGt (vVar 1) (vC (.int 0)))) (vTest (vOp oEq (vOp oIx (vVar 0) (vOp oSub (vVar 1) (vC (.int 1)))) (vC c_NOUGHT)))) (vAug 1 (fun i j => i - j) (vC (.int 1)))) (vRet (vB oTupOf (vCons (vSl (vVar 0) (fun _ Θ => Θ none) (vPart (vVar 1))) vNil)))))
def F_trimmed : WF := mkF 1 1 b_trimmed
def b_whole_parts : WS := (vSeqS (vAsg 1 (vC (.int 1))) (vSeqS (vFor (vSeq (vVar 0)) (vgT 2 (vgCons (vgT 2 (vgCons (vgN 2) (vgCons (vgN 3) vgNil))) (vgCons (vgT 2 (vgCons (vgN 2) (vgCons (vgN 4) vgNil))) vgNil))) (vAsg 1 (vB oLcm (vCons (vVar 1) (vCons (vB oLcm (vCons (vVar 3) (vCons (vVar 4) vNil))) vNil))))) (vSeqS (vAsg 5 (vOf (vLc [7, 8, 2] (vSeq (vVar 0)) (vgT 2 (vgCons (vgT 2 (vgCons (vgN 7) (vgCons (vgN 8) vgNil))) (vgCons (vgN 2) vgNil))) vYes (vOp oMul (vVar 7) (vOp oDiv (vVar 1) (vVar 8)))))) (vSeqS (vAsg 6 (vOf (vLc [2, 7, 8] (vSeq (vVar 0)) (vgT 2 (vgCons (vgN 2) (vgCons (vgT 2 (vgCons (vgN 7) (vgCons (vgN 8) vgNil))) vgNil))) vYes (vOp oMul (vVar 7) (vOp oDiv (vVar 1) (vVar 8)))))) (vRet (vTup (vCons (vVar 5) (vCons (vVar 6) (vCons (vVar 1) vNil)))))))))
def F_whole_parts : WF := mkF 1 8 b_whole_parts
def b_is_whole : WS := (vRet (vAndV (vIsi is_int (vVar 0)) (vNotV (vIsi is_bool (vVar 0)))))
def F_is_whole : WF := mkF 1 0 b_is_whole
def b_normed : WS := (vSeqS (vWhile (vAnd (vTru (vVar 0)) (vAnd (vTest (vOp oEq (vOp oIx (vVar 0) (vNeg (vC (.int 1)))) (vC (.int 0)))) (vTest (vOp oEq (vOp oIx (vVar 1) (vNeg (vC (.int 1)))) (vC (.int 0)))))) (vPar 0 1 (vCons (vSl (vVar 0) (fun _ Θ => Θ none) (vPart (vNeg (vC (.int 1))))) (vCons (vSl (vVar 1) (fun _ Θ => Θ none) (vPart (vNeg (vC (.int 1))))) vNil)))) (vSeqS (vIfS (vNot (vTru (vVar 0))) (vRet (vTup (vCons (vOf vNil) (vCons (vOf vNil) vNil)))) vNext) (vSeqS (vAsgG (vTup (vCons (vOp oIx (vVar 0) (vNeg (vC (.int 1)))) (vCons (vOp oIx (vVar 1) (vNeg (vC (.int 1)))) vNil))) (vgT 2 (vgCons (vgN 2) (vgCons (vgN 3) vgNil)))) (vSeqS (vAsg 4 (vOf (vLc [8, 9] (vZip (vCons (vVar 0) (vCons (vVar 1) vNil))) (vgT 2 (vgCons (vgN 8) (vgCons (vgN 9) vgNil))) vYes (vOp oAdd (vOp oMul (vVar 8) (vVar 2)) (vOp oMul (vVar 9) (vVar 3)))))) (vSeqS (vAsg 5 (vOf (vLc [8, 9] (vZip (vCons (vVar 0) (vCons (vVar 1) vNil))) (vgT 2 (vgCons (vgN 8) (vgCons (vgN 9) vgNil))) vYes (vOp oSub (vOp oMul (vVar 9) (vVar 2)) (vOp oMul (vVar 8) (vVar 3)))))) (vSeqS (vAsg 6 (vC (.int 0))) (vSeqS (vFor (vSeq (vOp oAdd (vVar 4) (vVar 5))) (vgN 7) (vAsg 6 (vB oGcd (vCons (vVar 6) (vCons (vVar 7) vNil))))) (vRet (vTup (vCons (vOf (vLc [7] (vSeq (vVar 4)) (vgN 7) vYes (vOp oDivL (vVar 7) (vVar 6)))) (vCons (vOf (vLc [7] (vSeq (vVar 5)) (vgN 7) vYes (vOp oDivL (vVar 7) (vVar 6)))) vNil)))))))))))
def F_normed : WF := mkF 2 8 b_normed
def b_by_prime : WS := (vRet (vOf (vLc [1, 2] (vZip (vCons (vOp oIx (vVar 0) (vC (.int 0))) (vCons (vOp oIx (vVar 0) (vC (.int 1))) vNil))) (vgT 2 (vgCons (vgN 1) (vgCons (vgN 2) vgNil))) vYes (vOp oMod (vOp oAdd (vVar 1) (vOp oMul (vVar 2) (vC c_TURN))) (vC c_PRIME)))))
def F_by_prime : WF := mkF 1 2 b_by_prime
def b_prime_rest : WS := (vSeqS (vAsgM 2 (vLst (vVar 0))) (vSeqS (vWhile (vViewT 2 (vTest (vOp oGe (vView 2 (vB oLen (vCons (vVar 2) vNil))) (vB oLen (vCons (vVar 1) vNil))))) (vSeqS (vPopA 2 3) (vSeqS (vAsg 4 (vOp oSub (vOp oAdd (vView 2 (vB oLen (vCons (vVar 2) vNil))) (vC (.int 1))) (vB oLen (vCons (vVar 1) vNil)))) (vSeqS (vAsgM 2 (vLc [6] (vSeqV 2) (vgN 6) vYes (vOp oMod (vOp oMul (vVar 6) (vOp oIx (vVar 1) (vNeg (vC (.int 1))))) (vC c_PRIME)))) (vFor (vEnumA (vCons (vSl (vVar 1) (fun _ Θ => Θ none) (vPart (vNeg (vC (.int 1))))) vNil)) (vgT 2 (vgCons (vgN 5) (vgCons (vgN 6) vgNil))) (vSetI 2 (vOp oMod (vOp oSub (vIxV 2 (vOp oAdd (vVar 4) (vVar 5))) (vOp oMul (vVar 3) (vVar 6))) (vC c_PRIME)) (vOp oAdd (vVar 4) (vVar 5)))))))) (vSeqS (vWhile (vAnd (vTruV 2) (vTest (vOp oEq (vIxV 2 (vNeg (vC (.int 1)))) (vC (.int 0))))) (vPop 2)) (vFroze 2 (vRet (vVar 2))))))
def F_prime_rest : WF := mkF 2 5 b_prime_rest
def b__law_pail : WL := (vSeqM (vAsg 2 (vIf (vTest (vOp oLt (vVar 1) (vB oLen (vCons (vVar 0) vNil)))) (vB oInt (vCons (vOp oIx (vVar 0) (vVar 1)) vNil)) (vOp oAdd (vOp oMul (vC (.int 977)) (vVar 1)) (vC (.int 41))))) (vSeqM (vAsg 3 (vOp oAdd (vC (.int 51043)) (vOp oMul (vC (.int 8009)) (vVar 1)))) (vSeqM (vFor (vSeq (vSl (vVar 0) (fun _ Θ => Θ none) (vPart (vC (.int 9))))) (vgN 4) (vAsg 3 (vOp oMod (vB oInt (vCons (vOp oAdd (vOp oAdd (vOp oMul (vVar 3) (vC (.int 69069))) (vOp oMul (vOp oMod (vB oInt (vCons (vVar 4) vNil)) (vC (.int 998244353))) (vC (.int 31)))) (vC (.int 7))) vNil)) (vC (.int 2147483629))))) (vSeqM (vAsg 5 (vOrV (vOp oLt (vVar 2) (vC (.int 0))) (vOp oGe (vVar 2) (vOp oPow (vC (.int 10)) (vC (.int 15)))))) (vCons (vIf (vTru (vVar 5)) (vB oAbs (vCons (vVar 2) vNil)) (vC (.int 0))) (vCons (vOp oMod (vB oInt (vCons (vOp oAdd (vOp oAdd (vOp oMul (vVar 3) (vC (.int 89))) (vOp oMul (vOp oMod (vB oInt (vCons (vVar 2) vNil)) (vC (.int 998244353))) (vC (.int 20011)))) (vC (.int 5))) vNil)) (vC (.int 2147483629))) (vCons (vC (.int 0)) vNil)))))))
def b__law_dip (a : Addr) : WS := (vSeqS (vIfS (vTest (vOp oGt (vPIx 0 a 0) (vC (.int 0)))) (vSeqS (vPPar 0 a 0 2 (vB oDivmod (vCons (vPIx 0 a 0) (vCons (vVar 1) vNil)))) (vRet (vVar 2))) vNext) (vSeqS (vPSet 0 a 2 (vOp oAdd (vPIx 0 a 2) (vC (.int 1)))) (vSeqS (vAsg 3 (vOp oMod (vB oInt (vCons (vOp oAdd (vOp oMul (vPIx 0 a 1) (vC (.int 48271))) (vOp oMul (vPIx 0 a 2) (vC (.int 69621)))) vNil)) (vC (.int 2147483629)))) (vSeqS (vPSet 0 a 1 (vOp oMod (vB oInt (vCons (vOp oAdd (vOp oMul (vVar 3) (vOp oAdd (vOp oDiv (vVar 3) (vC (.int 4099))) (vOp oMul (vC (.int 3)) (vPIx 0 a 2)))) (vC (.int 16807))) vNil)) (vC (.int 2147483629)))) (vRet (vOp oMod (vB oInt (vCons (vOp oDiv (vPIx 0 a 1) (vC (.int 257))) vNil)) (vVar 1)))))))
def F__law_dip : Addr → WF := mkQ 2 2 b__law_dip
def b__law_gcd : WS := (vSeqS (vPar 0 1 (vCons (vB oAbs (vCons (vVar 0) vNil)) (vCons (vB oAbs (vCons (vVar 1) vNil)) vNil))) (vSeqS (vWhile (vTest (vOp oGt (vVar 1) (vC (.int 0)))) (vPar 0 1 (vCons (vVar 1) (vCons (vOp oMod (vB oInt (vCons (vVar 0) vNil)) (vVar 1)) vNil)))) (vRet (vVar 0))))
def F__law_gcd : WF := mkF 2 0 b__law_gcd
def b__law_trim : WS := (vSeqS (vAsg 1 (vB oLen (vCons (vVar 0) vNil))) (vSeqS (vFor (vR1 (vCons (vB oLen (vCons (vVar 0) vNil)) vNil)) (vgN 2) (vIfS (vAnd (vTest (vOp oEq (vVar 1) (vOp oSub (vB oLen (vCons (vVar 0) vNil)) (vVar 2)))) (vTest (vOp oEq (vSl (vOp oIx (vVar 0) (vOp oSub (vVar 1) (vC (.int 1)))) (fun _ Θ => Θ none) (vPart (vC (.int 2)))) (vTup (vCons (vC (.int 0)) (vCons (vC (.int 0)) vNil)))))) (vAsg 1 (vOp oSub (vVar 1) (vC (.int 1)))) vNext)) (vRet (vOf (vLst (vSl (vVar 0) (fun _ Θ => Θ none) (vPart (vVar 1))))))))
def F__law_trim : WF := mkF 1 2 b__law_trim
def b__law_spread : WS := (vSeqS (vAsg 2 (vOf vNil)) (vSeqS (vFor (vR1 (vCons (vB oLen (vCons (vVar 0) vNil)) vNil)) (vgN 3) (vAsg 2 (vOp oAdd (vVar 2) (vOf (vRep (vCons (vOp oIx (vVar 0) (vVar 3)) vNil) (vOp oIx (vVar 1) (vVar 3))))))) (vRet (vVar 2))))
def F__law_spread : WF := mkF 2 2 b__law_spread
def b_fraction_less : WS := (vRet (vCall F_reduced (vCons (vOp oSub (vOp oMul (vOp oIx (vVar 0) (vC (.int 0))) (vOp oIx (vVar 1) (vC (.int 1)))) (vOp oMul (vOp oIx (vVar 1) (vC (.int 0))) (vOp oIx (vVar 0) (vC (.int 1))))) (vCons (vOp oMul (vOp oIx (vVar 0) (vC (.int 1))) (vOp oIx (vVar 1) (vC (.int 1)))) vNil))))
def F_fraction_less : WF := mkF 2 0 b_fraction_less
def b_fraction_times : WS := (vRet (vCall F_reduced (vCons (vOp oMul (vOp oIx (vVar 0) (vC (.int 0))) (vOp oIx (vVar 1) (vC (.int 0)))) (vCons (vOp oMul (vOp oIx (vVar 0) (vC (.int 1))) (vOp oIx (vVar 1) (vC (.int 1)))) vNil))))
def F_fraction_times : WF := mkF 2 0 b_fraction_times
def b_number_from : WS := (vRet (vTup (vCons (vCall F_reduced (vCons (vVar 0) (vCons (vVar 2) vNil))) (vCons (vCall F_reduced (vCons (vVar 1) (vCons (vVar 2) vNil))) vNil))))
def F_number_from : WF := mkF 3 0 b_number_from
def b_size_of : WS := (vSeqS (vAsgG (vVar 0) (vgT 2 (vgCons (vgT 2 (vgCons (vgN 1) (vgCons (vgN 2) vgNil))) (vgCons (vgT 2 (vgCons (vgN 3) (vgCons (vgN 4) vgNil))) vgNil)))) (vSeqS (vPar 1 3 (vCons (vOp oMul (vVar 1) (vVar 4)) (vCons (vOp oMul (vVar 3) (vVar 2)) vNil))) (vRet (vCall F_reduced (vCons (vOp oAdd (vOp oMul (vVar 1) (vVar 1)) (vOp oMul (vVar 3) (vVar 3))) (vCons (vOp oMul (vOp oMul (vOp oMul (vVar 2) (vVar 2)) (vVar 4)) (vVar 4)) vNil))))))
def F_size_of : WF := mkF 1 4 b_size_of
def b_is_fraction : WS := (vSeqS (vIfS (vOr (vNot (vTru (vIsi is_tuple (vVar 0)))) (vTest (vOp oNe (vB oLen (vCons (vVar 0) vNil)) (vC (.int 2))))) (vRet (vC (.bool false))) vNext) (vSeqS (vAsgG (vVar 0) (vgT 2 (vgCons (vgN 1) (vgCons (vgN 2) vgNil)))) (vRet (vAndV (vCall F_is_whole (vCons (vVar 1) vNil)) (vAndV (vCall F_is_whole (vCons (vVar 2) vNil)) (vAndV (vOp oGt (vVar 2) (vC (.int 0))) (vOp oEq (vB oGcd (vCons (vVar 1) (vCons (vVar 2) vNil))) (vC (.int 1)))))))))
def F_is_fraction : WF := mkF 1 2 b_is_fraction
def b_normed_rest : WS := (vSeqS (vAsgG (vVar 0) (vgT 2 (vgCons (vgN 2) (vgCons (vgN 3) vgNil)))) (vSeqS (vAsgG (vVar 1) (vgT 2 (vgCons (vgN 4) (vgCons (vgN 5) vgNil)))) (vSeqS (vAsg 6 (vOp oIx (vVar 4) (vNeg (vC (.int 1))))) (vSeqS (vWhile (vViewT 2 (vTest (vOp oGe (vView 2 (vB oLen (vCons (vVar 2) vNil))) (vB oLen (vCons (vVar 4) vNil))))) (vSeqS (vPar 7 8 (vCons (vIxV 2 (vNeg (vC (.int 1)))) (vCons (vIxV 3 (vNeg (vC (.int 1)))) vNil))) (vSeqS (vAsg 9 (vB oGcd (vCons (vB oGcd (vCons (vVar 7) (vCons (vVar 8) vNil))) (vCons (vVar 6) vNil)))) (vSeqS (vAsgG (vTup (vCons (vOp oDivL (vVar 7) (vVar 9)) (vCons (vOp oDivL (vVar 8) (vVar 9)) (vCons (vOp oDivL (vVar 6) (vVar 9)) vNil)))) (vgT 3 (vgCons (vgN 7) (vgCons (vgN 8) (vgCons (vgN 10) vgNil))))) (vSeqS (vAsg 11 (vOp oSub (vView 2 (vB oLen (vCons (vVar 2) vNil))) (vB oLen (vCons (vVar 4) vNil)))) (vSeqS (vAsgM 2 (vLc [15] (vSeqV 2) (vgN 15) vYes (vOp oMul (vVar 10) (vVar 15)))) (vSeqS (vAsgM 3 (vLc [15] (vSeqV 3) (vgN 15) vYes (vOp oMul (vVar 10) (vVar 15)))) (vSeqS (vFor (vEZ (vCons (vVar 4) (vCons (vVar 5) vNil))) (vgT 2 (vgCons (vgN 12) (vgCons (vgT 2 (vgCons (vgN 13) (vgCons (vgN 14) vgNil))) vgNil))) (vSeqS (vAugI 2 (fun i j => i - j) (vOp oSub (vOp oMul (vVar 7) (vVar 13)) (vOp oMul (vVar 8) (vVar 14))) (vOp oAdd (vVar 11) (vVar 12))) (vAugI 3 (fun i j => i - j) (vOp oAdd (vOp oMul (vVar 7) (vVar 14)) (vOp oMul (vVar 8) (vVar 13))) (vOp oAdd (vVar 11) (vVar 12))))) (vSeqS (vPop 2) (vPop 3)))))))))) (vFroze 3 (vFroze 2 (vRet (vCall F_normed (vCons (vVar 2) (vCons (vVar 3) vNil))))))))))
def F_normed_rest : WF := mkF 2 14 b_normed_rest
def b_surely_apart : WS := (vSeqS (vPar 2 3 (vCons (vCall F_by_prime (vCons (vVar 0) vNil)) (vCons (vCall F_by_prime (vCons (vVar 1) vNil)) vNil))) (vSeqS (vIfS (vOr (vTest (vOp oEq (vOp oIx (vVar 2) (vNeg (vC (.int 1)))) (vC (.int 0)))) (vTest (vOp oEq (vOp oIx (vVar 3) (vNeg (vC (.int 1)))) (vC (.int 0))))) (vRet (vC (.bool false))) vNext) (vSeqS (vWhile (vTest (vOp oGt (vB oLen (vCons (vVar 3) vNil)) (vC (.int 1)))) (vPar 2 3 (vCons (vVar 3) (vCons (vCall F_prime_rest (vCons (vVar 2) (vCons (vVar 3) vNil))) vNil)))) (vRet (vOp oEq (vB oLen (vCons (vVar 3) vNil)) (vC (.int 1)))))))
def F_surely_apart : WF := mkF 2 2 b_surely_apart
def b__law_cut : WS := (vSeqS (vAsg 3 (vCall F__law_gcd (vCons (vCall F__law_gcd (vCons (vVar 0) (vCons (vVar 1) vNil))) (vCons (vVar 2) vNil)))) (vSeqS (vIfS (vTest (vOp oLt (vVar 2) (vC (.int 0)))) (vAsg 3 (vOp oSub (vC (.int 0)) (vVar 3))) vNext) (vRet (vTup (vCons (vOp oDiv (vVar 0) (vVar 3)) (vCons (vOp oDiv (vVar 1) (vVar 3)) (vCons (vOp oDiv (vVar 2) (vVar 3)) vNil)))))))
def F__law_cut : WF := mkF 3 1 b__law_cut
def b__law_fraction : WS := (vSeqS (vAsg 2 (vCall F__law_gcd (vCons (vVar 0) (vCons (vVar 1) vNil)))) (vSeqS (vIfS (vTest (vOp oLt (vVar 1) (vC (.int 0)))) (vAsg 2 (vOp oSub (vC (.int 0)) (vVar 2))) vNext) (vRet (vTup (vCons (vOp oDiv (vVar 0) (vVar 2)) (vCons (vOp oDiv (vVar 1) (vVar 2)) vNil))))))
def F__law_fraction : WF := mkF 2 1 b__law_fraction
def b_less : WS := (vRet (vTup (vCons (vCall F_fraction_less (vCons (vOp oIx (vVar 0) (vC (.int 0))) (vCons (vOp oIx (vVar 1) (vC (.int 0))) vNil))) (vCons (vCall F_fraction_less (vCons (vOp oIx (vVar 0) (vC (.int 1))) (vCons (vOp oIx (vVar 1) (vC (.int 1))) vNil))) vNil))))
def F_less : WF := mkF 2 0 b_less
def b_times : WS := (vSeqS (vAsgG (vVar 0) (vgT 2 (vgCons (vgT 2 (vgCons (vgN 2) (vgCons (vgN 3) vgNil))) (vgCons (vgT 2 (vgCons (vgN 4) (vgCons (vgN 5) vgNil))) vgNil)))) (vSeqS (vAsgG (vVar 1) (vgT 2 (vgCons (vgT 2 (vgCons (vgN 6) (vgCons (vgN 7) vgNil))) (vgCons (vgT 2 (vgCons (vgN 8) (vgCons (vgN 9) vgNil))) vgNil)))) (vSeqS (vAsgG (vTup (vCons (vOp oMul (vVar 2) (vVar 5)) (vCons (vOp oMul (vVar 4) (vVar 3)) (vCons (vOp oMul (vVar 6) (vVar 9)) (vCons (vOp oMul (vVar 8) (vVar 7)) vNil))))) (vgT 4 (vgCons (vgN 2) (vgCons (vgN 4) (vgCons (vgN 6) (vgCons (vgN 8) vgNil)))))) (vRet (vCall F_number_from (vCons (vOp oSub (vOp oMul (vVar 2) (vVar 6)) (vOp oMul (vVar 4) (vVar 8))) (vCons (vOp oAdd (vOp oMul (vVar 2) (vVar 8)) (vOp oMul (vVar 4) (vVar 6))) (vCons (vOp oMul (vOp oMul (vOp oMul (vVar 3) (vVar 5)) (vVar 7)) (vVar 9)) vNil))))))))
def F_times : WF := mkF 2 8 b_times
def b_scaled : WS := (vRet (vTup (vCons (vCall F_fraction_times (vCons (vOp oIx (vVar 0) (vC (.int 0))) (vCons (vVar 1) vNil))) (vCons (vCall F_fraction_times (vCons (vOp oIx (vVar 0) (vC (.int 1))) (vCons (vVar 1) vNil))) vNil))))
def F_scaled : WF := mkF 2 0 b_scaled
def b_is_number : WS := (vRet (vAndV (vIsi is_tuple (vVar 0)) (vAndV (vOp oEq (vB oLen (vCons (vVar 0) vNil)) (vC (.int 2))) (vAndV (vCall F_is_fraction (vCons (vOp oIx (vVar 0) (vC (.int 0))) vNil)) (vCall F_is_fraction (vCons (vOp oIx (vVar 0) (vC (.int 1))) vNil))))))
def F_is_number : WF := mkF 1 0 b_is_number
def b__law_drawn (a : Addr) : WS := (vSeqS (vPar 3 4 (vCons (vOp oSub (vCallQ 0 a F__law_dip (vCons (vOp oAdd (vOp oMul (vC (.int 2)) (vVar 1)) (vC (.int 1))) vNil)) (vVar 1)) (vCons (vOp oSub (vCallQ 0 a F__law_dip (vCons (vOp oAdd (vOp oMul (vC (.int 2)) (vVar 1)) (vC (.int 1))) vNil)) (vVar 1)) vNil))) (vSeqS (vIfS (vTest (vOp oEq (vCallQ 0 a F__law_dip (vCons (vC (.int 3)) vNil)) (vC (.int 0)))) (vAsg 4 (vC (.int 0))) vNext) (vRet (vCall F__law_cut (vCons (vVar 3) (vCons (vVar 4) (vCons (vOp oAdd (vC (.int 1)) (vCallQ 0 a F__law_dip (vCons (vVar 2) vNil))) vNil)))))))
def F__law_drawn : Addr → WF := mkQ 3 2 b__law_drawn
def b__law_add : WS := (vRet (vCall F__law_cut (vCons (vOp oAdd (vOp oMul (vOp oIx (vVar 0) (vC (.int 0))) (vOp oIx (vVar 1) (vC (.int 2)))) (vOp oMul (vOp oIx (vVar 1) (vC (.int 0))) (vOp oIx (vVar 0) (vC (.int 2))))) (vCons (vOp oAdd (vOp oMul (vOp oIx (vVar 0) (vC (.int 1))) (vOp oIx (vVar 1) (vC (.int 2)))) (vOp oMul (vOp oIx (vVar 1) (vC (.int 1))) (vOp oIx (vVar 0) (vC (.int 2))))) (vCons (vOp oMul (vOp oIx (vVar 0) (vC (.int 2))) (vOp oIx (vVar 1) (vC (.int 2)))) vNil)))))
def F__law_add : WF := mkF 2 0 b__law_add
def b__law_times : WS := (vRet (vCall F__law_cut (vCons (vOp oSub (vOp oMul (vOp oIx (vVar 0) (vC (.int 0))) (vOp oIx (vVar 1) (vC (.int 0)))) (vOp oMul (vOp oIx (vVar 0) (vC (.int 1))) (vOp oIx (vVar 1) (vC (.int 1))))) (vCons (vOp oAdd (vOp oMul (vOp oIx (vVar 0) (vC (.int 0))) (vOp oIx (vVar 1) (vC (.int 1)))) (vOp oMul (vOp oIx (vVar 0) (vC (.int 1))) (vOp oIx (vVar 1) (vC (.int 0))))) (vCons (vOp oMul (vOp oIx (vVar 0) (vC (.int 2))) (vOp oIx (vVar 1) (vC (.int 2)))) vNil)))))
def F__law_times : WF := mkF 2 0 b__law_times
def b__law_row_times : WS := (vSeqS (vPar2 2 3 (fM vNil) (fD (vC (.int 1)))) (vSeqS (vFor (vSeq (vOf (vCons (vVar 0) (vCons (vVar 1) vNil)))) (vgN 4) (vSeqS (vAsg 5 (vC (.int 1))) (vSeqS (vFor (vSeq (vVar 4)) (vgN 6) (vAsg 5 (vOp oMul (vOp oDiv (vVar 5) (vCall F__law_gcd (vCons (vVar 5) (vCons (vOp oIx (vVar 6) (vC (.int 2))) vNil)))) (vOp oIx (vVar 6) (vC (.int 2)))))) (vSeqS (vApp 2 (vOf (vLc [6] (vSeq (vVar 4)) (vgN 6) vYes (vTup (vCons (vOp oMul (vOp oIx (vVar 6) (vC (.int 0))) (vOp oDiv (vVar 5) (vOp oIx (vVar 6) (vC (.int 2))))) (vCons (vOp oMul (vOp oIx (vVar 6) (vC (.int 1))) (vOp oDiv (vVar 5) (vOp oIx (vVar 6) (vC (.int 2))))) vNil)))))) (vAsg 3 (vOp oMul (vVar 3) (vVar 5))))))) (vSeqS (vAsg 7 (vB oMax (vCons (vC (.int 0)) (vCons (vOp oSub (vOp oAdd (vB oLen (vCons (vVar 0) vNil)) (vB oLen (vCons (vVar 1) vNil))) (vC (.int 1))) vNil)))) (vSeqS (vPar2 8 9 (fM (vRep (vCons (vC (.int 0)) vNil) (vVar 7))) (fM (vRep (vCons (vC (.int 0)) vNil) (vVar 7)))) (vSeqS (vFor (vR1 (vCons (vB oLen (vCons (vVar 0) vNil)) vNil)) (vgN 10) (vFor (vR1 (vCons (vB oLen (vCons (vVar 1) vNil)) vNil)) (vgN 11) (vSeqS (vAsgG (vOp oIx (vIxV 2 (vC (.int 0))) (vVar 10)) (vgT 2 (vgCons (vgN 12) (vgCons (vgN 13) vgNil)))) (vSeqS (vAsgG (vOp oIx (vIxV 2 (vC (.int 1))) (vVar 11)) (vgT 2 (vgCons (vgN 14) (vgCons (vgN 15) vgNil)))) (vSeqS (vSetI 8 (vOp oSub (vOp oAdd (vIxV 8 (vOp oAdd (vVar 10) (vVar 11))) (vOp oMul (vVar 12) (vVar 14))) (vOp oMul (vVar 13) (vVar 15))) (vOp oAdd (vVar 10) (vVar 11))) (vSetI 9 (vOp oAdd (vOp oAdd (vIxV 9 (vOp oAdd (vVar 10) (vVar 11))) (vOp oMul (vVar 12) (vVar 15))) (vOp oMul (vVar 13) (vVar 14))) (vOp oAdd (vVar 10) (vVar 11)))))))) (vRet (vCall F__law_trim (vCons (vOf (vLc [11] (vR1 (vCons (vVar 7) vNil)) (vgN 11) vYes (vCall F__law_cut (vCons (vIxV 8 (vVar 11)) (vCons (vIxV 9 (vVar 11)) (vCons (vVar 3) vNil)))))) vNil))))))))
def F__law_row_times : WF := mkF 2 14 b__law_row_times
def b__law_told : WS := (vRet (vTup (vCons (vCall F__law_fraction (vCons (vOp oIx (vVar 0) (vC (.int 0))) (vCons (vOp oIx (vVar 0) (vC (.int 2))) vNil))) (vCons (vCall F__law_fraction (vCons (vOp oIx (vVar 0) (vC (.int 1))) (vCons (vOp oIx (vVar 0) (vC (.int 2))) vNil))) vNil))))
def F__law_told : WF := mkF 1 0 b__law_told
def b__law_over : WS := (vSeqS (vAsg 2 (vOp oMul (vOp oIx (vVar 0) (vC (.int 2))) (vOp oAdd (vOp oMul (vOp oIx (vVar 1) (vC (.int 0))) (vOp oIx (vVar 1) (vC (.int 0)))) (vOp oMul (vOp oIx (vVar 1) (vC (.int 1))) (vOp oIx (vVar 1) (vC (.int 1))))))) (vRet (vCall F__law_cut (vCons (vOp oMul (vOp oAdd (vOp oMul (vOp oIx (vVar 0) (vC (.int 0))) (vOp oIx (vVar 1) (vC (.int 0)))) (vOp oMul (vOp oIx (vVar 0) (vC (.int 1))) (vOp oIx (vVar 1) (vC (.int 1))))) (vOp oIx (vVar 1) (vC (.int 2)))) (vCons (vOp oMul (vOp oSub (vOp oMul (vOp oIx (vVar 0) (vC (.int 1))) (vOp oIx (vVar 1) (vC (.int 0)))) (vOp oMul (vOp oIx (vVar 0) (vC (.int 0))) (vOp oIx (vVar 1) (vC (.int 1))))) (vOp oIx (vVar 1) (vC (.int 2)))) (vCons (vVar 2) vNil))))))
def F__law_over : WF := mkF 2 1 b__law_over
def b_over : WS := (vSeqS (vAsgG (vCall F_size_of (vCons (vVar 1) vNil)) (vgT 2 (vgCons (vgN 2) (vgCons (vgN 3) vgNil)))) (vRet (vCall F_scaled (vCons (vCall F_times (vCons (vVar 0) (vCons (vCall F_mirror (vCons (vVar 1) vNil)) vNil))) (vCons (vTup (vCons (vVar 3) (vCons (vVar 2) vNil))) vNil)))))
def F_over : WF := mkF 2 2 b_over
def b__law_row (a : Addr) : WS := (vSeqS (vAsg 2 (vOf (vLc [3] (vR1 (vCons (vCallQ 0 a F__law_dip (vCons (vOp oAdd (vVar 1) (vC (.int 1))) vNil)) vNil)) (vgN 3) vYes (vCallQ 0 a F__law_drawn (vCons (vC (.int 4)) (vCons (vC (.int 3)) vNil)))))) (vRet (vCall F__law_trim (vCons (vOf (vLc [4] (vSeq (vVar 2)) (vgN 4) vYes (vIf (vTest (vOp oEq (vCallQ 0 a F__law_dip (vCons (vC (.int 5)) vNil)) (vC (.int 0)))) (vTup (vCons (vC (.int 0)) (vCons (vC (.int 0)) (vCons (vC (.int 1)) vNil)))) (vVar 4)))) vNil))))
def F__law_row : Addr → WF := mkQ 2 3 b__law_row
def b__law_row_sum : WS := (vSeqS (vAsg 2 (vB oMax (vCons (vB oLen (vCons (vVar 0) vNil)) (vCons (vB oLen (vCons (vVar 1) vNil)) vNil)))) (vSeqS (vAsg 3 (vOf (vLc [4] (vSeq (vOf (vCons (vVar 0) (vCons (vVar 1) vNil)))) (vgN 4) vYes (vOp oAdd (vOf (vLst (vVar 4))) (vOf (vRep (vCons (vTup (vCons (vC (.int 0)) (vCons (vC (.int 0)) (vCons (vC (.int 1)) vNil)))) vNil) (vOp oSub (vVar 2) (vB oLen (vCons (vVar 4) vNil))))))))) (vRet (vCall F__law_trim (vCons (vOf (vLc [5] (vR1 (vCons (vVar 2) vNil)) (vgN 5) vYes (vCall F__law_add (vCons (vOp oIx (vOp oIx (vVar 3) (vC (.int 0))) (vVar 5)) (vCons (vOp oIx (vOp oIx (vVar 3) (vC (.int 1))) (vVar 5)) vNil))))) vNil)))))
def F__law_row_sum : WF := mkF 2 4 b__law_row_sum
def b__law_told_row : WS := (vRet (vB oTupOf (vCons (vOf (vLc [1] (vSeq (vCall F__law_trim (vCons (vVar 0) vNil))) (vgN 1) vYes (vCall F__law_told (vCons (vVar 1) vNil)))) vNil)))
def F__law_told_row : WF := mkF 1 1 b__law_told_row
def b__law_monic : WS := (vSeqS (vAsg 1 (vOf (vCons (vTup (vCons (vC (.int 1)) (vCons (vC (.int 0)) (vCons (vC (.int 1)) vNil)))) vNil))) (vSeqS (vFor (vSeq (vVar 0)) (vgN 2) (vAsg 1 (vCall F__law_row_times (vCons (vVar 1) (vCons (vOf (vCons (vTup (vCons (vOp oSub (vC (.int 0)) (vOp oIx (vVar 2) (vC (.int 0)))) (vCons (vOp oSub (vC (.int 0)) (vOp oIx (vVar 2) (vC (.int 1)))) (vCons (vOp oIx (vVar 2) (vC (.int 2))) vNil)))) (vCons (vTup (vCons (vC (.int 1)) (vCons (vC (.int 0)) (vCons (vC (.int 1)) vNil)))) vNil))) vNil))))) (vRet (vVar 1))))
def F__law_monic : WF := mkF 1 2 b__law_monic
def b__law_scaled : WS := (vRet (vOf (vLc [2] (vSeq (vVar 0)) (vgN 2) vYes (vCall F__law_times (vCons (vVar 2) (vCons (vVar 1) vNil))))))
def F__law_scaled : WF := mkF 2 1 b__law_scaled
def b__law_many (a : Addr) : WS := (vSeqS (vAsg 1 (vCallQ 0 a F__law_drawn (vCons (vC (.int 4)) (vCons (vC (.int 3)) vNil)))) (vRet (vIf (vTest (vOp oNe (vSl (vVar 1) (fun _ Θ => Θ none) (vPart (vC (.int 2)))) (vTup (vCons (vC (.int 0)) (vCons (vC (.int 0)) vNil))))) (vVar 1) (vTup (vCons (vC (.int 0)) (vCons (vOp oSub (vC (.int 0)) (vC (.int 1))) (vCons (vC (.int 2)) vNil)))))))
def F__law_many : Addr → WF := mkQ 1 1 b__law_many
def b__law_roots (a : Addr) : WS := (vSeqS (vAsgM 1 vNil) (vSeqS (vFor (vR1 (vCons (vCallQ 0 a F__law_dip (vCons (vC (.int 4)) vNil)) vNil)) (vgN 2) (vSeqS (vAsg 3 (vCallQ 0 a F__law_drawn (vCons (vC (.int 3)) (vCons (vC (.int 2)) vNil)))) (vIfS (vViewT 1 (vTest (vOp oNotIn (vVar 3) (vVar 1)))) (vApp 1 (vVar 3)) vNext))) (vFroze 1 (vRet (vVar 1)))))
def F__law_roots : Addr → WF := mkQ 1 3 b__law_roots
def b_divided : WS := (vSeqS (vAsgM 2 (vLst (vVar 0))) (vSeqS (vAsg 3 (vCall F_over (vCons (vC c_UNIT) (vCons (vOp oIx (vVar 1) (vNeg (vC (.int 1)))) vNil)))) (vSeqS (vAsg 4 (vB oMax (vCons (vC (.int 0)) (vCons (vOp oAdd (vOp oSub (vB oLen (vCons (vVar 0) vNil)) (vB oLen (vCons (vVar 1) vNil))) (vC (.int 1))) vNil)))) (vSeqS (vAsgM 5 (vRep (vCons (vC c_NOUGHT) vNil) (vVar 4))) (vSeqS (vFor (vRvR1 (vVar 4)) (vgN 6) (vSeqS (vAsg 7 (vCall F_times (vCons (vIxV 2 (vOp oSub (vOp oAdd (vVar 6) (vB oLen (vCons (vVar 1) vNil))) (vC (.int 1)))) (vCons (vVar 3) vNil)))) (vSeqS (vSetI 5 (vVar 7) (vVar 6)) (vIfS (vTest (vOp oNe (vVar 7) (vC c_NOUGHT))) (vFor (vEnumA (vCons (vVar 1) vNil)) (vgT 2 (vgCons (vgN 8) (vgCons (vgN 9) vgNil))) (vSetI 2 (vCall F_less (vCons (vIxV 2 (vOp oAdd (vVar 6) (vVar 8))) (vCons (vCall F_times (vCons (vVar 7) (vCons (vVar 9) vNil))) vNil))) (vOp oAdd (vVar 6) (vVar 8)))) vNext)))) (vFroze 2 (vRet (vTup (vCons (vTupV 5) (vCons (vCall F_trimmed (vCons (vVar 2) vNil)) vNil))))))))))
def F_divided : WF := mkF 2 8 b_divided
def b_common : WS := (vSeqS (vAsgG (vCall F_whole_parts (vCons (vVar 0) vNil)) (vgT 3 (vgCons (vgN 2) (vgCons (vgN 3) (vgCons (vgN 4) vgNil))))) (vSeqS (vAsg 5 (vCall F_normed (vCons (vVar 2) (vCons (vVar 3) vNil)))) (vSeqS (vAsgG (vCall F_whole_parts (vCons (vVar 1) vNil)) (vgT 3 (vgCons (vgN 2) (vgCons (vgN 3) (vgCons (vgN 4) vgNil))))) (vSeqS (vAsg 6 (vCall F_normed (vCons (vVar 2) (vCons (vVar 3) vNil)))) (vSeqS (vIfS (vAnd (vTru (vOp oIx (vVar 5) (vC (.int 0)))) (vAnd (vTru (vOp oIx (vVar 6) (vC (.int 0)))) (vTru (vCall F_surely_apart (vCons (vVar 5) (vCons (vVar 6) vNil)))))) (vRet (vTup (vCons (vC c_UNIT) vNil))) vNext) (vSeqS (vWhile (vTru (vOp oIx (vVar 6) (vC (.int 0)))) (vPar 5 6 (vCons (vVar 6) (vCons (vCall F_normed_rest (vCons (vVar 5) (vCons (vVar 6) vNil))) vNil)))) (vSeqS (vAsgG (vVar 5) (vgT 2 (vgCons (vgN 2) (vgCons (vgN 3) vgNil)))) (vRet (vTupG [7, 8] (vZip (vCons (vVar 2) (vCons (vVar 3) vNil))) (vgT 2 (vgCons (vgN 7) (vgCons (vgN 8) vgNil))) vYes (vCall F_number_from (vCons (vVar 7) (vCons (vVar 8) (vCons (vOp oIx (vVar 2) (vNeg (vC (.int 1)))) vNil)))))))))))))
def F_common : WF := mkF 2 7 b_common
def b_is_row : WS := (vSeqS (vIfS (vOr (vNot (vTru (vIsi is_tuple (vVar 0)))) (vNot (vTru (vAllG [1] (vSeq (vVar 0)) (vgN 1) vYes (vCall F_is_number (vCons (vVar 1) vNil)))))) (vRet (vC (.bool false))) vNext) (vRet (vOrV (vNotT (vVar 0)) (vOp oNe (vOp oIx (vVar 0) (vNeg (vC (.int 1)))) (vC c_NOUGHT)))))
def F_is_row : WF := mkF 1 1 b_is_row
def b_need_row : WS := (vIfS (vNot (vTru (vCall F_is_row (vCons (vVar 0) vNil)))) vNever vNext)
def F_need_row : WF := mkF 1 0 b_need_row
def b_row_divided : WS := (vSeqS (vDrop (vCall F_need_row (vCons (vVar 0) vNil))) (vSeqS (vDrop (vCall F_need_row (vCons (vVar 1) vNil))) (vSeqS (vIfS (vNot (vTru (vVar 1))) vNever vNext) (vRet (vCall F_divided (vCons (vVar 0) (vCons (vVar 1) vNil)))))))
def F_row_divided : WF := mkF 2 0 b_row_divided
def b_row_common : WS := (vSeqS (vDrop (vCall F_need_row (vCons (vVar 0) vNil))) (vSeqS (vDrop (vCall F_need_row (vCons (vVar 1) vNil))) (vRet (vCall F_common (vCons (vVar 0) (vCons (vVar 1) vNil))))))
def F_row_common : WF := mkF 2 0 b_row_common
def b__law_divided (a : Addr) : WS := (vSeqS (vAsg 1 (vOp oAdd (vCallQ 0 a F__law_row (vCons (vC (.int 3)) vNil)) (vOf (vCons (vCallQ 0 a F__law_many vNil) vNil)))) (vSeqS (vPar 2 3 (vCons (vCallQ 0 a F__law_row (vCons (vC (.int 4)) vNil)) (vCons (vCallQ 0 a F__law_row (vCons (vC (.int 4)) vNil)) vNil))) (vSeqS (vAsg 3 (vCall F__law_trim (vCons (vSl (vVar 3) (fun _ Θ => Θ none) (vPart (vOp oSub (vB oLen (vCons (vVar 1) vNil)) (vC (.int 1))))) vNil))) (vSeqS (vAsg 4 (vCall F__law_row_sum (vCons (vCall F__law_row_times (vCons (vVar 1) (vCons (vVar 2) vNil))) (vCons (vVar 3) vNil)))) (vSeqS (vAsg 5 (vTup (vCons (vCall F__law_told_row (vCons (vVar 2) vNil)) (vCons (vCall F__law_told_row (vCons (vVar 3) vNil)) vNil)))) (vSeqS (vPar 6 7 (vCons (vCall F__law_told_row (vCons (vVar 4) vNil)) (vCons (vCall F__law_told_row (vCons (vVar 1) vNil)) vNil))) (vRet (vOp oEq (vB oRepr (vCons (vOf (vCons (vCall F_row_divided (vCons (vVar 6) (vCons (vVar 7) vNil))) (vCons (vCallK F_row_divided kp_2_10 (vCons (vVar 7) (vCons (vVar 6) vNil))) vNil))) vNil)) (vB oRepr (vCons (vOf (vCons (vVar 5) (vCons (vVar 5) vNil))) vNil))))))))))
def F__law_divided : Addr → WF := mkQ 1 7 b__law_divided
def b__law_right_6 (a : Addr) : WS := (vSeqS (vIfS (vNot (vTru (vCallQ 0 a F__law_divided vNil))) (vRet (vC (.bool false))) vNext) (vSeqS (vAsg 1 (vCallQ 0 a F__law_roots vNil)) (vSeqS (vAsgG (vTup (vCons (vOf (vLc [16] (vSeq (vVar 1)) (vgN 16) vYes (vCallQ 0 a F__law_dip (vCons (vC (.int 3)) vNil)))) (vCons (vOf (vLc [16] (vSeq (vVar 1)) (vgN 16) vYes (vCallQ 0 a F__law_dip (vCons (vC (.int 3)) vNil)))) vNil))) (vgT 2 (vgCons (vgN 2) (vgCons (vgN 3) vgNil)))) (vSeqS (vAsg 4 (vOf (vLc [17] (vR1 (vCons (vB oLen (vCons (vVar 1) vNil)) vNil)) (vgN 17) vYes (vB oMin (vCons (vOp oIx (vVar 2) (vVar 17)) (vCons (vOp oIx (vVar 3) (vVar 17)) vNil)))))) (vSeqS (vAsg 5 (vCall F__law_monic (vCons (vCall F__law_spread (vCons (vVar 1) (vCons (vVar 4) vNil))) vNil))) (vSeqS (vPar 6 7 (vCons (vCallQ 0 a F__law_many vNil) (vCons (vCallQ 0 a F__law_many vNil) vNil))) (vSeqS (vAsg 8 (vCall F__law_scaled (vCons (vCall F__law_monic (vCons (vCall F__law_spread (vCons (vVar 1) (vCons (vOf (vLc [17] (vR1 (vCons (vB oLen (vCons (vVar 1) vNil)) vNil)) (vgN 17) vYes (vOp oSub (vOp oIx (vVar 2) (vVar 17)) (vOp oIx (vVar 4) (vVar 17))))) vNil))) vNil)) (vCons (vVar 6) vNil)))) (vSeqS (vAsg 9 (vCall F__law_scaled (vCons (vCall F__law_monic (vCons (vCall F__law_spread (vCons (vVar 1) (vCons (vOf (vLc [17] (vR1 (vCons (vB oLen (vCons (vVar 1) vNil)) vNil)) (vgN 17) vYes (vOp oSub (vOp oIx (vVar 3) (vVar 17)) (vOp oIx (vVar 4) (vVar 17))))) vNil))) vNil)) (vCons (vVar 7) vNil)))) (vSeqS (vPar 10 11 (vCons (vCall F__law_row_times (vCons (vVar 5) (vCons (vVar 8) vNil))) (vCons (vCall F__law_row_times (vCons (vVar 5) (vCons (vVar 9) vNil))) vNil))) (vSeqS (vPar3 12 13 14 (vCons (vCall F__law_told_row (vCons (vVar 10) vNil)) (vCons (vCall F__law_told_row (vCons (vVar 11) vNil)) (vCons (vCall F__law_told_row (vCons (vVar 5) vNil)) vNil)))) (vSeqS (vIfS (vTest (vOp oNe (vB oRepr (vCons (vOf (vCons (vCall F_row_common (vCons (vVar 12) (vCons (vVar 13) vNil))) (vCons (vCallK F_row_common kp_2_10 (vCons (vVar 12) (vCons (vVar 13) vNil))) (vCons (vCall F_row_divided (vCons (vVar 12) (vCons (vVar 14) vNil))) vNil)))) vNil)) (vB oRepr (vCons (vOf (vCons (vVar 14) (vCons (vVar 14) (vCons (vTup (vCons (vCall F__law_told_row (vCons (vVar 8) vNil)) (vCons (vTup vNil) vNil))) vNil)))) vNil)))) (vRet (vC (.bool false))) vNext) (vSeqS (vIfS (vTest (vOp oNe (vB oRepr (vCons (vCall F_row_divided (vCons (vVar 13) (vCons (vCall F_row_common (vCons (vVar 12) (vCons (vVar 13) vNil))) vNil))) vNil)) (vB oRepr (vCons (vTup (vCons (vCall F__law_told_row (vCons (vVar 9) vNil)) (vCons (vTup vNil) vNil))) vNil)))) (vRet (vC (.bool false))) vNext) (vSeqS (vAsg 15 (vCall F__law_told_row (vCons (vCall F__law_scaled (vCons (vVar 10) (vCons (vCall F__law_over (vCons (vTup (vCons (vC (.int 1)) (vCons (vC (.int 0)) (vCons (vC (.int 1)) vNil)))) (vCons (vVar 6) vNil))) vNil))) vNil))) (vRet (vOp oEq (vB oRepr (vCons (vOf (vCons (vCall F_row_common (vCons (vVar 12) (vCons (vTup vNil) vNil))) (vCons (vCall F_row_common (vCons (vTup vNil) (vCons (vVar 12) vNil))) (vCons (vCall F_row_common (vCons (vTup vNil) (vCons (vTup vNil) vNil))) vNil)))) vNil)) (vB oRepr (vCons (vOf (vCons (vVar 15) (vCons (vVar 15) (vCons (vTup vNil) vNil)))) vNil)))))))))))))))))
def F__law_right_6 : Addr → WF := mkQ 1 17 b__law_right_6
def b_law_6 : WS := (vRet (vB oAll (vCons (vOf (vLc [1] (vR1 (vCons (vB oMax (vCons (vC (.int 2)) (vCons (vB oMin (vCons (vB oLen (vCons (vVar 0) vNil)) (vCons (vC (.int 3)) vNil))) vNil))) vNil)) (vgN 1) vYes (vTurnC F__law_right_6 (vCons (vVar 0) (vCons (vVar 1) vNil))))) vNil)))
end Rim
namespace Rim
open PySem PySem.Spec PyProof.Rows L2
def top (i : Nat) : Stmt := PySem.Challenge.pw_withinrim_k05_whole_rows_divided_and_com.main.body.getD i (.Pass ⟨0, 0, 0, 0⟩)
abbrev s_reduced : Stmt := top 8
abbrev s_fraction_less : Stmt := top 9
abbrev s_fraction_times : Stmt := top 10
abbrev s_number_from : Stmt := top 11
abbrev s_less : Stmt := top 12
abbrev s_times : Stmt := top 13
abbrev s_mirror : Stmt := top 14
abbrev s_size_of : Stmt := top 15
abbrev s_scaled : Stmt := top 16
abbrev s_over : Stmt := top 17
abbrev s_trimmed : Stmt := top 18
abbrev s_whole_parts : Stmt := top 19
abbrev s_is_whole : Stmt := top 21
abbrev s_is_fraction : Stmt := top 22
abbrev s_is_number : Stmt := top 23
abbrev s_is_row : Stmt := top 27
abbrev s_need_row : Stmt := top 28
abbrev s_divided : Stmt := top 29
abbrev s_normed : Stmt := top 30
abbrev s_normed_rest : Stmt := top 31
abbrev s_by_prime : Stmt := top 32
abbrev s_prime_rest : Stmt := top 33
abbrev s_surely_apart : Stmt := top 34
abbrev s_common : Stmt := top 35
abbrev s_row_divided : Stmt := top 36
abbrev s_row_common : Stmt := top 37
abbrev s__law_pail : Stmt := top 39
abbrev s__law_dip : Stmt := top 40
abbrev s__law_gcd : Stmt := top 41
abbrev s__law_cut : Stmt := top 42
abbrev s__law_drawn : Stmt := top 43
abbrev s__law_trim : Stmt := top 44
abbrev s__law_row : Stmt := top 45
abbrev s__law_add : Stmt := top 46
abbrev s__law_row_sum : Stmt := top 47
abbrev s__law_times : Stmt := top 48
abbrev s__law_row_times : Stmt := top 49
abbrev s__law_fraction : Stmt := top 50
abbrev s__law_told : Stmt := top 51
abbrev s__law_told_row : Stmt := top 52
abbrev s__law_monic : Stmt := top 53
abbrev s__law_over : Stmt := top 54
abbrev s__law_scaled : Stmt := top 55
abbrev s__law_many : Stmt := top 56
abbrev s__law_roots : Stmt := top 57
abbrev s__law_spread : Stmt := top 58
abbrev s__law_divided : Stmt := top 59
abbrev s__law_right : Stmt := top 60
abbrev s_law : Stmt := top 61
def d_reduced : He.DefD := ⟨("reduced", none), "reduced", "reduced", defArgs s_reduced, defBody s_reduced, defScope s_reduced, [], []⟩
def d_fraction_less : He.DefD := ⟨("fraction_less", none), "fraction_less", "fraction_less", defArgs s_fraction_less, defBody s_fraction_less, defScope s_fraction_less, [], []⟩
def d_fraction_times : He.DefD := ⟨("fraction_times", none), "fraction_times", "fraction_times", defArgs s_fraction_times, defBody s_fraction_times, defScope s_fraction_times, [], []⟩
def d_number_from : He.DefD := ⟨("number_from", none), "number_from", "number_from", defArgs s_number_from, defBody s_number_from, defScope s_number_from, [], []⟩
def d_less : He.DefD := ⟨("less", none), "less", "less", defArgs s_less, defBody s_less, defScope s_less, [], []⟩
def d_times : He.DefD := ⟨("times", none), "times", "times", defArgs s_times, defBody s_times, defScope s_times, [], []⟩
def d_mirror : He.DefD := ⟨("mirror", none), "mirror", "mirror", defArgs s_mirror, defBody s_mirror, defScope s_mirror, [], []⟩
def d_size_of : He.DefD := ⟨("size_of", none), "size_of", "size_of", defArgs s_size_of, defBody s_size_of, defScope s_size_of, [], []⟩
def d_scaled : He.DefD := ⟨("scaled", none), "scaled", "scaled", defArgs s_scaled, defBody s_scaled, defScope s_scaled, [], []⟩
def d_over : He.DefD := ⟨("over", none), "over", "over", defArgs s_over, defBody s_over, defScope s_over, [], []⟩
def d_trimmed : He.DefD := ⟨("trimmed", none), "trimmed", "trimmed", defArgs s_trimmed, defBody s_trimmed, defScope s_trimmed, [], []⟩
def d_whole_parts : He.DefD := ⟨("whole_parts", none), "whole_parts", "whole_parts", defArgs s_whole_parts, defBody s_whole_parts, defScope s_whole_parts, [], []⟩
def d_is_whole : He.DefD := ⟨("is_whole", none), "is_whole", "is_whole", defArgs s_is_whole, defBody s_is_whole, defScope s_is_whole, [], []⟩
def d_is_fraction : He.DefD := ⟨("is_fraction", none), "is_fraction", "is_fraction", defArgs s_is_fraction, defBody s_is_fraction, defScope s_is_fraction, [], []⟩
def d_is_number : He.DefD := ⟨("is_number", none), "is_number", "is_number", defArgs s_is_number, defBody s_is_number, defScope s_is_number, [], []⟩
def d_is_row : He.DefD := ⟨("is_row", none), "is_row", "is_row", defArgs s_is_row, defBody s_is_row, defScope s_is_row, [], []⟩
def d_need_row : He.DefD := ⟨("need_row", none), "need_row", "need_row", defArgs s_need_row, defBody s_need_row, defScope s_need_row, [], []⟩
def d_divided : He.DefD := ⟨("divided", none), "divided", "divided", defArgs s_divided, defBody s_divided, defScope s_divided, [], []⟩
def d_normed : He.DefD := ⟨("normed", none), "normed", "normed", defArgs s_normed, defBody s_normed, defScope s_normed, [], []⟩
def d_normed_rest : He.DefD := ⟨("normed_rest", none), "normed_rest", "normed_rest", defArgs s_normed_rest, defBody s_normed_rest, defScope s_normed_rest, [], []⟩
def d_by_prime : He.DefD := ⟨("by_prime", none), "by_prime", "by_prime", defArgs s_by_prime, defBody s_by_prime, defScope s_by_prime, [], []⟩
def d_prime_rest : He.DefD := ⟨("prime_rest", none), "prime_rest", "prime_rest", defArgs s_prime_rest, defBody s_prime_rest, defScope s_prime_rest, [], []⟩
def d_surely_apart : He.DefD := ⟨("surely_apart", none), "surely_apart", "surely_apart", defArgs s_surely_apart, defBody s_surely_apart, defScope s_surely_apart, [], []⟩
def d_common : He.DefD := ⟨("common", none), "common", "common", defArgs s_common, defBody s_common, defScope s_common, [], []⟩
def d_row_divided : He.DefD := ⟨("row_divided", none), "row_divided", "row_divided", defArgs s_row_divided, defBody s_row_divided, defScope s_row_divided, [], []⟩
def d_row_common : He.DefD := ⟨("row_common", none), "row_common", "row_common", defArgs s_row_common, defBody s_row_common, defScope s_row_common, [], []⟩
def d__law_pail : He.DefD := ⟨("_law_pail", none), "_law_pail", "_law_pail", defArgs s__law_pail, defBody s__law_pail, defScope s__law_pail, [], []⟩
def d__law_dip : He.DefD := ⟨("_law_dip", none), "_law_dip", "_law_dip", defArgs s__law_dip, defBody s__law_dip, defScope s__law_dip, [], []⟩
def d__law_gcd : He.DefD := ⟨("_law_gcd", none), "_law_gcd", "_law_gcd", defArgs s__law_gcd, defBody s__law_gcd, defScope s__law_gcd, [], []⟩
def d__law_cut : He.DefD := ⟨("_law_cut", none), "_law_cut", "_law_cut", defArgs s__law_cut, defBody s__law_cut, defScope s__law_cut, [], []⟩
def d__law_drawn : He.DefD := ⟨("_law_drawn", none), "_law_drawn", "_law_drawn", defArgs s__law_drawn, defBody s__law_drawn, defScope s__law_drawn, [], []⟩
def d__law_trim : He.DefD := ⟨("_law_trim", none), "_law_trim", "_law_trim", defArgs s__law_trim, defBody s__law_trim, defScope s__law_trim, [], []⟩
def d__law_row : He.DefD := ⟨("_law_row", none), "_law_row", "_law_row", defArgs s__law_row, defBody s__law_row, defScope s__law_row, [], []⟩
def d__law_add : He.DefD := ⟨("_law_add", none), "_law_add", "_law_add", defArgs s__law_add, defBody s__law_add, defScope s__law_add, [], []⟩
def d__law_row_sum : He.DefD := ⟨("_law_row_sum", none), "_law_row_sum", "_law_row_sum", defArgs s__law_row_sum, defBody s__law_row_sum, defScope s__law_row_sum, [], []⟩
def d__law_times : He.DefD := ⟨("_law_times", none), "_law_times", "_law_times", defArgs s__law_times, defBody s__law_times, defScope s__law_times, [], []⟩
def d__law_row_times : He.DefD := ⟨("_law_row_times", none), "_law_row_times", "_law_row_times", defArgs s__law_row_times, defBody s__law_row_times, defScope s__law_row_times, [], []⟩
def d__law_fraction : He.DefD := ⟨("_law_fraction", none), "_law_fraction", "_law_fraction", defArgs s__law_fraction, defBody s__law_fraction, defScope s__law_fraction, [], []⟩
def d__law_told : He.DefD := ⟨("_law_told", none), "_law_told", "_law_told", defArgs s__law_told, defBody s__law_told, defScope s__law_told, [], []⟩
def d__law_told_row : He.DefD := ⟨("_law_told_row", none), "_law_told_row", "_law_told_row", defArgs s__law_told_row, defBody s__law_told_row, defScope s__law_told_row, [], []⟩
def d__law_monic : He.DefD := ⟨("_law_monic", none), "_law_monic", "_law_monic", defArgs s__law_monic, defBody s__law_monic, defScope s__law_monic, [], []⟩
def d__law_over : He.DefD := ⟨("_law_over", none), "_law_over", "_law_over", defArgs s__law_over, defBody s__law_over, defScope s__law_over, [], []⟩
def d__law_scaled : He.DefD := ⟨("_law_scaled", none), "_law_scaled", "_law_scaled", defArgs s__law_scaled, defBody s__law_scaled, defScope s__law_scaled, [], []⟩
def d__law_many : He.DefD := ⟨("_law_many", none), "_law_many", "_law_many", defArgs s__law_many, defBody s__law_many, defScope s__law_many, [], []⟩
def d__law_roots : He.DefD := ⟨("_law_roots", none), "_law_roots", "_law_roots", defArgs s__law_roots, defBody s__law_roots, defScope s__law_roots, [], []⟩
def d__law_spread : He.DefD := ⟨("_law_spread", none), "_law_spread", "_law_spread", defArgs s__law_spread, defBody s__law_spread, defScope s__law_spread, [], []⟩
def d__law_divided : He.DefD := ⟨("_law_divided", none), "_law_divided", "_law_divided", defArgs s__law_divided, defBody s__law_divided, defScope s__law_divided, [], []⟩
def d__law_right : He.DefD := ⟨("_law_right", none), "_law_right", "_law_right", defArgs s__law_right, defBody s__law_right, defScope s__law_right, [], []⟩
def d_law : He.DefD := ⟨("law", none), "law", "law", defArgs s_law, defBody s_law, defScope s_law, [], []⟩
def fns_0 : List He.DefD := [d_reduced, d_fraction_less, d_fraction_times, d_number_from, d_less, d_times, d_mirror, d_size_of, d_scaled, d_over]
def fns_1 : List He.DefD := [d_trimmed, d_whole_parts, d_is_whole, d_is_fraction, d_is_number, d_is_row, d_need_row, d_divided, d_normed, d_normed_rest]
def fns_2 : List He.DefD := [d_by_prime, d_prime_rest, d_surely_apart, d_common, d_row_divided, d_row_common, d__law_pail, d__law_dip, d__law_gcd, d__law_cut]
def fns_3 : List He.DefD := [d__law_drawn, d__law_trim, d__law_row, d__law_add, d__law_row_sum, d__law_times, d__law_row_times, d__law_fraction, d__law_told, d__law_told_row]
def fns_4 : List He.DefD := [d__law_monic, d__law_over, d__law_scaled, d__law_many, d__law_roots, d__law_spread, d__law_divided, d__law_right, d_law]
def fns : List He.DefD := fns_0 ++ (fns_1 ++ (fns_2 ++ (fns_3 ++ (fns_4))))
def fas_0 : List He.Fa := [.glo "reduced", .glo "fraction_less", .glo "fraction_times", .glo "number_from", .glo "less", .glo "times", .glo "mirror", .glo "size_of", .glo "scaled", .glo "over"]
def fas_1 : List He.Fa := [.glo "trimmed", .glo "whole_parts", .glo "is_whole", .glo "is_fraction", .glo "is_number", .glo "is_row", .glo "need_row", .glo "divided", .glo "normed", .glo "normed_rest"]
def fas_2 : List He.Fa := [.glo "by_prime", .glo "prime_rest", .glo "surely_apart", .glo "common", .glo "row_divided", .glo "row_common", .glo "_law_pail", .glo "_law_dip", .glo "_law_gcd", .glo "_law_cut"]
def fas_3 : List He.Fa := [.glo "_law_drawn", .glo "_law_trim", .glo "_law_row", .glo "_law_add", .glo "_law_row_sum", .glo "_law_times", .glo "_law_row_times", .glo "_law_fraction", .glo "_law_told", .glo "_law_told_row"]
def fas_4 : List He.Fa := [.glo "_law_monic", .glo "_law_over", .glo "_law_scaled", .glo "_law_many", .glo "_law_roots", .glo "_law_spread", .glo "_law_divided", .glo "_law_right", .glo "law", .free "abs"]
def fas_5 : List He.Fa := [.free "all", .free "bool", .free "divmod", .free "enumerate", .free "int", .free "isinstance", .free "len", .free "list", .free "max", .free "min"]
def fas_6 : List He.Fa := [.free "range", .free "repr", .free "reversed", .free "tuple", .free "zip"]
def fas : List He.Fa := fas_0 ++ (fas_1 ++ (fas_2 ++ (fas_3 ++ (fas_4 ++ (fas_5 ++ (fas_6))))))
def names_0 : List Str := ["__name__", "RimError", "InvalidRow", "NotNow", "NOUGHT", "UNIT", "PRIME", "TURN", "reduced", "fraction_less"]
def names_1 : List Str := ["fraction_times", "number_from", "less", "times", "mirror", "size_of", "scaled", "over", "trimmed", "whole_parts"]
def names_2 : List Str := ["is_whole", "is_fraction", "is_number", "is_row", "need_row", "divided", "normed", "normed_rest", "by_prime", "prime_rest"]
def names_3 : List Str := ["surely_apart", "common", "row_divided", "row_common", "_law_pail", "_law_dip", "_law_gcd", "_law_cut", "_law_drawn", "_law_trim"]
def names_4 : List Str := ["_law_row", "_law_add", "_law_row_sum", "_law_times", "_law_row_times", "_law_fraction", "_law_told", "_law_told_row", "_law_monic", "_law_over"]
def names_5 : List Str := ["_law_scaled", "_law_many", "_law_roots", "_law_spread", "_law_divided", "_law_right"]
def names : List Str := names_0 ++ (names_1 ++ (names_2 ++ (names_3 ++ (names_4 ++ (names_5)))))
def tfs_0 : List He.Defn := [("is_row", none), ("common", none)]
def tfs : List He.Defn := tfs_0
theorem in_is_row : (("is_row", none) : He.Defn) ∈ tfs := by decide +kernel
theorem in_common : (("common", none) : He.Defn) ∈ tfs := by decide +kernel
def cons : List (Str × PyData) := [("NOUGHT", c_NOUGHT), ("UNIT", c_UNIT), ("PRIME", c_PRIME), ("TURN", c_TURN)]
def imps : List (Str × String) := [("gcd", "math.gcd"), ("lcm", "math.lcm")]
def dfts : List ((Str × Nat) × PyData) := []
abbrev Rw : PySem.W.OpenRow := PySem.W.OpenLaw.row PySem.Challenge.rw_withinrim_k05_whole_rows_divided_and_com
abbrev hk : PySem.W.Hook := He.hookX 4 fas fns [] tfs (exB2 cons imps dfts)
def ob (s : PySem.W.SharedT) : He.AlX := He.obsX 4 fas fns [] tfs (exB2 cons imps dfts) (HandSHeadRun.getT s)
theorem ob_eq (s : PySem.W.SharedT) : ob s = hk.obs s.abs := He.obsX_eq (HandSHeadRun.getT_eq s)
/-- the whole run's three sights, one by one: the kernel keeps less at a time -/
theorem three_maps {α β γ δ : Type} {o : Option α} {f : α → β} {g : α → γ} {h : α → δ} {a : β} {b : γ} {c : δ} (p : o.map f = some a) (q : o.map g = some b) (r : o.map h = some c) : o.map (fun x => (f x, g x, h x)) = some (a, b, c) := by
  cases o with
  | none => cases p
  | some x =>
    cases p
    cases q
    cases r
    rfl
theorem runC (w : World) : (HandSHeadRun.wholeF (fun p => HandSHeadRun.stepQ (HandSHeadRun.denQ HandSHeadRun.tabQ) p w) HandSHeadRun.fenceQ 6000 Rw.prog).map (fun x => ob x.2) = some (hk.val w) := by
  kernel_rfl
theorem runA (w : World) : (HandSHeadRun.wholeF (fun p => HandSHeadRun.stepQ (HandSHeadRun.denQ HandSHeadRun.tabQ) p w) HandSHeadRun.fenceQ 6000 Rw.prog).map (fun x => HandSHeadRun.looksF Rw.prog x.1.heap x.2.abs) = some true := by
  kernel_rfl
theorem runB (w : World) : (HandSHeadRun.wholeF (fun p => HandSHeadRun.stepQ (HandSHeadRun.denQ HandSHeadRun.tabQ) p w) HandSHeadRun.fenceQ 6000 Rw.prog).map (fun x => HandSHeadRun.seenQ (PySem.W.view Rw.prog [0, 61]) names (importedModules Rw.prog.main.body) (fun s => PySem.W.xlAt (PySem.W.view Rw.prog [0, 61]) [] s && PySem.W.recOk Rw.toRowW.records s) x.2.abs) = some (PySem.W.openGood (PySem.W.view Rw.prog [0, 61]) names) := by
  kernel_rfl
theorem run (w : World) : HandSHeadRun.RunEqI Rw (PySem.W.view Rw.prog [0, 61]) hk ob 6000 names w := by
  have e := three_maps (runA w) (runB w) (runC w)
  unfold HandSHeadRun.RunEqI
  exact e

end Rim
namespace Rim
open PySem PySem.Spec L2
/-! QA: fractions, numbers, triples: what is true of them. -/
/-- what is true of data says nothing of tables -/
instance (priority := low) noTabs : Tabs := ⟨fun _ => False⟩

/-! ### what the program's arithmetic comes to -/
theorem gcd_ne (n m : Int) (h : m ≠ 0) : ((Nat.gcd n.natAbs m.natAbs : Nat) : Int) ≠ 0 := by
  have h1 : 0 < Nat.gcd n.natAbs m.natAbs := Nat.gcd_pos_of_pos_right _ (Int.natAbs_pos.mpr h)
  omega
theorem gcd_bd {k : Nat} (n m : Int) (h : m ≠ 0) (hb : Bd k m) : Bd k ((Nat.gcd n.natAbs m.natAbs : Nat) : Int) := by
  refine Bd.le ?_ hb
  rw [Int.natAbs_natCast]
  exact Nat.gcd_le_right _ (Int.natAbs_pos.mpr h)
theorem red_end_neg (n m : Int) (h : m < 0) : PyData.tuple [.int (n.fdiv (-((Nat.gcd n.natAbs m.natAbs : Nat) : Int))), .int (m.fdiv (-((Nat.gcd n.natAbs m.natAbs : Nat) : Int)))] = fr (qd n m) := by
  have z := red_neg n m h
  rw [z.1, z.2]
theorem red_end_pos (n m : Int) (h0 : m ≠ 0) (h : ¬ m < 0) : PyData.tuple [.int (n.fdiv ((Nat.gcd n.natAbs m.natAbs : Nat) : Int)), .int (m.fdiv ((Nat.gcd n.natAbs m.natAbs : Nat) : Int))] = fr (qd n m) := by
  have z := red_pos n m (by omega)
  rw [z.1, z.2]
theorem q_num (q : Rat) : (q.num : Rat) = q * ((q.den : Int) : Rat) := by
  have h := q_over q
  have h1 := d_ne q
  generalize ((q.den : Int) : Rat) = a at *
  generalize (q.num : Rat) = b at *
  grind
theorem r_mul {a b p q : Int} : qd (a * b) (p * q) = qd a p * qd b q := (Rat.divInt_mul_divInt a b).symm
theorem c_mul (x y : Cn) : (⟨qd (x.re.num * x.im.den * (y.re.num * y.im.den) - x.im.num * x.re.den * (y.im.num * y.re.den)) (x.re.den * x.im.den * y.re.den * y.im.den),
    qd (x.re.num * x.im.den * (y.im.num * y.re.den) + x.im.num * x.re.den * (y.re.num * y.im.den)) (x.re.den * x.im.den * y.re.den * y.im.den)⟩ : Cn) = x.mul y := by
  have h1 := d_ne x.re
  have h2 := d_ne x.im
  have h3 := d_ne y.re
  have h4 := d_ne y.im
  unfold Cn.mul
  rw [qd_div, qd_div]
  simp only [Rat.intCast_mul, Rat.intCast_add, Rat.intCast_sub, q_num]
  generalize ((x.re.den : Int) : Rat) = a at *
  generalize ((x.im.den : Int) : Rat) = b at *
  generalize ((y.re.den : Int) : Rat) = c at *
  generalize ((y.im.den : Int) : Rat) = d at *
  generalize x.re = e at *
  generalize x.im = f at *
  generalize y.re = g at *
  generalize y.im = h at *
  congr 1
  · grind
  · grind
theorem c_nsq (x : Cn) : qd (x.re.num * x.im.den * (x.re.num * x.im.den) + x.im.num * x.re.den * (x.im.num * x.re.den)) (x.re.den * x.re.den * x.im.den * x.im.den) = x.nsq := by
  have h1 := d_ne x.re
  have h2 := d_ne x.im
  unfold Cn.nsq
  rw [qd_div]
  simp only [Rat.intCast_mul, Rat.intCast_add, q_num]
  generalize ((x.re.den : Int) : Rat) = a at *
  generalize ((x.im.den : Int) : Rat) = b at *
  generalize x.re = e at *
  generalize x.im = f at *
  grind
theorem nsq_nonneg (x : Cn) : 0 ≤ x.nsq := by
  unfold Cn.nsq
  have h1 : 0 ≤ x.re * x.re := by
    rcases Rat.le_total (a := 0) (b := x.re) with h | h
    · exact Rat.mul_nonneg h h
    · have := Rat.mul_nonneg (a := -x.re) (b := -x.re) (by grind) (by grind)
      grind
  have h2 : 0 ≤ x.im * x.im := by
    rcases Rat.le_total (a := 0) (b := x.im) with h | h
    · exact Rat.mul_nonneg h h
    · have := Rat.mul_nonneg (a := -x.im) (b := -x.im) (by grind) (by grind)
      grind
  grind
theorem inv_parts {q : Rat} (h : 0 < q) : (q⁻¹).num = (q.den : Int) ∧ ((q⁻¹).den : Int) = q.num := by
  have hn : 0 < q.num := by
    have z := (Rat.lt_iff 0 q).mp h
    simpa using z
  have e : q⁻¹ = qd (q.den : Int) q.num := by
    rw [qd_div, q_num]
    have h1 := d_ne q
    generalize ((q.den : Int) : Rat) = a at *
    grind
  rw [e]
  have hc : q.num.gcd (q.den : Int) = 1 := q.reduced
  constructor
  · rw [Rat.num_divInt, hc, Int.sign_eq_one_of_pos hn]
    simp
  · rw [Rat.den_divInt, if_neg (by omega), hc]
    simp
    omega
/-! ### the laws' own triples -/
@[reducible] def tri (a b c : Int) : PyData := .tuple [.int a, .int b, .int c]
def Tr (n : Nat) (z : Cn) (d : PyData) : Prop := ∃ a b c : Int, d = tri a b c ∧ 0 < c ∧ Bd n a ∧ Bd n b ∧ Bd n c ∧ z = ⟨qd a c, qd b c⟩
theorem Tr.mono {n m : Nat} {z : Cn} {d : PyData} (h : Tr n z d) (k : n ≤ m) : Tr m z d := by
  obtain ⟨a, b, c, h1, h2, h3, h4, h5, h6⟩ := h
  exact ⟨a, b, c, h1, h2, h3.mono k, h4.mono k, h5.mono k, h6⟩
theorem Tr.cs {n : Nat} {z : Cn} {d : PyData} (h : Tr n z d) : Cs n z := by
  obtain ⟨a, b, c, h1, h2, h3, h4, h5, rfl⟩ := h
  exact ⟨rs_of h3 h5 (by omega), rs_of h4 h5 (by omega)⟩
theorem cast_mul_ne {a b : Int} (h : a * b ≠ 0) : (a : Rat) ≠ 0 ∧ (b : Rat) ≠ 0 :=
  ⟨c_ne fun z => h (by rw [z, Int.zero_mul]), c_ne fun z => h (by rw [z, Int.mul_zero])⟩
theorem qd_cancel (a c g : Int) (h : c * g ≠ 0) : qd (a * g) (c * g) = qd a c := by
  obtain ⟨h1, h2⟩ := cast_mul_ne h
  rw [qd_div, qd_div, Rat.intCast_mul, Rat.intCast_mul]
  grind
theorem cut_core (n : Nat) (a b c g : Int) (hg : g ≠ 0) (ga : g ∣ a) (gb : g ∣ b) (gc : g ∣ c) (h0 : c ≠ 0) (hs : 0 < c.fdiv g) (ha : Bd n a) (hb : Bd n b) (hc : Bd n c) :
    Tr n ⟨qd a c, qd b c⟩ (.tuple [.int (a.fdiv g), .int (b.fdiv g), .int (c.fdiv g)]) := by
  obtain ⟨x, rfl⟩ := ga
  obtain ⟨y, rfl⟩ := gb
  obtain ⟨z, rfl⟩ := gc
  have e : ∀ t : Int, (g * t).fdiv g = t := fun t => Int.mul_fdiv_cancel_left _ hg
  rw [e, e, e]
  rw [e] at hs
  have le : ∀ t : Int, Bd n (g * t) → Bd n t := fun t h => by
    refine Bd.le ?_ h
    rw [Int.natAbs_mul]
    exact Nat.le_mul_of_pos_left _ (Int.natAbs_pos.mpr hg)
  refine ⟨x, y, z, rfl, hs, le x ha, le y hb, le z hc, ?_⟩
  rw [Int.mul_comm g x, Int.mul_comm g y, Int.mul_comm g z]
  rw [qd_cancel x z g (by rw [Int.mul_comm]; exact h0), qd_cancel y z g (by rw [Int.mul_comm]; exact h0)]
theorem gcd3 (a b c : Int) : ((Nat.gcd (((Nat.gcd a.natAbs b.natAbs : Nat) : Int)).natAbs c.natAbs : Nat) : Int) ∣ a ∧ ((Nat.gcd (((Nat.gcd a.natAbs b.natAbs : Nat) : Int)).natAbs c.natAbs : Nat) : Int) ∣ b ∧ ((Nat.gcd (((Nat.gcd a.natAbs b.natAbs : Nat) : Int)).natAbs c.natAbs : Nat) : Int) ∣ c := by
  rw [Int.natAbs_natCast]
  refine ⟨Int.ofNat_dvd_left.mpr ?_, Int.ofNat_dvd_left.mpr ?_, Int.ofNat_dvd_left.mpr ?_⟩
  · exact Nat.dvd_trans (Nat.gcd_dvd_left _ _) (Nat.gcd_dvd_left _ _)
  · exact Nat.dvd_trans (Nat.gcd_dvd_left _ _) (Nat.gcd_dvd_right _ _)
  · exact Nat.gcd_dvd_right _ _
theorem cut_pos (n : Nat) (a b c : Int) (h0 : c ≠ 0) (h : ¬ c < 0) (ha : Bd n a) (hb : Bd n b) (hc : Bd n c) :
    Tr n ⟨qd a c, qd b c⟩ (.tuple [.int (a.fdiv ((Nat.gcd (((Nat.gcd a.natAbs b.natAbs : Nat) : Int)).natAbs c.natAbs : Nat) : Int)), .int (b.fdiv ((Nat.gcd (((Nat.gcd a.natAbs b.natAbs : Nat) : Int)).natAbs c.natAbs : Nat) : Int)), .int (c.fdiv ((Nat.gcd (((Nat.gcd a.natAbs b.natAbs : Nat) : Int)).natAbs c.natAbs : Nat) : Int))]) := by
  obtain ⟨h1, h2, h3⟩ := gcd3 a b c
  have hg := gcd_ne (((Nat.gcd a.natAbs b.natAbs : Nat) : Int)) c h0
  have hp : 0 < ((Nat.gcd (((Nat.gcd a.natAbs b.natAbs : Nat) : Int)).natAbs c.natAbs : Nat) : Int) := by omega
  refine cut_core n a b c _ hg h1 h2 h3 h0 ?_ ha hb hc
  rw [Int.fdiv_eq_ediv_of_nonneg _ (by omega)]
  exact Int.ediv_pos_of_pos_of_dvd (by omega) (by omega) h3
theorem bd_zero {n : Nat} : Bd n 0 := Nat.pow_pos (by decide)
theorem cw_cons {x : PyData} {xs : List PyData} {n m : Nat} (h : cnt x ≤ n) (k : cntAll xs ≤ m) : cntAll (x :: xs) ≤ n + m := by
  simp only [cntAll]
  omega
theorem cw_nil : cntAll [] ≤ 0 := by simp only [cntAll]; exact Nat.le_refl _
theorem cw_list {xs : List PyData} {n : Nat} (h : cntAll xs ≤ n) : cnt (.list xs) ≤ n + 1 := by
  simp only [cnt]
  omega
theorem dq_nil : PyData.depthAll [] ≤ 0 := by simp only [PyData.depthAll]; exact Nat.le_refl _
theorem dq_cons {x : PyData} {xs : List PyData} {n m : Nat} (h : PyData.depth x ≤ n) (k : PyData.depthAll xs ≤ m) : PyData.depthAll (x :: xs) ≤ max n m := by
  simp only [PyData.depthAll]
  omega
theorem dq_list {xs : List PyData} {n : Nat} (h : PyData.depthAll xs ≤ n) : PyData.depth (.list xs) ≤ n + 1 := by
  simp only [PyData.depth]
  omega
theorem shw_int {i : Int} (h : Bd 1900 i) : Shw (.int i) := by
  simp only [Shw]
  exact h
theorem shw_nil : ShwAll [] := by simp only [ShwAll]
theorem shw_cons {x : PyData} {xs : List PyData} (h : Shw x) (k : ShwAll xs) : ShwAll (x :: xs) := by
  simp only [ShwAll]
  exact ⟨h, k⟩
theorem shw_l {xs : List PyData} (h : ShwAll xs) : Shw (.list xs) := by
  simp only [Shw]
  exact h
theorem shw_t {xs : List PyData} (h : ShwAll xs) : Shw (.tuple xs) := by
  simp only [Shw]
  exact h
theorem shw_fr {q : Rat} (h : Rs 1900 q) : Shw (fr q) := shw_t (shw_cons (shw_int h.num) (shw_cons (shw_int h.den) shw_nil))
theorem shw_nm {z : Cn} (h : Cs 1900 z) : Shw (nm z) := shw_t (shw_cons (shw_fr h.re) (shw_cons (shw_fr h.im) shw_nil))
theorem gcd_start (a b : Int) : (((if a < 0 then -a else a) : Int) = (a.natAbs : Int)) ∧ (((if b < 0 then -b else b) : Int) = (b.natAbs : Int)) := by
  constructor <;> split <;> omega
section
variable (a b c d e f : Int) (h0 : c ≠ 0) (k0 : f ≠ 0)
include h0 k0
theorem tr_add : (⟨qd (a * f + d * c) (c * f), qd (b * f + e * c) (c * f)⟩ : Cn) = Cn.add ⟨qd a c, qd b c⟩ ⟨qd d f, qd e f⟩ := by
  have h1 := c_ne h0
  have h2 := c_ne k0
  unfold Cn.add
  simp only [qd_div, Rat.intCast_mul, Rat.intCast_add]
  congr 1
  · grind
  · grind
theorem tr_sub : (⟨qd (a * f - d * c) (c * f), qd (b * f - e * c) (c * f)⟩ : Cn) = Cn.sub ⟨qd a c, qd b c⟩ ⟨qd d f, qd e f⟩ := by
  have h1 := c_ne h0
  have h2 := c_ne k0
  unfold Cn.sub
  simp only [qd_div, Rat.intCast_mul, Rat.intCast_sub]
  congr 1
  · grind
  · grind
theorem tr_mul : (⟨qd (a * d - b * e) (c * f), qd (a * e + b * d) (c * f)⟩ : Cn) = Cn.mul ⟨qd a c, qd b c⟩ ⟨qd d f, qd e f⟩ := by
  have h1 := c_ne h0
  have h2 := c_ne k0
  unfold Cn.mul
  simp only [qd_div, Rat.intCast_mul, Rat.intCast_sub, Rat.intCast_add]
  congr 1
  · grind
  · grind
theorem tr_div (hn : d * d + e * e ≠ 0) : (⟨qd ((a * d + b * e) * f) (c * (d * d + e * e)), qd ((b * d - a * e) * f) (c * (d * d + e * e))⟩ : Cn) = Cn.div ⟨qd a c, qd b c⟩ ⟨qd d f, qd e f⟩ := by
  have h1 := c_ne h0
  have h2 := c_ne k0
  have h3 := c_ne hn
  rw [Rat.intCast_add, Rat.intCast_mul, Rat.intCast_mul] at h3
  unfold Cn.div Cn.nsq
  simp only [qd_div, Rat.intCast_mul, Rat.intCast_sub, Rat.intCast_add]
  generalize (a : Rat) = a at *
  generalize (b : Rat) = b at *
  generalize (c : Rat) = c at *
  generalize (d : Rat) = d at *
  generalize (e : Rat) = e at *
  generalize (f : Rat) = f at *
  have h4 : d / f * (d / f) + e / f * (e / f) = (d * d + e * e) / (f * f) := by grind
  congr 1
  · rw [h4]
    grind
  · rw [h4]
    grind
end
theorem nsq_int (d e f : Int) (k0 : f ≠ 0) (h : Cn.nsq ⟨qd d f, qd e f⟩ ≠ 0) : d * d + e * e ≠ 0 := by
  intro z
  have h2 : d = 0 ∧ e = 0 := by
    have h3 : 0 ≤ d * d := by
      rcases Int.le_total 0 d with q | q
      · exact Int.mul_nonneg q q
      · exact Int.mul_nonneg_of_nonpos_of_nonpos q q
    have h4 : 0 ≤ e * e := by
      rcases Int.le_total 0 e with q | q
      · exact Int.mul_nonneg q q
      · exact Int.mul_nonneg_of_nonpos_of_nonpos q q
    have h5 : d * d = 0 := by omega
    have h6 : e * e = 0 := by omega
    exact ⟨by rcases Int.mul_eq_zero.mp h5 with q | q <;> exact q, by rcases Int.mul_eq_zero.mp h6 with q | q <;> exact q⟩
  obtain ⟨rfl, rfl⟩ := h2
  apply h
  unfold Cn.nsq
  simp only [qd_div]
  grind
theorem tr_nsq (a b c : Int) (h0 : c ≠ 0) : qd (a * a + b * b) (c * c) = Cn.nsq ⟨qd a c, qd b c⟩ := by
  have h1 := c_ne h0
  unfold Cn.nsq
  simp only [qd_div, Rat.intCast_mul, Rat.intCast_add]
  grind
def Tq (n : Nat) (z : Cn) (d : PyData) : Prop := ∃ a b c : Int, d = tri a b c ∧ 0 < c ∧ Bd n a ∧ Bd n b ∧ Bd n c ∧ z = ⟨qd a c, qd b c⟩ ∧ Nat.gcd (Nat.gcd a.natAbs b.natAbs) c.natAbs = 1
theorem Tq.tr {n : Nat} {z : Cn} {d : PyData} (h : Tq n z d) : Tr n z d := by
  obtain ⟨a, b, c, h1, h2, h3, h4, h5, h6, _⟩ := h
  exact ⟨a, b, c, h1, h2, h3, h4, h5, h6⟩
theorem Tq.mono {n m : Nat} {z : Cn} {d : PyData} (h : Tq n z d) (k : n ≤ m) : Tq m z d := by
  obtain ⟨a, b, c, h1, h2, h3, h4, h5, h6, h7⟩ := h
  exact ⟨a, b, c, h1, h2, h3.mono k, h4.mono k, h5.mono k, h6, h7⟩
theorem Tq.cs {n : Nat} {z : Cn} {d : PyData} (h : Tq n z d) : Cs n z := h.tr.cs
theorem gcd_out {g a b c : Int} (h : Nat.gcd (Nat.gcd (g * a).natAbs (g * b).natAbs) (g * c).natAbs = g.natAbs) (hg : g ≠ 0) : Nat.gcd (Nat.gcd a.natAbs b.natAbs) c.natAbs = 1 := by
  rw [Int.natAbs_mul, Int.natAbs_mul, Int.natAbs_mul, Nat.gcd_mul_left, Nat.gcd_mul_left] at h
  have h1 : 0 < g.natAbs := by omega
  exact Nat.eq_of_mul_eq_mul_left h1 (by rw [h, Nat.mul_one])
theorem cut_red {g a b c : Int} (hg : g ≠ 0) (h1 : g ∣ a) (h2 : g ∣ b) (h3 : g ∣ c) (h : g.natAbs = Nat.gcd (Nat.gcd a.natAbs b.natAbs) c.natAbs) :
    Nat.gcd (Nat.gcd (a.fdiv g).natAbs (b.fdiv g).natAbs) (c.fdiv g).natAbs = 1 := by
  obtain ⟨x, rfl⟩ := h1
  obtain ⟨y, rfl⟩ := h2
  obtain ⟨z, rfl⟩ := h3
  rw [Int.mul_fdiv_cancel_left _ hg, Int.mul_fdiv_cancel_left _ hg, Int.mul_fdiv_cancel_left _ hg]
  exact gcd_out h.symm hg
theorem Tr.red {n : Nat} {z : Cn} {a b c : Int} (h : Tr n z (.tuple [.int a, .int b, .int c])) (k : Nat.gcd (Nat.gcd a.natAbs b.natAbs) c.natAbs = 1) : Tq n z (.tuple [.int a, .int b, .int c]) := by
  obtain ⟨a', b', c', h1, h2, h3, h4, h5, h6⟩ := h
  cases h1
  exact ⟨a, b, c, rfl, h2, h3, h4, h5, h6, k⟩
theorem cutq_pos (n : Nat) (a b c : Int) (h0 : c ≠ 0) (h : ¬ c < 0) (ha : Bd n a) (hb : Bd n b) (hc : Bd n c) :
    Tq n ⟨qd a c, qd b c⟩ (.tuple [.int (a.fdiv ((Nat.gcd (((Nat.gcd a.natAbs b.natAbs : Nat) : Int)).natAbs c.natAbs : Nat) : Int)), .int (b.fdiv ((Nat.gcd (((Nat.gcd a.natAbs b.natAbs : Nat) : Int)).natAbs c.natAbs : Nat) : Int)), .int (c.fdiv ((Nat.gcd (((Nat.gcd a.natAbs b.natAbs : Nat) : Int)).natAbs c.natAbs : Nat) : Int))]) := by
  obtain ⟨h1, h2, h3⟩ := gcd3 a b c
  exact (cut_pos n a b c h0 h ha hb hc).red (cut_red (gcd_ne _ c h0) h1 h2 h3 (by rw [Int.natAbs_natCast, Int.natAbs_natCast]))
theorem sq_nonneg (x : Rat) : 0 ≤ x * x := by
  rcases Rat.le_total (a := 0) (b := x) with h | h
  · exact Rat.mul_nonneg h h
  · have := Rat.mul_nonneg (a := -x) (b := -x) (by grind) (by grind)
    grind
theorem isq_nonneg (x : Int) : 0 ≤ x * x := by
  rcases Int.le_total 0 x with q | q
  · exact Int.mul_nonneg q q
  · exact Int.mul_nonneg_of_nonpos_of_nonpos q q


/-! QB: numbers as a field; triples with a size, and the one reduced triple of a number. -/
namespace Cn
def zer : Cn := ⟨0, 0⟩
def one : Cn := ⟨1, 0⟩
def ofR (q : Rat) : Cn := ⟨q, 0⟩
def ng (x : Cn) : Cn := ⟨-x.re, -x.im⟩
def inv (x : Cn) : Cn := ⟨x.re / x.nsq, -x.im / x.nsq⟩
def npw (x : Cn) : Nat → Cn
  | 0 => one
  | n + 1 => (npw x n).mul x
def zpw (x : Cn) : Int → Cn
  | .ofNat n => npw x n
  | .negSucc n => inv (npw x (n + 1))
theorem ext' {x y : Cn} (h : x.re = y.re) (k : x.im = y.im) : x = y := by
  cases x
  cases y
  cases h
  cases k
  rfl
end Cn
theorem nsq_zer {x : Cn} (h : x.nsq = 0) : x = Cn.zer := by
  have h1 := sq_nonneg x.re
  have h2 := sq_nonneg x.im
  unfold Cn.nsq at h
  have h3 : x.re * x.re = 0 := by grind
  have h4 : x.im * x.im = 0 := by grind
  exact Cn.ext' (by unfold Cn.zer; grind) (by unfold Cn.zer; grind)
theorem inv_zer : Cn.inv Cn.zer = Cn.zer := by
  unfold Cn.inv Cn.zer Cn.nsq
  exact Cn.ext' (by grind) (by grind)
theorem inv_can {x : Cn} (h : x ≠ Cn.zer) : x.mul x.inv = Cn.one := by
  have h1 : x.nsq ≠ 0 := fun k => h (nsq_zer k)
  unfold Cn.mul Cn.inv Cn.one
  have h2 : x.nsq = x.re * x.re + x.im * x.im := rfl
  generalize x.nsq = N at *
  exact Cn.ext' (by dsimp only; grind) (by dsimp only; grind)
theorem inv_inv' (x : Cn) : x.inv.inv = x := by
  by_cases h : x = Cn.zer
  · rw [h, inv_zer, inv_zer]
  · have h1 : x.nsq ≠ 0 := fun k => h (nsq_zer k)
    have h2 : x.nsq = x.re * x.re + x.im * x.im := rfl
    have h3 : x.inv.nsq = 1 / x.nsq := by
      unfold Cn.inv
      show x.re / x.nsq * (x.re / x.nsq) + -x.im / x.nsq * (-x.im / x.nsq) = _
      generalize x.nsq = N at *
      grind
    have h4 : x.inv.inv = ⟨x.inv.re / x.inv.nsq, -x.inv.im / x.inv.nsq⟩ := rfl
    rw [h4, h3]
    unfold Cn.inv
    generalize x.nsq = N at *
    exact Cn.ext' (by dsimp only; grind) (by dsimp only; grind)
instance : Lean.Grind.CommRing Cn where
  add := Cn.add
  mul := Cn.mul
  natCast := ⟨fun n => ⟨(n : Rat), 0⟩⟩
  ofNat := fun n => ⟨⟨(n : Rat), 0⟩⟩
  nsmul := ⟨fun n x => Cn.mul ⟨(n : Rat), 0⟩ x⟩
  npow := ⟨Cn.npw⟩
  add_zero := fun a => Cn.ext' (show a.re + ((0 : Nat) : Rat) = _ by grind) (show a.im + (0 : Rat) = _ by grind)
  add_comm := fun a b => Cn.ext' (show a.re + b.re = b.re + a.re by grind) (show a.im + b.im = b.im + a.im by grind)
  add_assoc := fun a b c => Cn.ext' (show a.re + b.re + c.re = a.re + (b.re + c.re) by grind) (show a.im + b.im + c.im = a.im + (b.im + c.im) by grind)
  mul_assoc := fun a b c => Cn.ext' (show (a.re * b.re - a.im * b.im) * c.re - (a.re * b.im + a.im * b.re) * c.im = a.re * (b.re * c.re - b.im * c.im) - a.im * (b.re * c.im + b.im * c.re) by grind)
    (show (a.re * b.re - a.im * b.im) * c.im + (a.re * b.im + a.im * b.re) * c.re = a.re * (b.re * c.im + b.im * c.re) + a.im * (b.re * c.re - b.im * c.im) by grind)
  mul_one := fun a => Cn.ext' (show a.re * ((1 : Nat) : Rat) - a.im * 0 = a.re by grind) (show a.re * 0 + a.im * ((1 : Nat) : Rat) = a.im by grind)
  one_mul := fun a => Cn.ext' (show ((1 : Nat) : Rat) * a.re - 0 * a.im = a.re by grind) (show ((1 : Nat) : Rat) * a.im + 0 * a.re = a.im by grind)
  left_distrib := fun a b c => Cn.ext' (show a.re * (b.re + c.re) - a.im * (b.im + c.im) = a.re * b.re - a.im * b.im + (a.re * c.re - a.im * c.im) by grind)
    (show a.re * (b.im + c.im) + a.im * (b.re + c.re) = a.re * b.im + a.im * b.re + (a.re * c.im + a.im * c.re) by grind)
  right_distrib := fun a b c => Cn.ext' (show (a.re + b.re) * c.re - (a.im + b.im) * c.im = a.re * c.re - a.im * c.im + (b.re * c.re - b.im * c.im) by grind)
    (show (a.re + b.re) * c.im + (a.im + b.im) * c.re = a.re * c.im + a.im * c.re + (b.re * c.im + b.im * c.re) by grind)
  zero_mul := fun a => Cn.ext' (show ((0 : Nat) : Rat) * a.re - 0 * a.im = ((0 : Nat) : Rat) by grind) (show ((0 : Nat) : Rat) * a.im + 0 * a.re = 0 by grind)
  mul_zero := fun a => Cn.ext' (show a.re * ((0 : Nat) : Rat) - a.im * 0 = ((0 : Nat) : Rat) by grind) (show a.re * 0 + a.im * ((0 : Nat) : Rat) = 0 by grind)
  pow_zero := fun a => Cn.ext' (show (1 : Rat) = ((1 : Nat) : Rat) by grind) rfl
  pow_succ := fun a n => rfl
  ofNat_succ := fun n => Cn.ext' (show ((n + 1 : Nat) : Rat) = (n : Rat) + ((1 : Nat) : Rat) by grind) (show (0 : Rat) = 0 + 0 by grind)
  ofNat_eq_natCast := fun n => rfl
  nsmul_eq_natCast_mul := fun n a => rfl
  neg := Cn.ng
  sub := Cn.sub
  intCast := ⟨fun n => ⟨(n : Rat), 0⟩⟩
  zsmul := ⟨fun n x => Cn.mul ⟨(n : Rat), 0⟩ x⟩
  neg_add_cancel := fun a => Cn.ext' (show -a.re + a.re = ((0 : Nat) : Rat) by grind) (show -a.im + a.im = 0 by grind)
  sub_eq_add_neg := fun a b => Cn.ext' (show a.re - b.re = a.re + -b.re by grind) (show a.im - b.im = a.im + -b.im by grind)
  neg_zsmul := fun i a => Cn.ext' (show ((-i : Int) : Rat) * a.re - 0 * a.im = -((i : Rat) * a.re - 0 * a.im) by rw [Rat.intCast_neg]; grind) (show ((-i : Int) : Rat) * a.im + 0 * a.re = -((i : Rat) * a.im + 0 * a.re) by rw [Rat.intCast_neg]; grind)
  zsmul_natCast_eq_nsmul := fun n a => rfl
  intCast_ofNat := fun n => rfl
  intCast_neg := fun i => Cn.ext' (show ((-i : Int) : Rat) = -(i : Rat) by rw [Rat.intCast_neg]) (show (0 : Rat) = -0 by grind)
  mul_comm := fun a b => Cn.ext' (show a.re * b.re - a.im * b.im = b.re * a.re - b.im * a.im by grind) (show a.re * b.im + a.im * b.re = b.re * a.im + b.im * a.re by grind)
instance : Lean.Grind.Field Cn where
  inv := Cn.inv
  div := Cn.div
  zpow := ⟨Cn.zpw⟩
  div_eq_mul_inv := fun a b => by
    show Cn.div a b = Cn.mul a (Cn.inv b)
    unfold Cn.div Cn.mul Cn.inv
    generalize b.nsq = N
    exact Cn.ext' (by dsimp only; grind) (by dsimp only; grind)
  zero_ne_one := fun h => absurd (congrArg Cn.re h) (show ¬ (((0 : Nat) : Rat) = ((1 : Nat) : Rat)) by decide)
  inv_zero := inv_zer
  mul_inv_cancel := fun h => inv_can h
  zpow_zero := fun a => rfl
  zpow_succ := fun a n => rfl
  zpow_neg := fun a n => by
    show Cn.zpw a (-n) = Cn.inv (Cn.zpw a n)
    match n with
    | .ofNat 0 => exact Cn.ext' (show (1 : Rat) = 1 / (1 * 1 + 0 * 0) by grind) (show (0 : Rat) = -0 / (1 * 1 + 0 * 0) by grind)
    | .ofNat (n + 1) => rfl
    | .negSucc n => exact (inv_inv' _).symm
/-! ### the field's signs -/
section
variable (x y : Cn)
theorem conj_conj : x.conj.conj = x := Cn.ext' rfl (show - -x.im = x.im by grind)
theorem conj_zero : (0 : Cn).conj = 0 := Cn.ext' rfl (show -(0 : Rat) = 0 by grind)
theorem mul_conj : x * x.conj = Cn.ofR x.nsq := Cn.ext' (show x.re * x.re - x.im * -x.im = x.re * x.re + x.im * x.im by grind) (show x.re * -x.im + x.im * x.re = 0 by grind)
theorem nsq_ne : x.nsq ≠ 0 ↔ x ≠ 0 := ⟨fun h k => h (by rw [k]; show (((0 : Nat) : Rat) * ((0 : Nat) : Rat) + 0 * 0) = 0; grind), fun h k => h (nsq_zer k)⟩
theorem scale_ofR (q : Rat) : x.scale q = x * Cn.ofR q := Cn.ext' (show x.re * q = x.re * q - x.im * 0 by grind) (show x.im * q = x.re * 0 + x.im * q by grind)
theorem ofR_inv (q : Rat) : Cn.ofR q⁻¹ = (Cn.ofR q)⁻¹ := by
  by_cases h : q = 0
  · rw [h]
    exact Cn.ext' (show (0 : Rat)⁻¹ = 0 / (0 * 0 + 0 * 0) by grind) (show (0 : Rat) = -0 / (0 * 0 + 0 * 0) by grind)
  · exact Cn.ext' (show q⁻¹ = q / (q * q + 0 * 0) by grind) (show (0 : Rat) = -0 / (q * q + 0 * 0) by grind)
end
/-! ### triples with a size -/
def Ts (n : Nat) (z : Cn) : Prop := ∃ a b c : Int, 0 < c ∧ Bd n a ∧ Bd n b ∧ Bd n c ∧ z = ⟨qd a c, qd b c⟩
section
variable {n m : Nat} {x y : Cn}
theorem Ts.mono (h : Ts n x) (k : n ≤ m) : Ts m x := by
  obtain ⟨a, b, c, h0, h1, h2, h3, h4⟩ := h
  exact ⟨a, b, c, h0, h1.mono k, h2.mono k, h3.mono k, h4⟩
theorem Ts.cs (h : Ts n x) : Cs n x := by
  obtain ⟨a, b, c, h0, h1, h2, h3, rfl⟩ := h
  exact ⟨rs_of h1 h3 (by omega), rs_of h2 h3 (by omega)⟩
theorem Cs.ts (h : Cs n x) : Ts (n + n) x := by
  refine ⟨x.re.num * x.im.den, x.im.num * x.re.den, x.re.den * x.im.den, ?_, h.1.1.mul h.2.2, h.2.1.mul h.1.2, h.1.2.mul h.2.2, ?_⟩
  · exact Int.mul_pos (den_pos _) (den_pos _)
  · have e1 : qd (x.re.num * x.im.den) (x.re.den * x.im.den) = x.re := by
      rw [qd_cancel _ _ _ (Int.mul_ne_zero (den_ne _) (den_ne _)), q_self]
    have e2 : qd (x.im.num * x.re.den) (x.re.den * x.im.den) = x.im := by
      rw [Int.mul_comm ((x.re.den : Nat) : Int) ((x.im.den : Nat) : Int), qd_cancel _ _ _ (Int.mul_ne_zero (den_ne _) (den_ne _)), q_self]
    rw [e1, e2]
theorem Ts.add (h : Ts n x) (k : Ts m y) : Ts (n + m + 1) (x + y) := by
  obtain ⟨a, b, c, h0, h1, h2, h3, rfl⟩ := h
  obtain ⟨d, e, f, k0, k1, k2, k3, rfl⟩ := k
  refine ⟨a * f + d * c, b * f + e * c, c * f, Int.mul_pos h0 k0, ((h1.mul k3).add (k1.mul h3)).mono (by omega), ((h2.mul k3).add (k2.mul h3)).mono (by omega), (h3.mul k3).mono (by omega), ?_⟩
  exact (tr_add a b c d e f (by omega) (by omega)).symm
theorem Ts.sub (h : Ts n x) (k : Ts m y) : Ts (n + m + 1) (x - y) := by
  obtain ⟨a, b, c, h0, h1, h2, h3, rfl⟩ := h
  obtain ⟨d, e, f, k0, k1, k2, k3, rfl⟩ := k
  refine ⟨a * f - d * c, b * f - e * c, c * f, Int.mul_pos h0 k0, ((h1.mul k3).sub (k1.mul h3)).mono (by omega), ((h2.mul k3).sub (k2.mul h3)).mono (by omega), (h3.mul k3).mono (by omega), ?_⟩
  exact (tr_sub a b c d e f (by omega) (by omega)).symm
theorem Ts.mul (h : Ts n x) (k : Ts m y) : Ts (n + m + 1) (x * y) := by
  obtain ⟨a, b, c, h0, h1, h2, h3, rfl⟩ := h
  obtain ⟨d, e, f, k0, k1, k2, k3, rfl⟩ := k
  refine ⟨a * d - b * e, a * e + b * d, c * f, Int.mul_pos h0 k0, ((h1.mul k1).sub (h2.mul k2)).mono (by omega), ((h1.mul k2).add (h2.mul k1)).mono (by omega), (h3.mul k3).mono (by omega), ?_⟩
  exact (tr_mul a b c d e f (by omega) (by omega)).symm
theorem sq_sum_pos {d e : Int} (h : d * d + e * e ≠ 0) : 0 < d * d + e * e := by
  have h1 := isq_nonneg d
  have h2 := isq_nonneg e
  omega
theorem Ts.div (h : Ts n x) (k : Ts m y) (hy : y ≠ 0) : Ts (n + m + m + 1) (x / y) := by
  have hn := (nsq_ne y).mpr hy
  obtain ⟨a, b, c, h0, h1, h2, h3, rfl⟩ := h
  obtain ⟨d, e, f, k0, k1, k2, k3, rfl⟩ := k
  have hz := nsq_int d e f (by omega) hn
  refine ⟨(a * d + b * e) * f, (b * d - a * e) * f, c * (d * d + e * e), Int.mul_pos h0 (sq_sum_pos hz), (((h1.mul k1).add (h2.mul k2)).mul k3).mono (by omega), (((h2.mul k1).sub (h1.mul k2)).mul k3).mono (by omega), (h3.mul ((k1.mul k1).add (k2.mul k2))).mono (by omega), ?_⟩
  exact (tr_div a b c d e f (by omega) (by omega) hz).symm
theorem Ts.conj (h : Ts n x) : Ts n x.conj := by
  obtain ⟨a, b, c, h0, h1, h2, h3, rfl⟩ := h
  refine ⟨a, -b, c, h0, h1, h2.neg, h3, ?_⟩
  unfold Cn.conj
  simp only [qd_div, Rat.intCast_neg]
  congr 1
  grind
theorem Ts.scale {q : Rat} (h : Ts n x) (k : Rs m q) : Ts (n + m) (x.scale q) := by
  obtain ⟨a, b, c, h0, h1, h2, h3, rfl⟩ := h
  refine ⟨a * q.num, b * q.num, c * q.den, Int.mul_pos h0 (den_pos q), h1.mul k.1, h2.mul k.1, h3.mul k.2, ?_⟩
  rw [r_mul, r_mul, q_self]
  rfl
theorem Ts.nsq (h : Ts n x) : Rs (n + n + 1) x.nsq := by
  obtain ⟨a, b, c, h0, h1, h2, h3, rfl⟩ := h
  rw [← tr_nsq a b c (by omega)]
  exact rs_of ((h1.mul h1).add (h2.mul h2)|>.mono (by omega)) ((h3.mul h3).mono (by omega)) (Int.mul_ne_zero (by omega) (by omega))
end
/-! ### the reduced triple -/
theorem tq_ex (z : Cn) : ∃ t : Int × Int × Int, 0 < t.2.2 ∧ z = ⟨qd t.1 t.2.2, qd t.2.1 t.2.2⟩ ∧ Nat.gcd (Nat.gcd t.1.natAbs t.2.1.natAbs) t.2.2.natAbs = 1 := by
  have h : ∃ n, Cs n z := ⟨z.re.num.natAbs + z.re.den + z.im.num.natAbs + z.im.den, by
    have key : ∀ a b : Nat, a ≤ b → a < 2 ^ b := fun a b h => Nat.lt_of_le_of_lt h Nat.lt_two_pow_self
    exact ⟨⟨key _ _ (by omega), key _ _ (by omega)⟩, ⟨key _ _ (by omega), key _ _ (by omega)⟩⟩⟩
  obtain ⟨n, h⟩ := h
  obtain ⟨a, b, c, h0, h1, h2, h3, rfl⟩ := h.ts
  obtain ⟨a', b', c', _, k0, _, _, _, e, g⟩ := cutq_pos _ a b c (by omega) (by omega) h1 h2 h3
  exact ⟨(a', b', c'), k0, e, g⟩
noncomputable def ta (z : Cn) : Int := (Classical.choose (tq_ex z)).1
noncomputable def tb (z : Cn) : Int := (Classical.choose (tq_ex z)).2.1
noncomputable def tc (z : Cn) : Int := (Classical.choose (tq_ex z)).2.2
noncomputable def tq (z : Cn) : PyData := .tuple [.int (ta z), .int (tb z), .int (tc z)]
theorem tc_pos (z : Cn) : 0 < tc z := (Classical.choose_spec (tq_ex z)).1
theorem tq_val (z : Cn) : z = ⟨qd (ta z) (tc z), qd (tb z) (tc z)⟩ := (Classical.choose_spec (tq_ex z)).2.1
theorem tq_gcd (z : Cn) : Nat.gcd (Nat.gcd (ta z).natAbs (tb z).natAbs) (tc z).natAbs = 1 := (Classical.choose_spec (tq_ex z)).2.2
theorem qd_cross {a c d f : Int} (hc : c ≠ 0) (hf : f ≠ 0) (h : qd a c = qd d f) : a * f = d * c := by
  have h1 := c_ne hc
  have h2 := c_ne hf
  rw [qd_div, qd_div] at h
  have h3 : ((a * f : Int) : Rat) = ((d * c : Int) : Rat) := by
    rw [Rat.intCast_mul, Rat.intCast_mul]
    grind
  exact Rat.intCast_inj.mp h3
theorem dvd_of_cross {a b c d e f : Int} (h1 : a * f = d * c) (h2 : b * f = e * c) (g : Nat.gcd (Nat.gcd a.natAbs b.natAbs) c.natAbs = 1) : c.natAbs ∣ f.natAbs := by
  have k1 : c.natAbs ∣ a.natAbs * f.natAbs := ⟨d.natAbs, by rw [← Int.natAbs_mul, h1, Int.natAbs_mul, Nat.mul_comm]⟩
  have k2 : c.natAbs ∣ b.natAbs * f.natAbs := ⟨e.natAbs, by rw [← Int.natAbs_mul, h2, Int.natAbs_mul, Nat.mul_comm]⟩
  have k3 : c.natAbs ∣ c.natAbs * f.natAbs := ⟨f.natAbs, rfl⟩
  have k4 := Nat.dvd_gcd (Nat.dvd_gcd k1 k2) k3
  rw [Nat.gcd_mul_right, Nat.gcd_mul_right, g, Nat.one_mul] at k4
  exact k4
theorem tq_uniq {a b c d e f : Int} (hc : 0 < c) (hf : 0 < f) (h : (⟨qd a c, qd b c⟩ : Cn) = ⟨qd d f, qd e f⟩) (g : Nat.gcd (Nat.gcd a.natAbs b.natAbs) c.natAbs = 1) (g2 : Nat.gcd (Nat.gcd d.natAbs e.natAbs) f.natAbs = 1) : a = d ∧ b = e ∧ c = f := by
  have e1 := qd_cross (by omega) (by omega) (congrArg Cn.re h)
  have e2 := qd_cross (by omega) (by omega) (congrArg Cn.im h)
  have d1 := dvd_of_cross e1 e2 g
  have d2 := dvd_of_cross e1.symm e2.symm g2
  have d3 := Nat.dvd_antisymm d1 d2
  have d4 : c = f := by omega
  subst d4
  exact ⟨Int.eq_of_mul_eq_mul_right (by omega) e1, Int.eq_of_mul_eq_mul_right (by omega) e2, rfl⟩
theorem tq_of {a b c : Int} (hc : 0 < c) (g : Nat.gcd (Nat.gcd a.natAbs b.natAbs) c.natAbs = 1) : PyData.tuple [.int a, .int b, .int c] = tq ⟨qd a c, qd b c⟩ := by
  obtain ⟨h1, h2, h3⟩ := tq_uniq hc (tc_pos _) (tq_val _) g (tq_gcd _)
  unfold tq
  rw [← h1, ← h2, ← h3]
theorem tq_inj {x y : Cn} (h : tq x = tq y) : x = y := by
  unfold tq at h
  injection h with h
  injection h with h1 h
  injection h with h2 h
  injection h with h3 h
  injection h1 with h1
  injection h2 with h2
  injection h3 with h3
  rw [tq_val x, tq_val y, h1, h2, h3]
theorem Ts.bd {n : Nat} {z : Cn} (h : Ts n z) : Bd n (ta z) ∧ Bd n (tb z) ∧ Bd n (tc z) := by
  obtain ⟨a, b, c, h0, h1, h2, h3, e⟩ := h
  obtain ⟨a', b', c', _, k0, k1, k2, k3, e', g⟩ := cutq_pos _ a b c (by omega) (by omega) h1 h2 h3
  obtain ⟨u1, u2, u3⟩ := tq_uniq k0 (tc_pos z) ((e'.symm.trans e.symm).trans (tq_val z)) g (tq_gcd z)
  rw [← u1, ← u2, ← u3]
  exact ⟨k1, k2, k3⟩


/-! QC: what the package's own reckoning comes to. -/
/-! ### how a def is run -/
section
variable {a b c d e : PyData} {r : List PyData} {i k : Int} {Φ : PyData → Prop}
theorem ix10 : oIx (.tuple [a]) (.int 0) Φ = Φ a := rfl
theorem ix20 : oIx (.tuple [a, b]) (.int 0) Φ = Φ a := rfl
theorem ix21 : oIx (.tuple [a, b]) (.int 1) Φ = Φ b := rfl
theorem ix30 : oIx (.tuple [a, b, c]) (.int 0) Φ = Φ a := rfl
theorem ix31 : oIx (.tuple [a, b, c]) (.int 1) Φ = Φ b := rfl
theorem ix32 : oIx (.tuple [a, b, c]) (.int 2) Φ = Φ c := rfl
theorem ix40 : oIx (.tuple [a, b, c, d]) (.int 0) Φ = Φ a := rfl
theorem ix41 : oIx (.tuple [a, b, c, d]) (.int 1) Φ = Φ b := rfl
theorem ix42 : oIx (.tuple [a, b, c, d]) (.int 2) Φ = Φ c := rfl
theorem ix43 : oIx (.tuple [a, b, c, d]) (.int 3) Φ = Φ d := rfl
theorem lx (i : Int) : oIx (.list r) (.int i) Φ = oIx (.tuple r) (.int i) Φ := rfl
theorem x_add : oAdd (.int i) (.int k) Φ = Φ (.int (i + k)) := rfl
theorem x_sub : oSub (.int i) (.int k) Φ = Φ (.int (i - k)) := rfl
theorem x_mul : oMul (.int i) (.int k) Φ = ((CMulX i k ∨ CMul i k) ∧ Φ (.int (i * k))) := rfl
theorem x_div : oDiv (.int i) (.int k) Φ = (CDivX i k ∧ Φ (.int (i.fdiv k))) := rfl
theorem x_mod : oMod (.int i) (.int k) Φ = (0 < k ∧ Φ (.int (i % k))) := rfl
theorem x_lt : oLt (.int i) (.int k) Φ = Φ (.bool (decide (i < k))) := rfl
theorem x_le : oLe (.int i) (.int k) Φ = Φ (.bool (decide (i ≤ k))) := rfl
theorem x_gt : oGt (.int i) (.int k) Φ = Φ (.bool (decide (k < i))) := rfl
theorem x_ge : oGe (.int i) (.int k) Φ = Φ (.bool (decide (k ≤ i))) := rfl
theorem x_eq : oEq (.int i) (.int k) Φ = Φ (.bool (decide (i = k))) := rfl
theorem x_ne : oNe (.int i) (.int k) Φ = Φ (.bool (!decide (i = k))) := rfl
theorem mul9 {n m : Nat} {i j : Int} (h : Bd n i) (k : Bd m j) (z : n + m ≤ 134217728) : CMulX i j ∨ CMul i j := Or.inl (mul_ok h k z)
theorem div9 {n : Nat} {i j : Int} (h : Bd n j) (h0 : j ≠ 0) (z : n ≤ 9000) : CDivX i j := by
  refine ⟨h0, ?_⟩
  have h1 : j.natAbs < 2 ^ 9000 := h.mono z
  have h2 : j.natAbs ≠ 0 := by omega
  exact (Nat.log2_lt h2).mpr h1
end
local macro_rules | `(tactic| walk_at "xs0") => `(tactic| dsimp only [vSeqS, vRet, vRetN, vTup, vCons, vNil, vCall, vCallD, vCallK, vCallQ, vOp, vVar, vC, vOf, vB, vIf, vIfS, vTest, vTru, vNot, vOr, vAnd, vAndV, vOrV, vNotV, vNeg, vAsg, vAsgM, vAsgG, vPar, vPar3, vgT, vgCons, vgN, vgNil, vDrop, vNext, vNever,
  two, three, truD, booD, ends, List.map, List.replicate, List.cons_append, List.nil_append, List.length_cons, List.length_nil, geE, puE, nm, fr, ix10, ix20, ix21, ix30, ix31, ix32, ix40, ix41, ix42, ix43, lx, x_add, x_sub, x_mul, x_div, x_mod, x_lt, x_le, x_gt, x_ge, x_eq, x_ne, Nat.reduceAdd, ifB_t, ifB_f, decide_true, decide_false, Bool.not_true, Bool.not_false])
local macro_rules | `(tactic| walk_at "xs") => `(tactic| (walk_at "xs0"; try simp only [eq_self, true_and]))
local macro_rules | `(tactic| walk_at "bd") => `(tactic| with_reducible first
  | assumption
  | (apply Bd.mul <;> walk_at "bd")
  | (apply Bd.add <;> walk_at "bd")
  | (apply Bd.sub <;> walk_at "bd")
  | (apply Bd.neg <;> walk_at "bd")
  | exact bd_zero
  | exact Rs.num (by assumption)
  | exact Rs.den (by assumption)
  | exact Rs.num (Cs.re (by assumption))
  | exact Rs.num (Cs.im (by assumption))
  | exact Rs.den (Cs.re (by assumption))
  | exact Rs.den (Cs.im (by assumption)))
local macro_rules | `(tactic| walk_at "mu") => `(tactic| exact mul9 (by walk_at "bd") (by walk_at "bd") (by omega))
theorem bd_s {n m : Nat} {i : Int} (h : Bd n i) (k : n ≤ m) : Bd m i := h.mono k
local macro_rules | `(tactic| walk_at "bs") => `(tactic| exact bd_s (by walk_at "bd") (by omega))
section
variable {Φ : PyData → Prop} {n m k : Nat} {x y : Cn} {p q : Rat}
theorem T_reduced {a b : Int} (h0 : b ≠ 0) (hb : Bd n b) (hz : n ≤ 9000) (h : Φ (fr (qd a b))) : F_reduced [.int a, .int b] Φ := by
  unfold F_reduced mkF b_reduced
  refine ⟨rfl, ?_⟩
  walk_at "xs"
  show ifB (decide (b < 0)) _ _
  have hg := gcd_bd a b h0 hb
  have hn := gcd_ne a b h0
  refine ifB_in (fun z => ?_) fun z => ?_
  · walk_at "xs"
    refine ⟨div9 hg.neg (by omega) hz, div9 hg.neg (by omega) hz, ?_⟩
    rw [red_end_neg a b (of_decide_eq_true z)]
    exact h
  · walk_at "xs"
    refine ⟨div9 hg hn hz, div9 hg hn hz, ?_⟩
    rw [red_end_pos a b h0 (of_decide_eq_false z)]
    exact h
theorem T_fless (hp : Rs n p) (hq : Rs m q) (hz : n + m ≤ 9000) (h : Φ (fr (p - q))) : F_fraction_less [fr p, fr q] Φ := by
  unfold F_fraction_less mkF b_fraction_less
  refine ⟨rfl, ?_⟩
  walk_at "xs"
  refine ⟨by walk_at "mu", by walk_at "mu", by walk_at "mu", ?_⟩
  refine T_reduced (Int.mul_ne_zero (den_ne p) (den_ne q)) (hp.2.mul hq.2) hz ?_
  rw [q_sub]
  exact h
theorem T_ftimes (hp : Rs n p) (hq : Rs m q) (hz : n + m ≤ 9000) (h : Φ (fr (p * q))) : F_fraction_times [fr p, fr q] Φ := by
  unfold F_fraction_times mkF b_fraction_times
  refine ⟨rfl, ?_⟩
  walk_at "xs"
  refine ⟨by walk_at "mu", by walk_at "mu", ?_⟩
  refine T_reduced (Int.mul_ne_zero (den_ne p) (den_ne q)) (hp.2.mul hq.2) hz ?_
  rw [q_mul]
  exact h
theorem T_number_from {a b c : Int} (h0 : c ≠ 0) (hb : Bd n c) (hz : n ≤ 9000) (h : Φ (nm ⟨qd a c, qd b c⟩)) : F_number_from [.int a, .int b, .int c] Φ := by
  unfold F_number_from mkF b_number_from
  refine ⟨rfl, ?_⟩
  walk_at "xs"
  exact T_reduced h0 hb hz (T_reduced h0 hb hz h)
theorem T_less (hx : Cs n x) (hy : Cs m y) (hz : n + m ≤ 9000) (h : Φ (nm (x - y))) : F_less [nm x, nm y] Φ := by
  unfold F_less mkF b_less
  refine ⟨rfl, ?_⟩
  walk_at "xs"
  exact T_fless hx.1 hy.1 hz (T_fless hx.2 hy.2 hz h)
theorem T_scaled (hx : Cs n x) (hq : Rs m q) (hz : n + m ≤ 9000) (h : Φ (nm (x * Cn.ofR q))) : F_scaled [nm x, fr q] Φ := by
  unfold F_scaled mkF b_scaled
  refine ⟨rfl, ?_⟩
  walk_at "xs"
  rw [← scale_ofR] at h
  exact T_ftimes hx.1 hq hz (T_ftimes hx.2 hq hz h)
theorem T_times (hx : Cs n x) (hy : Cs m y) (hz : n + n + (m + m) ≤ 9000) (h : Φ (nm (x * y))) : F_times [nm x, nm y] Φ := by
  unfold F_times mkF b_times
  refine ⟨rfl, ?_⟩
  walk_at "xs"
  refine ⟨by walk_at "mu", by walk_at "mu", by walk_at "mu", by walk_at "mu", by walk_at "mu", by walk_at "mu", by walk_at "mu", by walk_at "mu", by walk_at "mu", by walk_at "mu", by walk_at "mu", ?_⟩
  refine T_number_from (n := n + n + m + m) ?_ ?_ (by omega) ?_
  · exact Int.mul_ne_zero (Int.mul_ne_zero (Int.mul_ne_zero (den_ne _) (den_ne _)) (den_ne _)) (den_ne _)
  · walk_at "bd"
  · rw [c_mul]
    exact h
theorem T_mirror (h : Φ (nm x.conj)) : F_mirror [nm x] Φ := by
  unfold F_mirror mkF b_mirror
  refine ⟨rfl, ?_⟩
  walk_at "xs"
  exact h
theorem T_size_of (hx : Cs n x) (hz : n + n + (n + n) ≤ 9000) (h : Φ (fr x.nsq)) : F_size_of [nm x] Φ := by
  unfold F_size_of mkF b_size_of
  refine ⟨rfl, ?_⟩
  walk_at "xs"
  refine ⟨by walk_at "mu", by walk_at "mu", by walk_at "mu", by walk_at "mu", by walk_at "mu", by walk_at "mu", by walk_at "mu", ?_⟩
  refine T_reduced (n := n + n + n + n) ?_ ?_ (by omega) ?_
  · exact Int.mul_ne_zero (Int.mul_ne_zero (Int.mul_ne_zero (den_ne _) (den_ne _)) (den_ne _)) (den_ne _)
  · walk_at "bd"
  · rw [c_nsq]
    exact h
theorem fr_inv (h : 0 < q) : PyData.tuple [.int (q.den : Int), .int q.num] = fr q⁻¹ := by
  obtain ⟨h1, h2⟩ := inv_parts h
  show _ = PyData.tuple [.int (q⁻¹).num, .int ((q⁻¹).den : Int)]
  rw [h1, h2]
theorem Rs.inv (hq : Rs n q) (h : 0 < q) : Rs n q⁻¹ := by
  obtain ⟨h1, h2⟩ := inv_parts h
  exact ⟨by rw [h1]; exact hq.2, by rw [h2]; exact hq.1⟩
end


section
variable {Φ : PyData → Prop} {n m k : Nat} {x y : Cn} {p q : Rat}
theorem nsq_pos (h : x ≠ 0) : 0 < x.nsq := by
  have h1 := (nsq_ne x).mpr h
  have h2 := nsq_nonneg x
  grind
theorem T_over (hx : Ts n x) (hy : Ts m y) (h0 : y ≠ 0) (h1 : n + n + (m + m) ≤ 9000) (h2 : m + m + (m + m) ≤ 9000) (h3 : n + m + 1 + (m + m + 1) ≤ 9000) (h : Φ (nm (x / y))) : F_over [nm x, nm y] Φ := by
  unfold F_over mkF b_over
  refine ⟨rfl, ?_⟩
  walk_at "xs"
  refine T_size_of hy.cs h2 ?_
  refine ⟨rfl, ?_⟩
  refine T_mirror ?_
  refine T_times hx.cs hy.conj.cs h1 ?_
  have h4 := nsq_pos h0
  have e : PyData.tuple [.int (y.nsq.den : Int), .int y.nsq.num] = fr (y.nsq⁻¹) := fr_inv h4
  rw [e]
  refine T_scaled (hx.mul hy.conj).cs (hy.nsq.inv h4) h3 ?_
  have e2 : x * y.conj * Cn.ofR y.nsq⁻¹ = x / y := by
    rw [ofR_inv, ← mul_conj]
    have h5 : y.conj ≠ 0 := fun k => h0 (by rw [← conj_conj y, k, conj_zero])
    generalize y.conj = z at *
    grind
  rw [e2]
  exact h
end


/-! QE: the laws' own reckoning with triples, their draws. -/
local macro_rules | `(tactic| walk_at "xp") => `(tactic| (dsimp only [vPIx, vPSet, vPPar, intD, pairD, oDivmod, oInt, oAbs, oLen, oGcd, oMax, oMin, vSeqS, vRet, vRetN, vTup, vCons, vNil, vCall, vCallQ, vOp, vVar, vC, vOf, vB, vIf, vIfS, vTest, vTru, vNot, vOr, vAnd, vAndV, vOrV, vNotV, vNeg, vAsg, vAsgM, vAsgG, vPar, vPar3, vDrop, vNext, two, three, truD, booD, ends, List.map, List.replicate, List.cons_append, List.nil_append, List.length_cons, List.length_nil, geE, puE, lx, x_add, x_sub, x_mul, x_div, x_mod, x_lt, x_le, x_gt, x_ge, x_eq, x_ne, ifB_t, ifB_f]; try simp only [eq_self, true_and]))
section
variable {Φ : PyData → Prop} {n m k : Nat} {x y : Cn} {p q : Rat} {A : Addr}
theorem common_loop {P : Post} : ∀ (n a b : Nat), b < n → P.N [.d (.int (Nat.gcd a b : Nat)), .d (.int 0)] →
    whW (vTest (vOp oGt (vVar 1) (vC (.int 0)))) (vPar 0 1 (vCons (vVar 1) (vCons (vOp oMod (vB oInt (vCons (vVar 0) vNil)) (vVar 1)) vNil))) n [.d (.int (a : Int)), .d (.int (b : Int))] P
  | 0, _, _, h, _ => absurd h (Nat.not_lt_zero _)
  | n + 1, a, b, h, q => by
    unfold whW
    walk_at "xp"
    refine ifB_in (fun z => ⟨of_decide_eq_true z, ?_⟩) fun z => ?_
    · have hb : 0 < b := by have := of_decide_eq_true z; omega
      have e : (a : Int) % (b : Int) = ((a % b : Nat) : Int) := (Int.natCast_emod a b).symm
      rw [e]
      refine common_loop n b (a % b) (Nat.lt_of_lt_of_le (Nat.mod_lt _ hb) (by omega)) ?_
      rw [Nat.gcd_comm b, ← Nat.gcd_rec, Nat.gcd_comm]
      exact q
    · have hb : b = 0 := by have := of_decide_eq_false z; omega
      subst hb
      rw [Nat.gcd_zero_right] at q
      exact q
theorem tq_sq_ne {y : Cn} (h : y ≠ 0) : ta y * ta y + tb y * tb y ≠ 0 := by
  refine nsq_int _ _ (tc y) (by have := tc_pos y; omega) ?_
  rw [← tq_val]
  exact (nsq_ne y).mpr h
theorem tq_zero : (ta x = 0 ∧ tb x = 0) ↔ x = 0 := by
  have h1 := tc_pos x
  have h2 := c_ne (show tc x ≠ 0 by omega)
  have h3 := tq_val x
  constructor
  · rintro ⟨h4, h5⟩
    rw [h3, h4, h5]
    exact Cn.ext' (by show qd 0 (tc x) = ((0 : Nat) : Rat); rw [qd_div]; grind) (by show qd 0 (tc x) = 0; rw [qd_div]; grind)
  · intro h4
    have e1 : qd (ta x) (tc x) = 0 := by
      have := congrArg Cn.re (h3.symm.trans h4)
      exact this
    have e2 : qd (tb x) (tc x) = 0 := by
      have := congrArg Cn.im (h3.symm.trans h4)
      exact this
    rw [qd_div] at e1 e2
    exact ⟨Rat.intCast_eq_zero_iff.mp (by grind), Rat.intCast_eq_zero_iff.mp (by grind)⟩
end


/-! QT: how turns of a disc act. -/
theorem mul_ne' {a b : Cn} (h : a ≠ 0) (k : b ≠ 0) : a * b ≠ 0 := by
  intro z
  have e : a = a * b * b⁻¹ := by grind
  rw [z] at e
  apply h
  rw [e]
  grind
section
variable {g : Rat} {u c z w x y : Cn}
end


/-! QU: the turn between two pairs. -/
section
variable {g : Rat} {u z w x y : Cn}
end


/-! QF: turns, as the package reckons them. -/
section
variable {Φ : PyData → Prop} {n m k l : Nat} {x y z u c : Cn} {p q g : Rat} {A : Addr}
theorem ts_zero : Ts 1 (0 : Cn) := ⟨0, 0, 1, by decide, by unfold Bd; decide, by unfold Bd; decide, by unfold Bd; decide, by
  exact Cn.ext' (by show ((0 : Nat) : Rat) = qd 0 1; rw [qd_div]; grind) (by show 0 = qd 0 1; rw [qd_div]; grind)⟩
theorem ts_one : Ts 1 (1 : Cn) := ⟨1, 0, 1, by decide, by unfold Bd; decide, by unfold Bd; decide, by unfold Bd; decide, by
  exact Cn.ext' (by show ((1 : Nat) : Rat) = qd 1 1; rw [qd_div]; grind) (by show 0 = qd 0 1; rw [qd_div]; grind)⟩
/-! ### what is asked of what is given -/
theorem T_is_whole {i : Int} (h : Φ (.bool true)) : F_is_whole [.int i] Φ := by
  unfold F_is_whole mkF b_is_whole
  exact ⟨rfl, h⟩
theorem T_is_fraction (h : Φ (.bool true)) : F_is_fraction [fr q] Φ := by
  unfold F_is_fraction mkF b_is_fraction
  refine ⟨rfl, ?_⟩
  show _ ∧ _
  refine ⟨rfl, ?_⟩
  show F_is_whole [.int q.num] _
  refine T_is_whole ?_
  show F_is_whole [.int q.den] _
  refine T_is_whole ?_
  show ifB (decide ((0 : Int) < q.den)) _ _
  rw [decide_eq_true (den_pos q)]
  show Φ (.bool (decide (((Nat.gcd q.num.natAbs ((q.den : Int)).natAbs : Nat) : Int) = 1)))
  have e : Nat.gcd q.num.natAbs ((q.den : Int)).natAbs = 1 := q.reduced
  rw [e]
  exact h
theorem T_is_number (h : Φ (.bool true)) : F_is_number [nm x] Φ := by
  unfold F_is_number mkF b_is_number
  refine ⟨rfl, ?_⟩
  show F_is_fraction [fr x.re] _
  refine T_is_fraction ?_
  show F_is_fraction [fr x.im] _
  exact T_is_fraction h
end


/-! QG: led, apart, between, as the package reckons them. -/
instance : DecidableEq Cn := fun x y => if h : x.re = y.re ∧ x.im = y.im then isTrue (Cn.ext' h.1 h.2) else isFalse fun k => h (by rw [k]; exact ⟨rfl, rfl⟩)
local macro_rules | `(tactic| walk_at "ys") => `(tactic| (dsimp only [vSeqS, vRet, vRetN, vTup, vCons, vNil, vCall, vCallD, vCallK, vCallQ, vOp, vVar, vC, vOf, vB, vIf, vIfS, vTest, vTru, vNot, vOr, vAnd, vAndV, vOrV, vNotV, vNeg, vAsg, vAsgM, vAsgG, vPar, vPar3, vgT, vgCons, vgN, vgNil, vDrop, vNext, vNever, vFor, forW, vSeq, seD,
  two, three, truD, booD, ends, List.map, List.replicate, List.cons_append, List.nil_append, List.length_cons, List.length_nil, geE, puE, ix10, ix20, ix21, ix30, ix31, ix32, ix40, ix41, ix42, ix43, lx, x_add, x_sub, x_mul, x_div, x_mod, x_lt, x_le, x_gt, x_ge, x_eq, x_ne, Nat.reduceAdd, ifB_t, ifB_f, decide_true, decide_false, Bool.not_true, Bool.not_false]; try simp only [eq_self, true_and]))
section
variable {Φ : PyData → Prop} {n m k l : Nat} {x y z w u c : Cn} {p q g : Rat} {A : Addr}
theorem eqv_fr {p q : Rat} : PyData.eqv (fr p) (fr q) = decide (p = q) := by
  have h : PyData.eqv (fr p) (fr q) = (p.num == q.num && (((p.den : Nat) : Int) == ((q.den : Nat) : Int) && true)) := rfl
  rw [h]
  by_cases e : p = q
  · subst e
    simp
  · rw [decide_eq_false e]
    by_cases h1 : p.num = q.num
    · have h2 : ¬ p.den = q.den := fun h2 => e (Rat.ext h1 h2)
      have h3 : (((p.den : Nat) : Int) == ((q.den : Nat) : Int)) = false := by
        rw [beq_eq_false_iff_ne]
        omega
      rw [h3]
      simp
    · have h3 : (p.num == q.num) = false := by
        rw [beq_eq_false_iff_ne]
        exact h1
      rw [h3]
      rfl
theorem eqv_nm {x y : Cn} : PyData.eqv (nm x) (nm y) = decide (x = y) := by
  have h : PyData.eqv (nm x) (nm y) = (PyData.eqv (fr x.re) (fr y.re) && (PyData.eqv (fr x.im) (fr y.im) && true)) := rfl
  rw [h, eqv_fr, eqv_fr]
  by_cases e : x = y
  · subst e
    simp
  · rw [decide_eq_false e]
    by_cases h1 : x.re = y.re
    · have h2 : ¬ x.im = y.im := fun h2 => e (Cn.ext' h1 h2)
      rw [decide_eq_false h2]
      simp
    · rw [decide_eq_false h1]
      rfl
end


/-! QH: what the laws draw: places, bounds, units. -/
section
variable {Φ : PyData → Prop} {n m k l : Nat} {x y z w u c : Cn} {p q g : Rat} {A : Addr}
theorem at_in {ds : List PyData} {i : Int} (h0 : 0 ≤ i) (h1 : i < ds.length) (h : ∀ d ∈ ds, Φ d) : oIx (.tuple ds) (.int i) Φ := by
  have e : ∃ d, atI ds i = some d ∧ d ∈ ds := by
    unfold atI ixN
    rw [if_pos h0, if_pos h1]
    have hl : i.toNat < ds.length := by omega
    refine ⟨ds[i.toNat], ?_, List.getElem_mem hl⟩
    show ds[i.toNat]? = _
    exact List.getElem?_eq_getElem hl
  obtain ⟨d, e1, e2⟩ := e
  show (match atI ds i with | some d => Φ d | none => False)
  rw [e1]
  exact h d e2
/-- a bound's form -/
structure Bo (g : Rat) : Prop where
  pos : 0 < g
  num : g.num ≤ 100
  den : (g.den : Int) ≤ 25
  pr : g.num * g.den ≤ 399
theorem Bo.n0 (h : Bo g) : 0 < g.num := by have h1 := (inv_parts h.pos).2; have h2 := den_pos g⁻¹; omega
theorem Bo.rs (h : Bo g) : Rs 7 g := ⟨by have := h.n0; have := h.num; unfold Bd; omega, by have := h.den; have := den_pos g; unfold Bd; omega⟩
end


/-! QI: the laws' turns. -/
/-- a drawn number of the disc -/
structure Dz (g : Rat) (z : Cn) : Prop where
  ts : Ts 8 z
  lt : z.nsq < g
/-- a number of the disc, drawn or led -/
structure Dw (g : Rat) (z : Cn) : Prop where
  ts : Ts 75 z
  lt : z.nsq < g
theorem Dz.w {g : Rat} {z : Cn} (h : Dz g z) : Dw g z := ⟨h.ts.mono (by decide), h.lt⟩
section
variable {Φ : PyData → Prop} {n m k l : Nat} {x y z w u c : Cn} {p q g : Rat} {A : Addr}
theorem tq_lit1 (a b : Int) : PyData.tuple [.int a, .int b, .int 1] = tq ⟨qd a 1, qd b 1⟩ := tq_of (by decide) (Nat.gcd_one_right _)
end


/-! QJ: the laws' checks of a turn. -/
section
variable {Φ : PyData → Prop} {n m k l : Nat} {x y z w u c : Cn} {p q g : Rat} {A : Addr}
theorem eqv_tq {x y : Cn} : PyData.eqv (tq x) (tq y) = decide (x = y) := by
  have h : PyData.eqv (tq x) (tq y) = (ta x == ta y && (tb x == tb y && (tc x == tc y && true))) := rfl
  rw [h]
  by_cases e : x = y
  · subst e
    simp
  · rw [decide_eq_false e]
    rcases Bool.eq_false_or_eq_true (ta x == ta y && (tb x == tb y && (tc x == tc y && true))) with q | q
    · simp only [Bool.and_eq_true, beq_iff_eq] at q
      refine absurd (tq_inj ?_) e
      unfold tq
      rw [q.1, q.2.1, q.2.2.1]
    · exact q
end


/-! QS: what is shown; the pot. -/
theorem x_neN (d : PyData) (Φ : PyData → Prop) : oNotN d .none Φ = Φ (.bool (!isNone d)) := rfl
theorem isNone_none : isNone .none = true := rfl
local macro_rules | `(tactic| walk_at "zs") => `(tactic| (try dsimp only [vLc, lcW, vTurn, cleE, clE, vYes, Option.toList, List.append, List.nil_append, vSl, slD2, vPart, vSeqS, vRet, vRetN, vTup, vCons, vNil, vCall, vCallD, vCallK, vCallQ, vOp, vVar, vC, vOf, vB, vIf, vIfS, vTest, vTru, vNot, vOr, vAnd, vAndV, vOrV, vNotV, vNeg, vAsg, vAsgM, vAsgG, vPar, vPar3, vgT, vgCons, vgN, vgNil, vDrop, vNext, vNever, vFor, forW, vSeq, seD,
  two, three, truD, booD, ends, List.map, List.replicate, List.cons_append, List.nil_append, List.length_cons, List.length_nil, geE, puE, ix10, ix20, ix21, ix30, ix31, ix32, ix40, ix41, ix42, ix43, lx, x_add, x_sub, x_mul, x_div, x_mod, x_lt, x_le, x_gt, x_ge, x_eq, x_ne, Nat.reduceAdd, ifB_t, ifB_f, decide_true, decide_false, Bool.not_true, Bool.not_false, kp_2_10, intD, vRep, isNone_none, x_neN]; try simp only [eq_self, true_and]))
section
variable {Φ : PyData → Prop} {n m k l : Nat} {x y z w u c : Cn} {p q g : Rat} {A : Addr} {P : Post}
theorem T_repr {d : PyData} (h1 : Shw d) (h2 : cnt d ≤ 8000) (h3 : PyData.depth d ≤ 60) (h : Φ (.str (PyData.shown d))) : oRepr [d] Φ := by
  obtain ⟨a1, a2, a3⟩ := shw_ok d h1
  refine ⟨a1, a2, h3, ?_, h⟩
  rw [sizeLine_eq]
  omega
end


/-! QAA: the laws' triples by gcd, cut, add, times; their pail and what is dipped of it. -/
section
variable {Φ : PyData → Prop} {n m k : Nat} {x y : Cn} {p q : Rat} {A : Addr} {P : Post}
theorem T_gcd {a b : Int} (h : Φ (.int ((Nat.gcd a.natAbs b.natAbs : Nat) : Int))) : F__law_gcd [.int a, .int b] Φ := by
  unfold F__law_gcd mkF b__law_gcd
  refine ⟨rfl, ?_⟩
  walk_at "xp"
  rw [(gcd_start a b).1, (gcd_start a b).2]
  exact ⟨b.natAbs + 1, common_loop _ _ _ (Nat.lt_succ_self _) h⟩
theorem T_cut0 {a b c : Int} (h0 : 0 < c) (hc : Bd n c) (hz : n ≤ 9000) (h : Φ (tq ⟨qd a c, qd b c⟩)) : F__law_cut [.int a, .int b, .int c] Φ := by
  unfold F__law_cut mkF b__law_cut
  refine ⟨rfl, ?_⟩
  walk_at "xp"
  refine T_gcd (T_gcd ?_)
  rw [decide_eq_false (show ¬ c < 0 by omega)]
  show _ ∧ _ ∧ _ ∧ _
  have hn := gcd_ne (((Nat.gcd a.natAbs b.natAbs : Nat) : Int)) c (by omega)
  have hg := gcd_bd (((Nat.gcd a.natAbs b.natAbs : Nat) : Int)) c (by omega) hc
  refine ⟨div9 hg hn hz, div9 hg hn hz, div9 hg hn hz, ?_⟩
  have key : ∃ N, Bd N a ∧ Bd N b ∧ Bd N c := ⟨a.natAbs + b.natAbs + c.natAbs, by
    have key : ∀ a b : Nat, a ≤ b → a < 2 ^ b := fun a b h => Nat.lt_of_le_of_lt h Nat.lt_two_pow_self
    exact ⟨key _ _ (by omega), key _ _ (by omega), key _ _ (by omega)⟩⟩
  obtain ⟨N, ha, hb, hc'⟩ := key
  obtain ⟨a', b', c', e1, k0, _, _, _, e, g⟩ := cutq_pos N a b c (by omega) (by omega) ha hb hc'
  dsimp only
  rw [e1]
  show Φ (.tuple [.int a', .int b', .int c'])
  rw [tq_of k0 g, ← e]
  exact h
theorem T_add0 (hx : Ts n x) (hy : Ts m y) (hz : n + m ≤ 9000) (h : Φ (tq (x + y))) : F__law_add [tq x, tq y] Φ := by
  unfold F__law_add mkF b__law_add
  refine ⟨rfl, ?_⟩
  obtain ⟨a1, a2, a3⟩ := hx.bd
  obtain ⟨b1, b2, b3⟩ := hy.bd
  unfold tq
  walk_at "xs"
  refine ⟨by walk_at "mu", by walk_at "mu", by walk_at "mu", by walk_at "mu", by walk_at "mu", ?_⟩
  refine T_cut0 (Int.mul_pos (tc_pos x) (tc_pos y)) (a3.mul b3) hz ?_
  rw [tr_add _ _ _ _ _ _ (by have := tc_pos x; omega) (by have := tc_pos y; omega), ← tq_val, ← tq_val]
  exact h
theorem T_times0 (hx : Ts n x) (hy : Ts m y) (hz : n + m ≤ 9000) (h : Φ (tq (x * y))) : F__law_times [tq x, tq y] Φ := by
  unfold F__law_times mkF b__law_times
  refine ⟨rfl, ?_⟩
  obtain ⟨a1, a2, a3⟩ := hx.bd
  obtain ⟨b1, b2, b3⟩ := hy.bd
  unfold tq
  walk_at "xs"
  refine ⟨by walk_at "mu", by walk_at "mu", by walk_at "mu", by walk_at "mu", by walk_at "mu", ?_⟩
  refine T_cut0 (Int.mul_pos (tc_pos x) (tc_pos y)) (a3.mul b3) hz ?_
  rw [tr_mul _ _ _ _ _ _ (by have := tc_pos x; omega) (by have := tc_pos y; omega), ← tq_val, ← tq_val]
  exact h
theorem T_fraction0 {a c : Int} (h0 : 0 < c) (hc : Bd n c) (hz : n ≤ 9000) (h : Φ (fr (qd a c))) : F__law_fraction [.int a, .int c] Φ := by
  unfold F__law_fraction mkF b__law_fraction
  refine ⟨rfl, ?_⟩
  walk_at "xp"
  refine T_gcd ?_
  rw [decide_eq_false (show ¬ c < 0 by omega)]
  show _ ∧ _ ∧ _
  have hn := gcd_ne a c (by omega)
  have hg := gcd_bd a c (by omega) hc
  refine ⟨div9 hg hn hz, div9 hg hn hz, ?_⟩
  dsimp only
  rw [red_end_pos a c (by omega) (by omega)]
  exact h
theorem T_told0 (hx : Ts n x) (hz : n ≤ 9000) (h : Φ (nm x)) : F__law_told [tq x] Φ := by
  unfold F__law_told mkF b__law_told
  refine ⟨rfl, ?_⟩
  obtain ⟨a1, a2, a3⟩ := hx.bd
  have e1 : qd (ta x) (tc x) = x.re := (congrArg Cn.re (tq_val x)).symm
  have e2 : qd (tb x) (tc x) = x.im := (congrArg Cn.im (tq_val x)).symm
  unfold tq
  walk_at "xs"
  refine T_fraction0 (tc_pos x) a3 hz (T_fraction0 (tc_pos x) a3 hz ?_)
  rw [e1, e2]
  exact h
theorem T_dip {many : Int} (h0 : 0 < many) (h1 : many < 1073741824) (h : ∀ r : Int, 0 ≤ r → r < many → Φ (.int r)) : F__law_dip A [.int many] Φ := by
  unfold F__law_dip mkQ b__law_dip
  refine ⟨rfl, ?_⟩
  walk_at "xp"
  have fin : ∀ z : Int, Φ (.int (z % many)) := fun z => h _ (Int.emod_nonneg _ (by omega)) (Int.emod_lt_of_pos _ h0)
  intro a _
  refine ifB_in (fun _ => ?_) fun _ => ?_
  · intro b _
    exact ⟨⟨h0, h1⟩, fun z => absurd z (by decide), fin _⟩
  · intro c _
    refine ⟨fun z => absurd z (by decide), fun y hy => ?_⟩
    refine ⟨Or.inr (Or.inr ⟨by decide, by decide⟩), fun x _ => ⟨Or.inr (Or.inr ⟨by decide, by decide⟩), by decide, ⟨by decide, by decide +kernel⟩, fun x1 _ => ?_⟩⟩
    have r0 : 0 ≤ (y * 48271 + x * 69621) % 2147483629 := Int.emod_nonneg _ (by decide)
    have r1 : (y * 48271 + x * 69621) % 2147483629 < 2147483629 := Int.emod_lt_of_pos _ (by decide)
    generalize (y * 48271 + x * 69621) % 2147483629 = r at r0 r1
    refine ⟨Or.inr (Or.inl ⟨by decide, by decide⟩), Or.inr (Or.inl ⟨by omega, by omega⟩), by decide, fun _ => ⟨Int.emod_nonneg _ (by decide), Int.lt_trans (Int.emod_lt_of_pos _ (by decide)) (by decide)⟩, fun x2 _ => ⟨⟨by decide, by decide +kernel⟩, h0, fin _⟩⟩
theorem pail_loop {P : Post} {L T C o : Sl} (hP : ∀ (m : Int) (a : Sl), P.N [L, T, C, .d (.int m), a, o]) : ∀ (xs : List PyData), (∀ d ∈ xs, ∃ v : Int, d = .int v) → ∀ (m : Int) (a : Sl),
    forW (vgN 4) (vAsg 3 (vOp oMod (vB oInt (vCons (vOp oAdd (vOp oAdd (vOp oMul (vVar 3) (vC (.int 69069))) (vOp oMul (vOp oMod (vB oInt (vCons (vVar 4) vNil)) (vC (.int 998244353))) (vC (.int 31)))) (vC (.int 7))) vNil)) (vC (.int 2147483629)))) xs [L, T, C, .d (.int m), a, o] P
  | [], _, m, a => hP m a
  | x :: xs, h, m, a => by
    obtain ⟨v, rfl⟩ := h x (List.mem_cons_self ..)
    unfold forW
    show (_ ∨ _) ∧ _ ∧ (_ ∨ _) ∧ _ ∧ _
    refine ⟨Or.inr (Or.inr ⟨by decide, by decide⟩), by decide, Or.inr (Or.inr ⟨by decide, by decide⟩), by decide, ?_⟩
    exact pail_loop hP xs (fun d hd => h d (List.mem_cons_of_mem _ hd)) _ _
theorem F__law_pail_ok (ns : List Int) (t : Int) (h : 0 ≤ t) : b__law_pail (ends [.list (ns.map .int), .int t] 4) threeP := by
  unfold b__law_pail vSeqM
  have rest : ∀ cell : Int, vSeqM (vAsg 3 (vOp oAdd (vC (.int 51043)) (vOp oMul (vC (.int 8009)) (vVar 1)))) (vSeqM (vFor (vSeq (vSl (vVar 0) (fun _ Θ => Θ none) (vPart (vC (.int 9))))) (vgN 4) (vAsg 3 (vOp oMod (vB oInt (vCons (vOp oAdd (vOp oAdd (vOp oMul (vVar 3) (vC (.int 69069))) (vOp oMul (vOp oMod (vB oInt (vCons (vVar 4) vNil)) (vC (.int 998244353))) (vC (.int 31)))) (vC (.int 7))) vNil)) (vC (.int 2147483629))))) (vSeqM (vAsg 5 (vOrV (vOp oLt (vVar 2) (vC (.int 0))) (vOp oGe (vVar 2) (vOp oPow (vC (.int 10)) (vC (.int 15)))))) (vCons (vIf (vTru (vVar 5)) (vB oAbs (vCons (vVar 2) vNil)) (vC (.int 0))) (vCons (vOp oMod (vB oInt (vCons (vOp oAdd (vOp oAdd (vOp oMul (vVar 3) (vC (.int 89))) (vOp oMul (vOp oMod (vB oInt (vCons (vVar 2) vNil)) (vC (.int 998244353))) (vC (.int 20011)))) (vC (.int 5))) vNil)) (vC (.int 2147483629))) (vCons (vC (.int 0)) vNil))))) [.d (.list (ns.map .int)), .d (.int t), .d (.int cell), .un, .un, .un] threeP := by
    intro cell
    unfold vSeqM
    show (_ ∨ _) ∧ _
    refine ⟨Or.inr (Or.inl ⟨by decide, by decide⟩), ?_⟩
    obtain ⟨ms, e⟩ : ∃ ms : List Int, cutD (ns.map PyData.int) none (some 9) = ms.map PyData.int := by
      refine ⟨(ns.drop (HT.sIx (ns.map PyData.int).length 0 none)).take (HT.sIx (ns.map PyData.int).length (ns.map PyData.int).length (some 9) - HT.sIx (ns.map PyData.int).length 0 none), ?_⟩
      unfold cutD
      rw [List.map_take, List.map_drop]
    show forW _ _ (cutD (ns.map PyData.int) none (some 9)) _ _
    rw [e]
    refine pail_loop (L := .d (.list (ns.map .int))) (T := .d (.int t)) (C := .d (.int cell)) (o := .un) ?_ _ (fun d hd => ?_) _ _
    · intro m a
      have fin : ∀ b : Bool, (vCons (vIf (vTru (vVar 5)) (vB oAbs (vCons (vVar 2) vNil)) (vC (.int 0))) (vCons (vOp oMod (vB oInt (vCons (vOp oAdd (vOp oAdd (vOp oMul (vVar 3) (vC (.int 89))) (vOp oMul (vOp oMod (vB oInt (vCons (vVar 2) vNil)) (vC (.int 998244353))) (vC (.int 20011)))) (vC (.int 5))) vNil)) (vC (.int 2147483629))) (vCons (vC (.int 0)) vNil))) [.d (.list (ns.map .int)), .d (.int t), .d (.int cell), .d (.int m), a, .d (.bool b)] threeP := by
        intro b
        show ifB b _ _
        refine ifB_in (fun _ => ?_) fun _ => ?_
        · show (_ ∨ _) ∧ _ ∧ (_ ∨ _) ∧ _ ∧ _
          exact ⟨Or.inr (Or.inr ⟨by decide, by decide⟩), by decide, Or.inr (Or.inr ⟨by decide, by decide⟩), by decide, _, _, _, rfl, Int.emod_nonneg _ (by decide), Int.lt_trans (Int.emod_lt_of_pos _ (by decide)) (by decide)⟩
        · show (_ ∨ _) ∧ _ ∧ (_ ∨ _) ∧ _ ∧ _
          exact ⟨Or.inr (Or.inr ⟨by decide, by decide⟩), by decide, Or.inr (Or.inr ⟨by decide, by decide⟩), by decide, _, _, _, rfl, Int.emod_nonneg _ (by decide), Int.lt_trans (Int.emod_lt_of_pos _ (by decide)) (by decide)⟩
      show ifB (decide (cell < 0)) _ _
      refine ifB_in (fun _ => fin true) fun _ => ?_
      show _ ∧ _
      exact ⟨⟨by decide, by decide, by decide⟩, fin _⟩
    · obtain ⟨v, _, rfl⟩ := List.mem_map.mp hd
      exact ⟨v, rfl⟩
  show ifB (decide (t < ((ns.map PyData.int).length : Int))) _ _
  refine ifB_in (fun z => ?_) fun _ => ?_
  · show oIx (.tuple (ns.map PyData.int)) (.int t) _
    refine at_in h (of_decide_eq_true z) fun d hd => ?_
    obtain ⟨v, _, rfl⟩ := List.mem_map.mp hd
    exact rest v
  · show (_ ∨ _) ∧ _
    exact ⟨Or.inr (Or.inl ⟨by decide, by decide⟩), rest _⟩
end


/-! QAB: rows: their last, trimming, of either side. -/
/-! ### trimming -/
def tr : List Cn → List Cn
  | [] => []
  | x :: xs => match tr xs with
    | [] => if x = 0 then [] else [x]
    | y :: ys => x :: y :: ys
theorem tr_cons (x : Cn) (xs : List Cn) : tr (x :: xs) = if tr xs = [] then (if x = 0 then [] else [x]) else x :: tr xs := by
  show (match tr xs with | [] => if x = 0 then [] else [x] | y :: ys => x :: y :: ys) = _
  cases tr xs with
  | nil => exact (if_pos rfl).symm
  | cons y ys => exact (if_neg (List.cons_ne_nil y ys)).symm
theorem tr_uniq : ∀ (L : List Cn) (m : Nat), m ≤ L.length → (∀ i, m ≤ i → i < L.length → L[i]? = some 0) → (m = 0 ∨ L[m - 1]? ≠ some 0) → L.take m = tr L
  | [], m, _, _, _ => by cases m <;> rfl
  | x :: xs, 0, _, h, _ => by
    have e : tr xs = [] := by
      rw [← tr_uniq xs 0 (Nat.zero_le _) (fun i _ hi => by have := h (i + 1) (Nat.zero_le _) (by simp; omega); simpa using this) (Or.inl rfl)]
      rfl
    have hx : x = 0 := by have := h 0 (Nat.le_refl _) (by simp); simpa using this
    rw [tr_cons, if_pos e, if_pos hx]
    rfl
  | x :: xs, 1, _, h, h2 => by
    have e : tr xs = [] := by
      rw [← tr_uniq xs 0 (Nat.zero_le _) (fun i _ hi => by have := h (i + 1) (by omega) (by simp; omega); simpa using this) (Or.inl rfl)]
      rfl
    have hx : x ≠ 0 := by
      rcases h2 with h2 | h2
      · omega
      · simpa using h2
    rw [tr_cons, if_pos e, if_neg hx]
    rfl
  | x :: xs, m + 2, hl, h, h2 => by
    have e := tr_uniq xs (m + 1) (by simp at hl; omega) (fun i h1 hi => by have := h (i + 1) (by omega) (by simp; omega); simpa using this) (Or.inr (by
      rcases h2 with h2 | h2
      · omega
      · simpa using h2))
    have ne : tr xs ≠ [] := by
      rw [← e]
      have hx : 0 < xs.length := by simp at hl; omega
      cases xs with
      | nil => simp at hx
      | cons y ys => simp
    rw [tr_cons, if_neg ne, ← e]
    rfl
theorem tr_last {L : List Cn} : tr L = [] ∨ ∃ M x, tr L = M ++ [x] ∧ x ≠ 0 := by
  induction L with
  | nil => exact Or.inl rfl
  | cons x xs ih =>
    rw [tr_cons]
    rcases ih with e | ⟨M, y, e, hy⟩
    · rw [if_pos e]
      by_cases h : x = 0
      · exact Or.inl (by rw [if_pos h])
      · exact Or.inr ⟨[], x, by rw [if_neg h] <;> rfl, h⟩
    · rw [if_neg (by rw [e]; simp), e]
      exact Or.inr ⟨x :: M, y, rfl, hy⟩
theorem tr_len (L : List Cn) : (tr L).length ≤ L.length := by
  induction L with
  | nil => exact Nat.le_refl _
  | cons x xs ih =>
    rw [tr_cons]
    by_cases e : tr xs = []
    · rw [if_pos e]
      by_cases h : x = 0
      · rw [if_pos h]; exact Nat.zero_le _
      · rw [if_neg h]; simp
    · rw [if_neg e]; simp; exact ih
theorem tr_mem (L : List Cn) : ∀ z ∈ tr L, z ∈ L := by
  induction L with
  | nil => exact fun z h => h
  | cons x xs ih =>
    intro z hz
    rw [tr_cons] at hz
    by_cases e : tr xs = []
    · rw [if_pos e] at hz
      by_cases h : x = 0
      · rw [if_pos h] at hz; simp at hz
      · rw [if_neg h] at hz; simp at hz; rw [hz]; simp
    · rw [if_neg e] at hz
      rcases List.mem_cons.mp hz with h | h
      · rw [h]; simp
      · exact List.mem_cons_of_mem _ (ih z h)
theorem tr_fix {M : List Cn} {x : Cn} (h : x ≠ 0) : tr (M ++ [x]) = M ++ [x] := by
  rw [← tr_uniq (M ++ [x]) (M ++ [x]).length (Nat.le_refl _) (fun i h1 h2 => by omega) (Or.inr (by simpa using h)), List.take_length]
theorem tr_tr (L : List Cn) : tr (tr L) = tr L := by
  rcases tr_last (L := L) with e | ⟨M, x, e, h⟩
  · rw [e]; rfl
  · rw [e, tr_fix h]
/-! ### readings -/
section
variable {Φ : PyData → Prop} {n m k : Nat} {x y : Cn} {p q : Rat} {A : Addr} {P : Post}
theorem ix_nat {ds : List PyData} {i : Nat} {d : PyData} (h : ds[i]? = some d) (k : Φ d) : oIx (.tuple ds) (.int (i : Int)) Φ := by
  show match atI ds (i : Int) with | some d => Φ d | none => False
  rw [atI_nat h]
  exact k
theorem cut_take (ds : List PyData) (m : Nat) : cutD ds none (some (m : Int)) = ds.take m := by
  unfold cutD
  rw [HT.sIx_none, HT.sIx_nat, List.drop_zero, Nat.sub_zero]
  by_cases h : m ≤ ds.length
  · rw [Nat.min_eq_left h]
  · rw [Nat.min_eq_right (by omega), List.take_length, List.take_of_length_le (by omega)]
theorem rg_succ (lo : Int) (n : Nat) : rgD lo (n + 1) = .int lo :: rgD (lo + 1) n := by
  unfold rgD
  rw [List.range_succ_eq_map, List.map_cons, List.map_map]
  refine congr (congrArg _ (by simp)) ?_
  refine List.map_congr_left fun i _ => ?_
  show PyData.int _ = PyData.int _
  congr 1
  simp only [Function.comp, Nat.succ_eq_add_one]
  omega
theorem eqv_two {a b : Int} : PyData.eqv (.tuple [.int a, .int b]) (.tuple [.int 0, .int 0]) = decide (a = 0 ∧ b = 0) := by
  have h : PyData.eqv (.tuple [.int a, .int b]) (.tuple [.int 0, .int 0]) = (a == 0 && (b == 0 && true)) := rfl
  rw [h]
  by_cases h1 : a = 0 <;> by_cases h2 : b = 0 <;> simp [h1, h2]
theorem tq_two (z : Cn) : PyData.eqv (.tuple [.int (ta z), .int (tb z)]) (.tuple [.int 0, .int 0]) = decide (z = 0) := by
  rw [eqv_two]
  by_cases h : z = 0
  · rw [decide_eq_true h, decide_eq_true (tq_zero.mpr h)]
  · rw [decide_eq_false h, decide_eq_false fun k => h (tq_zero.mp k)]
/-- what the law's trimming keeps, turn by turn -/
def trimBody : WS := (vIfS (vAnd (vTest (vOp oEq (vVar 1) (vOp oSub (vB oLen (vCons (vVar 0) vNil)) (vVar 2)))) (vTest (vOp oEq (vSl (vOp oIx (vVar 0) (vOp oSub (vVar 1) (vC (.int 1)))) (fun _ Θ => Θ none) (vPart (vC (.int 2)))) (vTup (vCons (vC (.int 0)) (vCons (vC (.int 0)) vNil)))))) (vAsg 1 (vOp oSub (vVar 1) (vC (.int 1)))) vNext)
theorem trim_loop {L : List Cn} {a : Sl} (hP : ∀ a, P.N [.d (.list (L.map tq)), .d (.int ((tr L).length : Int)), a] ) : ∀ (k at' many : Nat), at' + k = L.length → many ≤ L.length → (∀ i, many ≤ i → i < L.length → L[i]? = some 0) → (many + at' = L.length ∨ (L.length < many + at' ∧ L[many - 1]? ≠ some 0)) → ∀ a,
    forW (vgN 2) trimBody (rgD (at' : Int) k) [.d (.list (L.map tq)), .d (.int (many : Int)), a] P := by
  intro k
  induction k with
  | zero =>
    intro at' many h1 h2 h3 h4 a
    have e : L.take many = tr L := tr_uniq L many h2 h3 (by
      rcases h4 with h4 | h4
      · exact Or.inl (by omega)
      · exact Or.inr h4.2)
    have e2 : (tr L).length = many := by rw [← e, List.length_take, Nat.min_eq_left h2]
    have := hP a
    rw [e2] at this
    exact this
  | succ k ih =>
    intro at' many h1 h2 h3 h4 a
    rw [rg_succ]
    unfold forW
    have en : ((at' : Int) + 1) = ((at' + 1 : Nat) : Int) := by omega
    have next : ∀ m2 : Nat, m2 ≤ L.length → (∀ i, m2 ≤ i → i < L.length → L[i]? = some 0) → (m2 + (at' + 1) = L.length ∨ (L.length < m2 + (at' + 1) ∧ L[m2 - 1]? ≠ some 0)) → forW (vgN 2) trimBody (rgD ((at' : Int) + 1) k) [.d (.list (L.map tq)), .d (.int (m2 : Int)), .d (.int (at' : Int))] P := by
      intro m2 a1 a2 a3
      rw [en]
      exact ih (at' + 1) m2 (by omega) a1 a2 a3 _
    show ifB (decide ((many : Int) = (((L.map tq).length : Nat) : Int) - (at' : Int))) _ _
    rw [List.length_map]
    rcases h4 with h4 | h4
    · rw [decide_eq_true (by omega)]
      show oIx (.tuple (L.map tq)) (.int ((many : Int) - 1)) _
      have e1 : (many : Int) - 1 = ((many - 1 : Nat) : Int) := by omega
      have hlt : many - 1 < L.length := by omega
      have hg : L[many - 1]? = some L[many - 1] := List.getElem?_eq_getElem hlt
      generalize L[many - 1] = z at hg
      rw [e1]
      refine ix_nat (d := tq z) (by rw [List.getElem?_map, hg]; rfl) ?_
      show _ ∧ _ ∧ _
      refine ⟨rfl, rfl, ?_⟩
      show ifB (PyData.eqv (.tuple [.int (ta z), .int (tb z)]) (.tuple [.int 0, .int 0])) _ _
      rw [tq_two]
      by_cases hz : z = 0
      · rw [decide_eq_true hz]
        show forW _ _ _ [_, .d (.int ((many : Int) - 1)), _] _
        rw [e1]
        refine next (many - 1) (by omega) (fun i a1 a2 => ?_) (Or.inl (by omega))
        by_cases h : i = many - 1
        · rw [h, hg, hz]
        · exact h3 i (by omega) a2
      · rw [decide_eq_false hz]
        exact next many h2 h3 (Or.inr ⟨by omega, by rw [hg]; simpa using hz⟩)
    · rw [decide_eq_false (by omega)]
      exact next many h2 h3 (Or.inr ⟨by omega, h4.2⟩)
theorem take_tr (L : List Cn) : L.take (tr L).length = tr L := by
  induction L with
  | nil => rfl
  | cons x xs ih =>
    rw [tr_cons]
    by_cases e : tr xs = []
    · rw [if_pos e]
      by_cases h : x = 0
      · rw [if_pos h]; rfl
      · rw [if_neg h]; rfl
    · rw [if_neg e]
      show x :: xs.take (tr xs).length = _
      rw [ih]
theorem T_trim0 {L : List Cn} (hl : L.length ≤ 1000) (h : Φ (.list ((tr L).map tq))) : F__law_trim [.list (L.map tq)] Φ := by
  unfold F__law_trim mkF b__law_trim
  refine ⟨rfl, ?_⟩
  show (_ ∧ _) ∧ forW (vgN 2) trimBody (rgD 0 (((L.map tq).length : Int)).toNat) [.d (.list (L.map tq)), .d (.int ((L.map tq).length : Int)), .un] _
  rw [List.length_map, Int.toNat_natCast]
  refine ⟨⟨by omega, by omega⟩, ?_⟩
  refine trim_loop (a := .un) (fun a => ?_) L.length 0 L.length (by omega) (Nat.le_refl _) (fun i h1 h2 => by omega) (Or.inl (by omega)) .un
  show Φ (.list (cutD (L.map tq) none (some ((tr L).length : Int))))
  rw [cut_take, ← List.map_take, take_tr]
  exact h
theorem trimmed_loop {D : PyData} {ds : List PyData} (hD : D = .tuple ds ∨ D = .list ds) {L : List Cn} (hds : ds = L.map nm) (hP : P.N [.d D, .d (.int ((tr L).length : Int))]) : ∀ (m : Nat), m ≤ L.length → (∀ i, m ≤ i → i < L.length → L[i]? = some 0) →
    whW (vAnd (vTest (vOp oGt (vVar 1) (vC (.int 0)))) (vTest (vOp oEq (vOp oIx (vVar 0) (vOp oSub (vVar 1) (vC (.int 1)))) (vC c_NOUGHT)))) (vAug 1 (fun i j => i - j) (vC (.int 1))) (m + 1) [.d D, .d (.int (m : Int))] P := by
  intro m
  induction m with
  | zero =>
    intro h1 h2
    have e : L.take 0 = tr L := tr_uniq L 0 h1 h2 (Or.inl rfl)
    have e2 : (tr L).length = 0 := by rw [← e]; rfl
    rw [e2] at hP
    unfold whW
    exact hP
  | succ m ih =>
    intro h1 h2
    unfold whW
    show ifB (decide (0 < ((m + 1 : Nat) : Int))) _ _
    rw [decide_eq_true (by omega)]
    have e1 : (((m + 1 : Nat) : Int) - 1) = (m : Int) := by omega
    have hg : L[m]? = some L[m] := List.getElem?_eq_getElem (by omega)
    generalize L[m] = z at hg
    have key : oIx D (.int (((m + 1 : Nat) : Int) - 1)) (fun d => oEq d c_NOUGHT fun t => booD t fun k => ifB k (whW (vAnd (vTest (vOp oGt (vVar 1) (vC (.int 0)))) (vTest (vOp oEq (vOp oIx (vVar 0) (vOp oSub (vVar 1) (vC (.int 1)))) (vC c_NOUGHT)))) (vAug 1 (fun i j => i - j) (vC (.int 1))) (m + 1) [.d D, .d (.int (((m + 1 : Nat) : Int) - 1))] P) (P.N [.d D, .d (.int ((m + 1 : Nat) : Int))])) := by
      rw [e1]
      have k0 : oIx (.tuple ds) (.int (m : Int)) (fun d => oEq d c_NOUGHT fun t => booD t fun k => ifB k (whW (vAnd (vTest (vOp oGt (vVar 1) (vC (.int 0)))) (vTest (vOp oEq (vOp oIx (vVar 0) (vOp oSub (vVar 1) (vC (.int 1)))) (vC c_NOUGHT)))) (vAug 1 (fun i j => i - j) (vC (.int 1))) (m + 1) [.d D, .d (.int (m : Int))] P) (P.N [.d D, .d (.int ((m + 1 : Nat) : Int))])) := by
        refine ix_nat (d := nm z) (by rw [hds, List.getElem?_map, hg]; rfl) ?_
        show _ ∧ _ ∧ _
        refine ⟨rfl, rfl, ?_⟩
        show ifB (PyData.eqv (nm z) (nm 0)) _ _
        rw [eqv_nm]
        by_cases hz : z = 0
        · rw [decide_eq_true hz]
          refine ih (by omega) fun i a1 a2 => ?_
          by_cases h : i = m
          · rw [h, hg, hz]
          · exact h2 i (by omega) a2
        · rw [decide_eq_false hz]
          have e : L.take (m + 1) = tr L := tr_uniq L (m + 1) h1 h2 (Or.inr (by show L[m]? ≠ _; rw [hg]; simpa using hz))
          have e2 : (tr L).length = m + 1 := by rw [← e, List.length_take, Nat.min_eq_left h1]
          rw [e2] at hP
          exact hP
      rcases hD with rfl | rfl
      · exact k0
      · exact k0
    exact key
theorem T_trimmedL {L : List Cn} (h : Φ (.tuple ((tr L).map nm))) : F_trimmed [.list (L.map nm)] Φ := by
  unfold F_trimmed mkF b_trimmed
  refine ⟨rfl, ?_⟩
  refine ⟨L.length + 1, ?_⟩
  show whW _ _ _ [.d (.list (L.map nm)), .d (.int ((L.map nm).length : Int))] _
  rw [List.length_map]
  refine trimmed_loop (Or.inr rfl) rfl ?_ L.length (Nat.le_refl _) fun i h1 h2 => by omega
  show Φ (.tuple (cutD (L.map nm) none (some ((tr L).length : Int))))
  rw [cut_take, ← List.map_take, take_tr]
  exact h
end


/-! QAC: small numbers; the laws' rows: drawn, turned, summed, told, valued. -/
/-- what the laws of rows draw -/
structure Sm (z : Cn) : Prop where
  ts : Ts 3 z
  six : tc z ∣ 6
theorem tc_dvd {a b d : Int} (h0 : 0 < d) : tc ⟨qd a d, qd b d⟩ ∣ d := by
  have h := tq_val ⟨qd a d, qd b d⟩
  have hp := tc_pos ⟨qd a d, qd b d⟩
  have e1 := qd_cross (by omega) (by omega) (congrArg Cn.re h)
  have e2 := qd_cross (by omega) (by omega) (congrArg Cn.im h)
  have := dvd_of_cross e1.symm e2.symm (tq_gcd _)
  exact Int.natAbs_dvd_natAbs.mp this
theorem sm_of {a b d : Int} (a0 : -4 ≤ a) (a1 : a ≤ 4) (b0 : -4 ≤ b) (b1 : b ≤ 4) (d0 : 0 < d) (d1 : d ≤ 3) : Sm ⟨qd a d, qd b d⟩ := by
  refine ⟨⟨a, b, d, d0, by unfold Bd; omega, by unfold Bd; omega, by unfold Bd; omega, rfl⟩, ?_⟩
  refine Int.dvd_trans (tc_dvd d0) ?_
  have : d = 1 ∨ d = 2 ∨ d = 3 := by omega
  rcases this with rfl | rfl | rfl <;> decide
theorem sm_zero : Sm 0 := by
  have e : (0 : Cn) = ⟨qd 0 1, qd 0 1⟩ := Cn.ext' (by show ((0 : Nat) : Rat) = qd 0 1; rw [qd_div]; grind) (by show 0 = qd 0 1; rw [qd_div]; grind)
  rw [e]
  exact sm_of (by decide) (by decide) (by decide) (by decide) (by decide) (by decide)
theorem tq_neg (z : Cn) : PyData.tuple [.int (0 - ta z), .int (0 - tb z), .int (tc z)] = tq (0 - z) := by
  rw [tq_of (tc_pos z) (by rw [Int.zero_sub, Int.zero_sub, Int.natAbs_neg, Int.natAbs_neg]; exact tq_gcd z)]
  congr 1
  conv => rhs; rw [tq_val z]
  have h := c_ne (show tc z ≠ 0 by have := tc_pos z; omega)
  refine Cn.ext' ?_ ?_
  · show qd (0 - ta z) (tc z) = ((0 : Nat) : Rat) - qd (ta z) (tc z)
    rw [qd_div, qd_div, Rat.intCast_sub]
    grind
  · show qd (0 - tb z) (tc z) = 0 - qd (tb z) (tc z)
    rw [qd_div, qd_div, Rat.intCast_sub]
    grind
theorem tc_neg (z : Cn) : tc (0 - z) = tc z := by
  have h := tq_neg z
  unfold tq at h
  injection h with h
  injection h with h1 h
  injection h with h2 h
  injection h with h3 h
  injection h3 with h3
  exact h3.symm
theorem Sm.neg {z : Cn} (h : Sm z) : Sm (0 - z) := by
  refine ⟨?_, by rw [tc_neg]; exact h.six⟩
  obtain ⟨a, b, c, h0, ha, hb, hc, e⟩ := h.ts
  refine ⟨-a, -b, c, h0, ha.neg, hb.neg, hc, ?_⟩
  rw [e]
  have h := c_ne (show c ≠ 0 by omega)
  refine Cn.ext' ?_ ?_
  · show ((0 : Nat) : Rat) - qd a c = qd (-a) c
    rw [qd_div, qd_div, Rat.intCast_neg]
    grind
  · show 0 - qd b c = qd (-b) c
    rw [qd_div, qd_div, Rat.intCast_neg]
    grind
section
variable {Φ : PyData → Prop} {n m k : Nat} {x y : Cn} {p q : Rat} {A : Addr} {P : Post} {Ψ : List PyData → Prop} {α : Type}
/-! ### comprehensions -/
theorem lc_map {turn : PyData → (Option PyData → Prop) → Prop} {f g : α → PyData} : ∀ (L : List α) (acc : List PyData), (∀ x ∈ L, ∀ K : Option PyData → Prop, K (some (f x)) → turn (g x) K) → Ψ (acc ++ L.map f) → lcW turn (L.map g) acc Ψ
  | [], acc, _, h => by rw [List.map_nil, List.append_nil] at h; exact h
  | x :: L, acc, ht, h => ht x (List.mem_cons_self ..) _ (lc_map L (acc ++ [f x]) (fun y hy => ht y (List.mem_cons_of_mem _ hy)) (by rw [List.append_assoc]; exact h))
theorem lc_gen {turn : PyData → (Option PyData → Prop) → Prop} {R : Cn → Prop} : ∀ (xs : List PyData) (N : List Cn), (∀ z ∈ N, R z) → (∀ x ∈ xs, ∀ K : Option PyData → Prop, (∀ z, R z → K (some (tq z))) → turn x K) → (∀ M : List Cn, M.length = N.length + xs.length → (∀ z ∈ M, R z) → Ψ (M.map tq)) → lcW turn xs (N.map tq) Ψ
  | [], N, hN, _, h => h N (by simp) hN
  | x :: xs, N, hN, ht, h => by
    refine ht x (List.mem_cons_self ..) _ fun z hz => ?_
    show lcW turn xs (N.map tq ++ [tq z]) Ψ
    have e : N.map tq ++ [tq z] = (N ++ [z]).map tq := by simp
    rw [e]
    refine lc_gen xs (N ++ [z]) (fun w hw => ?_) (fun y hy => ht y (List.mem_cons_of_mem _ hy)) fun M hM h2 => h M (by rw [hM]; simp; omega) h2
    rcases List.mem_append.mp hw with hw | hw
    · exact hN w hw
    · rw [List.mem_singleton.mp hw]; exact hz
theorem T_drawn0 (h : ∀ z, Sm z → Φ (tq z)) : F__law_drawn A [.int 4, .int 3] Φ := by
  unfold F__law_drawn mkQ b__law_drawn
  refine ⟨rfl, ?_⟩
  walk_at "xp"
  refine ⟨Or.inr (Or.inl ⟨by decide, by decide⟩), T_dip (by decide) (by decide) fun a a0 a1 => ?_⟩
  refine ⟨Or.inr (Or.inl ⟨by decide, by decide⟩), T_dip (by decide) (by decide) fun b b0 b1 => ?_⟩
  refine T_dip (by decide) (by decide) fun c _ _ => ?_
  have fin : ∀ b' : Int, -4 ≤ b' → b' ≤ 4 → F__law_dip A [.int 3] fun d => oAdd (.int 1) d fun d => F__law_cut [.int (a - 4), .int b', d] Φ := by
    intro b' h0 h1
    refine T_dip (by decide) (by decide) fun d d0 d1 => ?_
    show F__law_cut [_, _, .int (1 + d)] Φ
    refine T_cut0 (n := 3) (by omega) (by unfold Bd; omega) (by decide) (h _ (sm_of (by omega) (by omega) h0 h1 (by omega) (by omega)))
  refine ifB_in (fun _ => ?_) fun _ => ?_
  · exact fin 0 (by decide) (by decide)
  · exact fin (b - 4) (by omega) (by omega)
theorem tq_zero3 : PyData.tuple [.int 0, .int 0, .int 1] = tq 0 := by
  rw [tq_lit1]
  congr 1
theorem T_told_row {L : List Cn} (hl : L.length ≤ 1000) (hs : ∀ z ∈ L, Ts n z) (hn : n ≤ 9000) (h : Φ (.tuple ((tr L).map nm))) : F__law_told_row [.list (L.map tq)] Φ := by
  unfold F__law_told_row mkF b__law_told_row
  refine ⟨rfl, ?_⟩
  show F__law_trim [.list (L.map tq)] _
  refine T_trim0 hl ?_
  show _ ∧ lcW _ ((tr L).map tq) [] _
  have := tr_len L
  refine ⟨by rw [List.length_map, sizeLine_eq]; omega, ?_⟩
  refine lc_map (f := nm) (g := tq) _ [] (fun z hz K hK => ?_) ?_
  · show F__law_told [tq z] _
    exact T_told0 (hs z (tr_mem _ z hz)) hn hK
  · exact h
/-! ### sums -/
def cf (L : List Cn) (k : Nat) : Cn := (L[k]?).getD 0
theorem pad_at (L : List Cn) (m k : Nat) (h : k < m) : (L ++ List.replicate (m - L.length) 0)[k]? = some (cf L k) := by
  unfold cf
  by_cases h1 : k < L.length
  · rw [List.getElem?_append_left h1, List.getElem?_eq_getElem h1]
    rfl
  · have h2 : L[k]? = none := List.getElem?_eq_none (by omega)
    rw [List.getElem?_append_right (by omega), h2, List.getElem?_replicate, if_pos (by omega)]
    rfl
theorem cf_ts {L : List Cn} (h : ∀ z ∈ L, Ts n z) (hn : 1 ≤ n) (k : Nat) : Ts n (cf L k) := by
  unfold cf
  cases e : L[k]? with
  | none => exact ts_zero.mono hn
  | some z => exact h z (List.mem_of_getElem? e)
def sum2 (L M : List Cn) : List Cn := (List.range (max L.length M.length)).map fun k => cf L k + cf M k
theorem flat_rep (d : PyData) : ∀ k : Nat, (List.replicate k [d]).flatten = List.replicate k d
  | 0 => rfl
  | k + 1 => by rw [List.replicate_succ, List.flatten_cons, flat_rep d k]; rfl
theorem T_row_sum0 {L M : List Cn} (hL : ∀ z ∈ L, Ts n z) (hM : ∀ z ∈ M, Ts n z) (hn : 1 ≤ n) (h9 : n + n ≤ 9000) (l1 : L.length ≤ 1000) (l2 : M.length ≤ 1000) (h : Φ (.list ((tr (sum2 L M)).map tq))) : F__law_row_sum [.list (L.map tq), .list (M.map tq)] Φ := by
  unfold F__law_row_sum mkF b__law_row_sum
  refine ⟨rfl, ?_⟩
  obtain ⟨mx, hmx⟩ : ∃ mx, mx = max L.length M.length := ⟨_, rfl⟩
  have e1 : (if (((M.map tq).length : Nat) : Int) > (((L.map tq).length : Nat) : Int) then (((M.map tq).length : Nat) : Int) else (((L.map tq).length : Nat) : Int)) = (mx : Int) := by
    rw [List.length_map, List.length_map]
    split <;> omega
  have pad : ∀ (N : List Cn), N.length ≤ mx → ∀ K : PyData → Prop, K (.list ((N ++ List.replicate (mx - N.length) 0).map tq)) →
      ((-(2 ^ 63) ≤ (mx : Int) - (((N.map tq).length : Nat) : Int) ∧ (mx : Int) - (((N.map tq).length : Nat) : Int) < 2 ^ 63 ∧ 1 * ((mx : Int) - (((N.map tq).length : Nat) : Int)).toNat ≤ sizeLine) ∧ oAdd (.list (N.map tq)) (.list (List.replicate ((mx : Int) - (((N.map tq).length : Nat) : Int)).toNat [PyData.tuple [.int 0, .int 0, .int 1]]).flatten) K) := by
    intro N hN K hK
    have hm : mx ≤ 1000 := by omega
    rw [List.length_map]
    have e : ((mx : Int) - (N.length : Int)).toNat = mx - N.length := by omega
    rw [e, flat_rep, tq_zero3]
    refine ⟨⟨by omega, by omega, by rw [sizeLine_eq]; omega⟩, ?_⟩
    show _ ∧ _
    refine ⟨by rw [List.length_map, List.length_replicate, sizeLine_eq]; omega, ?_⟩
    rw [List.map_append, List.map_replicate] at hK
    exact hK
  have key : ∀ K : List PyData → Prop, K ([.list ((L ++ List.replicate (mx - L.length) 0).map tq), .list ((M ++ List.replicate (mx - M.length) 0).map tq)]) →
      lcW (vTurn [4] (vgN 4) vYes (vOp oAdd (vOf (vLst (vVar 4))) (vOf (vRep (vCons (vTup (vCons (vC (.int 0)) (vCons (vC (.int 0)) (vCons (vC (.int 1)) vNil)))) vNil) (vOp oSub (vVar 2) (vB oLen (vCons (vVar 4) vNil)))))) [.d (.list (L.map tq)), .d (.list (M.map tq)), .d (.int (mx : Int)), .un, .un, .un]) [.list (L.map tq), .list (M.map tq)] [] K := by
    intro K hK
    refine pad L (by omega) _ ?_
    exact pad M (by omega) _ hK
  suffices go : ∀ v : Int, v = (mx : Int) → (vSeqS (vAsg 3 (vOf (vLc [4] (vSeq (vOf (vCons (vVar 0) (vCons (vVar 1) vNil)))) (vgN 4) vYes (vOp oAdd (vOf (vLst (vVar 4))) (vOf (vRep (vCons (vTup (vCons (vC (.int 0)) (vCons (vC (.int 0)) (vCons (vC (.int 1)) vNil)))) vNil) (vOp oSub (vVar 2) (vB oLen (vCons (vVar 4) vNil))))))))) (vRet (vCall F__law_trim (vCons (vOf (vLc [5] (vR1 (vCons (vVar 2) vNil)) (vgN 5) vYes (vCall F__law_add (vCons (vOp oIx (vOp oIx (vVar 3) (vC (.int 0))) (vVar 5)) (vCons (vOp oIx (vOp oIx (vVar 3) (vC (.int 1))) (vVar 5)) vNil))))) vNil)))) [.d (.list (L.map tq)), .d (.list (M.map tq)), .d (.int v), .un, .un, .un] ⟨fun _ => Φ .none, Φ, Nev, Nev⟩ from go _ e1
  rintro v rfl
  show _ ∧ _
  refine ⟨by rw [sizeLine_eq]; show 2 ≤ 16777216; decide, ?_⟩
  refine key _ ?_
  show (_ ∧ _) ∧ _ ∧ lcW _ (rgD 0 ((mx : Int)).toNat) [] _
  rw [Int.toNat_natCast]
  have hm : mx ≤ 1000 := by omega
  refine ⟨⟨by omega, by omega⟩, by rw [show (rgD 0 mx).length = mx by simp [rgD], sizeLine_eq]; omega, ?_⟩
  unfold rgD
  refine lc_map (f := fun k => tq (cf L k + cf M k)) (g := fun k : Nat => PyData.int (0 + (k : Int))) _ [] (fun k hk K hK => ?_) ?_
  · have hk2 : k < mx := by simpa using hk
    rw [Int.zero_add]
    show oIx (.tuple ((L ++ List.replicate (mx - L.length) 0).map tq)) (.int (k : Int)) _
    refine ix_nat (d := tq (cf L k)) (by rw [List.getElem?_map, pad_at L mx k hk2]; rfl) ?_
    show oIx (.tuple ((M ++ List.replicate (mx - M.length) 0).map tq)) (.int (k : Int)) _
    refine ix_nat (d := tq (cf M k)) (by rw [List.getElem?_map, pad_at M mx k hk2]; rfl) ?_
    exact T_add0 (cf_ts hL hn k) (cf_ts hM hn k) h9 hK
  · rw [List.nil_append]
    have e : (List.range mx).map (fun k => tq (cf L k + cf M k)) = (sum2 L M).map tq := by
      unfold sum2
      rw [List.map_map, hmx]
      rfl
    rw [e]
    refine T_trim0 ?_ h
    unfold sum2
    rw [List.length_map, List.length_range]
    omega
/-! ### values -/
def hn (L : List Cn) (x : Cn) : Cn := L.reverse.foldl (fun a z => a * x + z) 0
end


/-! QAD: the package's rows: sums, negatives, differences; what is a row. -/
section
variable {Φ : PyData → Prop} {n m k : Nat} {x y : Cn} {p q : Rat} {A : Addr} {P : Post} {Ψ : List PyData → Prop}
theorem cf_lt {L : List Cn} {k : Nat} (h : k < L.length) : L[k]? = some (cf L k) := by
  unfold cf
  rw [List.getElem?_eq_getElem h]
  rfl
theorem cf_ge {L : List Cn} {k : Nat} (h : L.length ≤ k) : cf L k = 0 := by
  unfold cf
  rw [List.getElem?_eq_none h]
  rfl
theorem add_zero' (x : Cn) : x + 0 = x := by grind
theorem zero_add' (x : Cn) : 0 + x = x := by grind
/-! ### what is a row -/
theorem all_nm : ∀ (L : List Cn) {E : Ev} {vs : List Nat} (_ : ∀ z ∈ L, ∀ K : Option PyData → Prop, K (some (.bool true)) → vTurn vs (vgN 1) vYes (vCall F_is_number (vCons (vVar 1) vNil)) E (nm z) K), Φ (.bool true) → allW (vTurn vs (vgN 1) vYes (vCall F_is_number (vCons (vVar 1) vNil)) E) (L.map nm) Φ
  | [], _, _, _, h => h
  | z :: L, _, _, ht, h => ht z (List.mem_cons_self ..) _ (all_nm L (fun y hy => ht y (List.mem_cons_of_mem _ hy)) h)
theorem T_is_row_yes {L : List Cn} (h : Φ (.bool (decide (tr L = L)))) : F_is_row [.tuple (L.map nm)] Φ := by
  unfold F_is_row mkF b_is_row
  refine ⟨rfl, ?_⟩
  show allW _ (L.map nm) _
  refine all_nm L (fun z _ K hK => ?_) ?_
  · show F_is_number [nm z] _
    exact T_is_number hK
  · rcases List.eq_nil_or_concat L with rfl | ⟨M, x, rfl⟩
    · exact h
    · rw [List.concat_eq_append] at h ⊢
      show ifB (!(!((M ++ [x]).map nm).isEmpty)) (Φ (.bool true)) (oIx (.tuple ((M ++ [x]).map nm)) (.int (-1)) fun d => oNe d c_NOUGHT Φ)
      have ne : ((M ++ [x]).map nm).isEmpty = false := by simp
      rw [ne]
      show match atI ((M ++ [x]).map nm) (-1) with | some d => oNe d c_NOUGHT Φ | none => False
      have e : (M ++ [x]).map nm = M.map nm ++ [nm x] := by simp
      rw [e, atI_last]
      refine ⟨rfl, rfl, ?_⟩
      show Φ (.bool (!PyData.eqv (nm x) (nm 0)))
      rw [eqv_nm]
      by_cases hx : x = 0
      · have hne : ¬ tr (M ++ [x]) = M ++ [x] := by
          intro k
          rcases tr_last (L := M ++ [x]) with e1 | ⟨M2, y, e1, hy⟩
          · rw [e1] at k
            exact absurd k (by simp)
          · rw [k] at e1
            have := List.append_inj_right' e1 rfl
            simp at this
            exact hy (this ▸ hx)
        rw [decide_eq_false hne] at h
        rw [decide_eq_true hx]
        exact h
      · rw [decide_eq_true (tr_fix hx)] at h
        rw [decide_eq_false hx]
        exact h
theorem T_need_row {L : List Cn} (hL : tr L = L) (h : Φ .none) : F_need_row [.tuple (L.map nm)] Φ := by
  unfold F_need_row mkF b_need_row
  refine ⟨rfl, ?_⟩
  show F_is_row [.tuple (L.map nm)] _
  refine T_is_row_yes ?_
  rw [decide_eq_true hL]
  exact h
end


/-! QAE: products of rows: whole numbers under one denominator, their products, term by term. -/
/-! ### sums of products, entry by entry -/
section
variable {α β γ δ : Type}
def innG (f : β → Int) : List β → Nat → Nat → Int
  | [], _, _ => 0
  | y :: ys, s, k => (if s = k then f y else 0) + innG f ys (s + 1) k
def outG (f : α → β → Int) : List α → List β → Nat → Nat → Int
  | [], _, _, _ => 0
  | x :: xs, ys, s, k => innG (f x) ys s k + outG f xs ys (s + 1) k
def innC (f : β → Cn) : List β → Nat → Nat → Cn
  | [], _, _ => 0
  | y :: ys, s, k => (if s = k then f y else 0) + innC f ys (s + 1) k
def outC (f : α → β → Cn) : List α → List β → Nat → Nat → Cn
  | [], _, _, _ => 0
  | x :: xs, ys, s, k => innC (f x) ys s k + outC f xs ys (s + 1) k
/-- over one denominator -/
theorem qd_zero (c : Int) : qd 0 c = 0 := by
  rw [qd_div]
  grind
theorem qd_add (a b c : Int) : qd (a + b) c = qd a c + qd b c := by
  rw [qd_div, qd_div, qd_div, Rat.intCast_add]
  grind
theorem cn_add_qd (a b a' b' c : Int) : (⟨qd (a + a') c, qd (b + b') c⟩ : Cn) = ⟨qd a c, qd b c⟩ + ⟨qd a' c, qd b' c⟩ := Cn.ext' (qd_add a a' c) (qd_add b b' c)
theorem cn_zero_qd (c : Int) : (⟨qd 0 c, qd 0 c⟩ : Cn) = 0 := by
  rw [qd_zero]
  rfl
theorem innC_of (c : Int) (f g : β → Int) (h : β → Cn) : ∀ (ys : List β) (_ : ∀ y ∈ ys, h y = ⟨qd (f y) c, qd (g y) c⟩) (s k : Nat), (⟨qd (innG f ys s k) c, qd (innG g ys s k) c⟩ : Cn) = innC h ys s k
  | [], _, _, _ => cn_zero_qd c
  | y :: ys, hh, s, k => by
    show (⟨qd ((if s = k then f y else 0) + innG f ys (s + 1) k) c, qd ((if s = k then g y else 0) + innG g ys (s + 1) k) c⟩ : Cn) = (if s = k then h y else 0) + innC h ys (s + 1) k
    rw [cn_add_qd, innC_of c f g h ys (fun z hz => hh z (List.mem_cons_of_mem _ hz)), hh y (List.mem_cons_self ..)]
    split
    · rfl
    · rw [cn_zero_qd]
theorem outC_of (c : Int) (f g : α → β → Int) (h : α → β → Cn) : ∀ (xs : List α) (ys : List β) (_ : ∀ x ∈ xs, ∀ y ∈ ys, h x y = ⟨qd (f x y) c, qd (g x y) c⟩) (s k : Nat), (⟨qd (outG f xs ys s k) c, qd (outG g xs ys s k) c⟩ : Cn) = outC h xs ys s k
  | [], _, _, _, _ => cn_zero_qd c
  | x :: xs, ys, hh, s, k => by
    show (⟨qd (innG (f x) ys s k + outG f xs ys (s + 1) k) c, qd (innG (g x) ys s k + outG g xs ys (s + 1) k) c⟩ : Cn) = innC (h x) ys s k + outC h xs ys (s + 1) k
    rw [cn_add_qd, innC_of c (f x) (g x) (h x) ys (hh x (List.mem_cons_self ..)), outC_of c f g h xs ys (fun z hz => hh z (List.mem_cons_of_mem _ hz))]
end
/-! ### denominators -/
theorem den_dvd (a c : Int) (h : c ≠ 0) : ((qd a c).den : Int) ∣ c := by
  have e : qd a c = qd (qd a c).num (qd a c).den := (q_self _).symm
  have h1 := qd_cross h (den_ne (qd a c)) e
  have h2 : (qd a c).den ∣ (qd a c).num.natAbs * c.natAbs := ⟨a.natAbs, by
    have := congrArg Int.natAbs h1
    rw [Int.natAbs_mul, Int.natAbs_mul, Int.natAbs_natCast] at this
    rw [← this, Nat.mul_comm]⟩
  have h3 : Nat.Coprime (qd a c).den (qd a c).num.natAbs := Nat.Coprime.symm (qd a c).reduced
  have h4 := h3.dvd_of_dvd_mul_left h2
  exact Int.natAbs_dvd_natAbs.mp (by rw [Int.natAbs_natCast]; exact h4)
theorem Sm.re6 {z : Cn} (h : Sm z) : (z.re.den : Int) ∣ 6 := by
  have e : z.re = qd (ta z) (tc z) := congrArg Cn.re (tq_val z)
  rw [e]
  exact Int.dvd_trans (den_dvd _ _ (by have := tc_pos z; omega)) h.six
theorem Sm.im6 {z : Cn} (h : Sm z) : (z.im.den : Int) ∣ 6 := by
  have e : z.im = qd (tb z) (tc z) := congrArg Cn.im (tq_val z)
  rw [e]
  exact Int.dvd_trans (den_dvd _ _ (by have := tc_pos z; omega)) h.six
/-- the whole number over b -/
def ov (b : Int) (q : Rat) : Int := q.num * b.fdiv q.den
theorem ov_qd {b : Int} {q : Rat} (h0 : b ≠ 0) (h : (q.den : Int) ∣ b) : q = qd (ov b q) b := by
  obtain ⟨t, rfl⟩ := h
  have hd := den_ne q
  unfold ov
  rw [Int.mul_fdiv_cancel_left _ hd, qd_cancel _ _ _ h0]
  exact (q_self q).symm
theorem lcm_pos {a b : Int} (ha : 0 < a) (hb : 0 < b) : 0 < ((a.natAbs.lcm b.natAbs : Nat) : Int) := by
  have := Nat.lcm_pos (show 0 < a.natAbs by omega) (show 0 < b.natAbs by omega)
  omega
theorem dvd_lcm1 (a b : Int) : a ∣ ((a.natAbs.lcm b.natAbs : Nat) : Int) := Int.natAbs_dvd_natAbs.mp (by rw [Int.natAbs_natCast]; exact Nat.dvd_lcm_left _ _)
theorem dvd_lcm2 (a b : Int) : b ∣ ((a.natAbs.lcm b.natAbs : Nat) : Int) := Int.natAbs_dvd_natAbs.mp (by rw [Int.natAbs_natCast]; exact Nat.dvd_lcm_right _ _)
section
variable {Φ : PyData → Prop} {n m k : Nat} {x y : Cn} {A : Addr} {P : Post} {Ψ : List PyData → Prop}
end


/-! QAF: whole_product, product_of. -/
section
variable {Φ : PyData → Prop} {n m k : Nat} {A : Addr} {P : Post} {Ψ : List PyData → Prop}
def mk (N : Nat) (T : Nat → Int) : List PyData := (List.range N).map fun k => .int (T k)
theorem mk_len (N : Nat) (T : Nat → Int) : (mk N T).length = N := by unfold mk; rw [List.length_map, List.length_range]
theorem mk_at {N k : Nat} (T : Nat → Int) (h : k < N) : (mk N T)[k]? = some (.int (T k)) := by
  unfold mk
  rw [List.getElem?_map, List.getElem?_range h]
  rfl
theorem mk_set {N n : Nat} (T : Nat → Int) (v : Int) (h : n < N) : (mk N T).set n (.int (T n + v)) = mk N fun k => T k + if n = k then v else 0 := by
  refine List.ext_getElem? fun k => ?_
  rw [List.getElem?_set]
  by_cases h1 : k < N
  · rw [mk_at _ h1, mk_len]
    by_cases h2 : n = k
    · subst h2
      rw [if_pos rfl, if_pos h1, mk_at _ h1, if_pos rfl]
    · rw [if_neg h2, mk_at _ h1, if_neg h2, Int.add_zero]
  · have e1 : (mk N fun k => T k + if n = k then v else 0)[k]? = none := List.getElem?_eq_none (by rw [mk_len]; omega)
    have e2 : (mk N T)[k]? = none := List.getElem?_eq_none (by rw [mk_len]; omega)
    rw [if_neg (by omega), e1, e2]
theorem mk_congr {N : Nat} {T T' : Nat → Int} (h : ∀ k, T k = T' k) : mk N T = mk N T' := by
  unfold mk
  exact List.map_congr_left fun k _ => by rw [h k]
theorem ixN_nat {n k : Nat} (h : k < n) : ixN n (k : Int) = some k := by
  unfold ixN
  rw [if_pos (by omega), if_pos (by omega), Int.toNat_natCast]
theorem flat_mk (d : PyData) (k : Nat) : (List.replicate k [PyData.int 0]).flatten = mk k fun _ => 0 := by
  rw [flat_rep]
  unfold mk
  refine List.ext_getElem? fun i => ?_
  rw [List.getElem?_replicate, List.getElem?_map]
  by_cases h : i < k
  · rw [if_pos h, List.getElem?_range h]
    rfl
  · rw [if_neg h, List.getElem?_eq_none (by simp; omega)]
    rfl
end


/-! QAG: the package's product of rows. -/
def cv (L M : List Cn) (k : Nat) : Cn := outC (fun z w => z * w) L M 0 k
def pmul (L M : List Cn) : List Cn := if L = [] ∨ M = [] then [] else (List.range (L.length + M.length - 1)).map (cv L M)
section
variable {Φ : PyData → Prop} {n m k : Nat} {A : Addr} {P : Post} {Ψ : List PyData → Prop}
theorem zi_mk (N : Nat) (S T : Nat → Int) : ziD (mk N S) (mk N T) = (List.range N).map fun k => .tuple [.int (S k), .int (T k)] := by
  unfold ziD mk
  refine List.ext_getElem? fun k => ?_
  by_cases h : k < N
  · rw [List.getElem?_map, List.zip, List.getElem?_zipWith, List.getElem?_map, List.getElem?_map, List.getElem?_map, List.getElem?_range h]
    rfl
  · rw [List.getElem?_eq_none (by simp; omega), List.getElem?_eq_none (by simp; omega)]
end


/-! QAH: the laws' own product of rows. -/
section
variable {Φ : PyData → Prop} {n m k : Nat} {A : Addr} {P : Post} {Ψ : List PyData → Prop}
theorem low_lcm {a b : Int} (ha : 0 < a) (hb : 0 < b) : a.fdiv ((Nat.gcd a.natAbs b.natAbs : Nat) : Int) * b = ((a.natAbs.lcm b.natAbs : Nat) : Int) := by
  obtain ⟨u, rfl⟩ : ∃ u : Nat, a = (u : Int) := ⟨a.toNat, by omega⟩
  obtain ⟨v, rfl⟩ : ∃ v : Nat, b = (v : Int) := ⟨b.toNat, by omega⟩
  rw [Int.natAbs_natCast, Int.natAbs_natCast]
  have hg : 0 < Nat.gcd u v := Nat.gcd_pos_of_pos_left _ (by omega)
  have hl := Nat.gcd_mul_lcm u v
  obtain ⟨t, ht⟩ := Nat.gcd_dvd_left u v
  generalize Nat.gcd u v = g at hg hl ht
  subst ht
  rw [Int.natCast_mul, Int.mul_fdiv_cancel_left _ (by omega)]
  have h1 : Nat.lcm (g * t) v = t * v := Nat.eq_of_mul_eq_mul_left hg (by rw [hl, Nat.mul_assoc])
  rw [h1, Int.natCast_mul]
noncomputable def wa (b : Int) (z : Cn) : Int := ta z * b.fdiv (tc z)
noncomputable def wb (b : Int) (z : Cn) : Int := tb z * b.fdiv (tc z)
theorem w_qd {b : Int} {z : Cn} (h0 : b ≠ 0) (h : tc z ∣ b) : z = ⟨qd (wa b z) b, qd (wb b z) b⟩ := by
  obtain ⟨t, rfl⟩ := h
  have hd : tc z ≠ 0 := by have := tc_pos z; omega
  unfold wa wb
  rw [Int.mul_fdiv_cancel_left _ hd, qd_cancel _ _ _ h0, qd_cancel _ _ _ h0]
  exact tq_val z
noncomputable def pr (b : Int) (z : Cn) : PyData := .tuple [.int (wa b z), .int (wb b z)]
def rowBody : WS := (vSeqS (vAsg 5 (vC (.int 1))) (vSeqS (vFor (vSeq (vVar 4)) (vgN 6) (vAsg 5 (vOp oMul (vOp oDiv (vVar 5) (vCall F__law_gcd (vCons (vVar 5) (vCons (vOp oIx (vVar 6) (vC (.int 2))) vNil)))) (vOp oIx (vVar 6) (vC (.int 2)))))) (vSeqS (vApp 2 (vOf (vLc [6] (vSeq (vVar 4)) (vgN 6) vYes (vTup (vCons (vOp oMul (vOp oIx (vVar 6) (vC (.int 0))) (vOp oDiv (vVar 5) (vOp oIx (vVar 6) (vC (.int 2))))) (vCons (vOp oMul (vOp oIx (vVar 6) (vC (.int 1))) (vOp oDiv (vVar 5) (vOp oIx (vVar 6) (vC (.int 2))))) vNil)))))) (vAsg 3 (vOp oMul (vVar 3) (vVar 5))))))
/-! the double loop -/
def dblBody : WS := (vSeqS (vAsgG (vOp oIx (vIxV 2 (vC (.int 0))) (vVar 10)) (vgT 2 (vgCons (vgN 12) (vgCons (vgN 13) vgNil)))) (vSeqS (vAsgG (vOp oIx (vIxV 2 (vC (.int 1))) (vVar 11)) (vgT 2 (vgCons (vgN 14) (vgCons (vgN 15) vgNil)))) (vSeqS (vSetI 8 (vOp oSub (vOp oAdd (vIxV 8 (vOp oAdd (vVar 10) (vVar 11))) (vOp oMul (vVar 12) (vVar 14))) (vOp oMul (vVar 13) (vVar 15))) (vOp oAdd (vVar 10) (vVar 11))) (vSetI 9 (vOp oAdd (vOp oAdd (vIxV 9 (vOp oAdd (vVar 10) (vVar 11))) (vOp oMul (vVar 12) (vVar 15))) (vOp oMul (vVar 13) (vVar 14))) (vOp oAdd (vVar 10) (vVar 11))))))
noncomputable def tA (b c : Int) (z w : Cn) : Int := wa b z * wa c w - wb b z * wb c w
noncomputable def tB (b c : Int) (z w : Cn) : Int := wa b z * wb c w + wb b z * wa c w
theorem cv_two {L M : List Cn} {b c : Int} (b0 : 0 < b) (c0 : 0 < c) (hb : ∀ z ∈ L, tc z ∣ b) (hc : ∀ z ∈ M, tc z ∣ c) (k : Nat) : (⟨qd (outG (tA b c) L M 0 k) (b * c), qd (outG (tB b c) L M 0 k) (b * c)⟩ : Cn) = cv L M k := by
  refine outC_of (b * c) _ _ (fun z w => z * w) L M (fun z hz w hw => ?_) 0 k
  show z * w = ⟨qd (wa b z * wa c w - wb b z * wb c w) (b * c), qd (wa b z * wb c w + wb b z * wa c w) (b * c)⟩
  rw [tr_mul _ _ _ _ _ _ (by omega) (by omega), ← w_qd (by omega) (hb z hz), ← w_qd (by omega) (hc w hw)]
  rfl
end


/-! QAI: the product of rows: its last entry, its value, its size. -/
section
variable {β : Type}
theorem innC_far (f : β → Cn) : ∀ (ys : List β) (s k : Nat), s + ys.length ≤ k → innC f ys s k = 0
  | [], _, _, _ => rfl
  | y :: ys, s, k, h => by
    rw [List.length_cons] at h
    show (if s = k then f y else 0) + innC f ys (s + 1) k = 0
    rw [if_neg (by omega), innC_far f ys (s + 1) k (by omega)]
    exact add_zero' 0
theorem innC_last (f : β → Cn) (y : β) : ∀ (ys : List β) (s : Nat), innC f (ys ++ [y]) s (s + ys.length) = f y
  | [], s => by
    show (if s = s + 0 then f y else 0) + 0 = f y
    rw [if_pos (Nat.add_zero s).symm, add_zero']
  | z :: ys, s => by
    show (if s = s + (ys.length + 1) then f z else 0) + innC f (ys ++ [y]) (s + 1) (s + (ys.length + 1)) = f y
    rw [if_neg (by omega), show s + (ys.length + 1) = s + 1 + ys.length by omega, innC_last f y ys (s + 1), zero_add']
end
theorem outC_nil (f : Cn → Cn → Cn) : ∀ (xs : List Cn) (s k : Nat), outC f xs [] s k = 0
  | [], _, _ => rfl
  | x :: xs, s, k => by
    show 0 + outC f xs [] (s + 1) k = 0
    rw [outC_nil f xs, zero_add']
theorem outC_last (f : Cn → Cn → Cn) (x y : Cn) (M : List Cn) : ∀ (L : List Cn) (s : Nat), outC f (L ++ [x]) (M ++ [y]) s (s + L.length + M.length) = f x y
  | [], s => by
    show innC (f x) (M ++ [y]) s (s + M.length) + 0 = f x y
    rw [innC_last, add_zero']
  | z :: L, s => by
    show innC (f z) (M ++ [y]) s (s + (L.length + 1) + M.length) + outC f (L ++ [x]) (M ++ [y]) (s + 1) (s + (L.length + 1) + M.length) = f x y
    rw [innC_far _ _ _ _ (by rw [List.length_append, List.length_singleton]; omega), show s + (L.length + 1) + M.length = s + 1 + L.length + M.length by omega, outC_last f x y M L (s + 1), zero_add']
theorem tr_zeros {L : List Cn} (h : ∀ z ∈ L, z = 0) : tr L = [] := by
  rw [← tr_uniq L 0 (Nat.zero_le _) (fun i _ hi => by rw [List.getElem?_eq_getElem hi, h _ (List.getElem_mem hi)]) (Or.inl rfl)]
  rfl
theorem tr_shape {L : List Cn} (h : tr L = L) : L = [] ∨ ∃ M x, L = M ++ [x] ∧ x ≠ 0 := by
  rcases tr_last (L := L) with e | ⟨M, x, e, hx⟩
  · exact Or.inl (h.symm.trans e)
  · exact Or.inr ⟨M, x, h.symm.trans e, hx⟩
theorem tr_cv {L M : List Cn} (hL : tr L = L) (hM : tr M = M) : tr ((List.range (L.length + M.length - 1)).map (cv L M)) = pmul L M := by
  unfold pmul
  rcases tr_shape hL with rfl | ⟨L', x, rfl, hx⟩
  · rw [if_pos (Or.inl rfl)]
    refine tr_zeros fun z hz => ?_
    obtain ⟨k, _, rfl⟩ := List.mem_map.mp hz
    rfl
  rcases tr_shape hM with rfl | ⟨M', y, rfl, hy⟩
  · rw [if_pos (Or.inr rfl)]
    refine tr_zeros fun z hz => ?_
    obtain ⟨k, _, rfl⟩ := List.mem_map.mp hz
    exact outC_nil _ _ _ _
  · rw [if_neg (by simp)]
    have e : (L' ++ [x]).length + (M' ++ [y]).length - 1 = (L'.length + M'.length) + 1 := by simp; omega
    rw [e, List.range_succ, List.map_append, List.map_singleton]
    refine tr_fix ?_
    have e2 := outC_last (fun z w => z * w) x y M' L' 0
    rw [Nat.zero_add] at e2
    show outC (fun z w => z * w) (L' ++ [x]) (M' ++ [y]) 0 (L'.length + M'.length) ≠ 0
    rw [e2]
    exact mul_ne' hx hy
theorem tr_pmul {L M : List Cn} (hL : tr L = L) (hM : tr M = M) : tr (pmul L M) = pmul L M := by
  rw [← tr_cv hL hM, tr_tr]
/-! ### values -/
theorem hn_cons (z : Cn) (L : List Cn) (x : Cn) : hn (z :: L) x = hn L x * x + z := by
  unfold hn
  rw [List.reverse_cons, List.foldl_append]
  rfl
def pw (x : Cn) : Nat → Cn
  | 0 => 1
  | n + 1 => pw x n * x
theorem hn_snoc (z : Cn) (x : Cn) : ∀ L : List Cn, hn (L ++ [z]) x = hn L x + z * pw x L.length
  | [] => by
    show 0 * x + z = 0 + z * 1
    grind
  | a :: L => by
    rw [List.cons_append, hn_cons, hn_cons, hn_snoc z x L, List.length_cons]
    show _ = _ + z * (pw x L.length * x)
    grind
def ps (x : Cn) (f : Nat → Cn) : Nat → Cn
  | 0 => 0
  | n + 1 => ps x f n + f n * pw x n
theorem hn_range (x : Cn) (f : Nat → Cn) : ∀ n, hn ((List.range n).map f) x = ps x f n
  | 0 => rfl
  | n + 1 => by
    rw [List.range_succ, List.map_append, List.map_singleton, hn_snoc, hn_range x f n, List.length_map, List.length_range]
    rfl
theorem ps_add (x : Cn) (f g : Nat → Cn) : ∀ n, ps x (fun k => f k + g k) n = ps x f n + ps x g n
  | 0 => by show (0 : Cn) = 0 + 0; grind
  | n + 1 => by
    show ps x (fun k => f k + g k) n + (f n + g n) * pw x n = (ps x f n + f n * pw x n) + (ps x g n + g n * pw x n)
    rw [ps_add x f g n]
    grind
theorem ps_zero (x : Cn) (f : Nat → Cn) : ∀ n, (∀ k, k < n → f k = 0) → ps x f n = 0
  | 0, _ => rfl
  | n + 1, h => by
    show ps x f n + f n * pw x n = 0
    rw [ps_zero x f n (fun k hk => h k (by omega)), h n (by omega)]
    grind
theorem ps_at (x v : Cn) (s : Nat) : ∀ n, s < n → ps x (fun k => if s = k then v else 0) n = v * pw x s
  | 0, h => absurd h (Nat.not_lt_zero _)
  | n + 1, h => by
    show ps x (fun k => if s = k then v else 0) n + (if s = n then v else 0) * pw x n = v * pw x s
    by_cases e : s = n
    · subst e
      rw [if_pos rfl, ps_zero x _ s (fun k hk => if_neg (by omega))]
      grind
    · rw [if_neg e, ps_at x v s n (by omega)]
      grind
theorem ps_inn (x : Cn) (f : Cn → Cn) : ∀ (ys : List Cn) (s n : Nat), s + ys.length ≤ n → ps x (innC f ys s) n = pw x s * hn (ys.map f) x
  | [], s, n, _ => by
    rw [ps_zero x (innC f [] s) n (fun k _ => rfl)]
    show (0 : Cn) = pw x s * 0
    grind
  | y :: ys, s, n, h => by
    rw [List.length_cons] at h
    have e : ps x (innC f (y :: ys) s) n = ps x (fun k => (if s = k then f y else 0) + innC f ys (s + 1) k) n := rfl
    rw [e, ps_add, ps_at x _ s n (by omega), ps_inn x f ys (s + 1) n (by omega), List.map_cons, hn_cons]
    show _ + (pw x s * x) * _ = _
    grind
theorem hn_smul (x a : Cn) : ∀ L : List Cn, hn (L.map fun w => a * w) x = a * hn L x
  | [] => by show (0 : Cn) = a * 0; grind
  | z :: L => by
    rw [List.map_cons, hn_cons, hn_cons, hn_smul x a L]
    grind
theorem ps_out (x : Cn) (M : List Cn) : ∀ (L : List Cn) (s n : Nat), (L ≠ [] → s + L.length + M.length ≤ n + 1) → ps x (outC (fun z w => z * w) L M s) n = pw x s * (hn L x * hn M x)
  | [], s, n, _ => by
    rw [ps_zero x (outC (fun z w => z * w) [] M s) n (fun k _ => rfl)]
    show (0 : Cn) = pw x s * (0 * _)
    grind
  | z :: L, s, n, h => by
    have h2 := h (List.cons_ne_nil _ _)
    rw [List.length_cons] at h2
    have e : ps x (outC (fun z w => z * w) (z :: L) M s) n = ps x (fun k => innC (fun w => z * w) M s k + outC (fun z w => z * w) L M (s + 1) k) n := rfl
    rw [e, ps_add, ps_out x M L (s + 1) n (fun _ => by omega), hn_cons]
    have e2 : ps x (fun k => innC (fun w => z * w) M s k) n = pw x s * (z * hn M x) := by
      rw [← hn_smul]
      exact ps_inn x _ M s n (by omega)
    rw [e2]
    show _ + (pw x s * x) * _ = _
    grind
theorem hn_pmul (L M : List Cn) (x : Cn) : hn (pmul L M) x = hn L x * hn M x := by
  unfold pmul
  by_cases h : L = [] ∨ M = []
  · rw [if_pos h]
    rcases h with rfl | rfl
    · show (0 : Cn) = 0 * _
      grind
    · show (0 : Cn) = _ * 0
      grind
  · rw [if_neg h, hn_range]
    have nM : M ≠ [] := fun e => h (Or.inr e)
    have e := ps_out x M L 0 (L.length + M.length - 1) (fun ne => by have := List.length_pos_iff.mpr ne; omega)
    show ps x (outC (fun z w => z * w) L M 0) _ = _
    rw [e]
    show 1 * _ = _
    grind
/-! ### sizes -/
/-! ### the other way round -/


/-! QN: turns led back and behind each other (begun, for k46). -/
section
variable {Φ : PyData → Prop} {n m k l : Nat} {x y z w u v a b c : Cn} {p q g : Rat} {A : Addr}
end


/-! QO: one turn behind another, at any number where both may be said. -/
section
variable {g : Rat} {u v a b t : Cn}
end


/-! QP: led at any number, poles among them. -/
section
variable {Φ : PyData → Prop} {n m k l : Nat} {x y z w u v a b c : Cn} {p q g : Rat} {A : Addr}
end


/-! QR: numbers to be led (for k46). -/
section
variable {Φ : PyData → Prop} {n m k l : Nat} {x y z w u v a b c : Cn} {p q g : Rat} {A : Addr}
end


/-! QV: any turn of some size, led at any number (for k46). -/
def Pole (c : Cn) (g : Rat) (z : Cn) : Prop := 1 - c.conj * z / Cn.ofR g = 0
instance (c : Cn) (g : Rat) (z : Cn) : Decidable (Pole c g z) := inferInstanceAs (Decidable (1 - c.conj * z / Cn.ofR g = 0))
section
variable {Φ : PyData → Prop} {n m k l : Nat} {x y z w u v a b c t : Cn} {p q g : Rat} {A : Addr} {P : Post}
/-! ### the poles of one turn behind another -/
end


/-! QW: turns led back and behind each other, at drawn numbers (for k46). -/
section
variable {Φ : PyData → Prop} {n m k l : Nat} {x y z w u v a b c t U C : Cn} {p q g : Rat} {A : Addr} {P : Post} {L : PyData} {s : Sl}
theorem T_reprG {d : PyData} (h1 : Shw d ∧ cnt d ≤ 1000 ∧ PyData.depth d ≤ 20) (h : ∀ s : Str, s = PyData.shown d → Φ (.str s)) : oRepr [d] Φ :=
  T_repr h1.1 (by have a := h1.2.1; omega) (by have a := h1.2.2; omega) (h _ rfl)
theorem ne_str {s1 s2 : Str} {d : PyData} (e1 : s1 = PyData.shown d) (e2 : s2 = PyData.shown d) (h : Φ (.bool false)) : oNe (.str s1) (.str s2) Φ := by
  show Φ (.bool (!decide (s1 = s2)))
  rw [decide_eq_true (e1.trans e2.symm)]
  exact h
theorem eq_str {s1 s2 : Str} {d : PyData} (e1 : s1 = PyData.shown d) (e2 : s2 = PyData.shown d) (h : Φ (.bool true)) : oEq (.str s1) (.str s2) Φ := by
  show Φ (.bool (decide (s1 = s2)))
  rw [decide_eq_true (e1.trans e2.symm)]
  exact h
end


/-! QAJ: the law of rows summed, multiplied, valued (k04). -/
theorem tr_pad {L : List Cn} (h : tr L = L) (n : Nat) : tr (L ++ List.replicate n 0) = L := by
  have e := tr_uniq (L ++ List.replicate n 0) L.length (by simp) (fun i h1 h2 => by rw [List.getElem?_append_right h1, List.getElem?_replicate, if_pos (by simp at h2; omega)]) ?_
  · rw [← e, List.take_left]
  · rcases tr_shape h with rfl | ⟨M, x, rfl, hx⟩
    · exact Or.inl rfl
    · refine Or.inr ?_
      rw [List.getElem?_append_left (by simp)]
      simpa using hx
/-! ### what is shown -/
theorem shw_rows : ∀ L : List Cn, (∀ z ∈ L, Cs 1900 z) → ShwAll (L.map nm) ∧ cntAll (L.map nm) ≤ 7 * L.length ∧ PyData.depthAll (L.map nm) ≤ 10
  | [], _ => ⟨shw_nil, by simp only [List.map, cntAll]; omega, by simp only [List.map, PyData.depthAll]; decide⟩
  | z :: L, h => by
    obtain ⟨h1, h2, h3⟩ := shw_rows L fun w hw => h w (List.mem_cons_of_mem _ hw)
    refine ⟨shw_cons (shw_nm (h z (List.mem_cons_self ..))) h1, ?_, ?_⟩
    · have e : cnt (nm z) = 7 := by simp only [nm, fr, cnt, cntAll]
      show cnt (nm z) + cntAll (L.map nm) ≤ _
      rw [e, List.length_cons]
      omega
    · have e : PyData.depth (nm z) ≤ 10 := by simp only [nm, fr, PyData.depth, PyData.depthAll]; decide
      exact Nat.le_trans (dq_cons e h3) (by decide)
theorem row_ok {L : List Cn} (hl : L.length ≤ 12) (h : ∀ z ∈ L, Cs 1900 z) : Shw (.tuple (L.map nm)) ∧ cnt (.tuple (L.map nm)) ≤ 100 ∧ PyData.depth (.tuple (L.map nm)) ≤ 11 := by
  obtain ⟨h1, h2, h3⟩ := shw_rows L h
  refine ⟨shw_t h1, ?_, ?_⟩
  · show 1 + cntAll (L.map nm) ≤ 100
    omega
  · show PyData.depthAll (L.map nm) + 1 ≤ 11
    omega
section
variable {Φ : PyData → Prop} {n m k : Nat} {x : Cn} {A : Addr} {P : Post}
end


/-! QAM: whole parts over any number below; values at numbers of any size; mirrored numbers, drawn numbers on the rim. -/
/-- both parts are whole over D -/
def Ov (D : Int) (z : Cn) : Prop := (z.re.den : Int) ∣ D ∧ (z.im.den : Int) ∣ D
theorem Ov.of {D a b : Int} (h : D ≠ 0) : Ov D ⟨qd a D, qd b D⟩ := ⟨den_dvd _ _ h, den_dvd _ _ h⟩
theorem Ov.ex {D : Int} (h0 : D ≠ 0) {z : Cn} (h : Ov D z) : z = ⟨qd (ov D z.re) D, qd (ov D z.im) D⟩ :=
  Cn.ext' (ov_qd h0 h.1) (ov_qd h0 h.2)
theorem Ov.mono {D E : Int} {z : Cn} (h : Ov D z) (k : D ∣ E) : Ov E z := ⟨Int.dvd_trans h.1 k, Int.dvd_trans h.2 k⟩
theorem Ov.add {D : Int} (h0 : D ≠ 0) {z w : Cn} (h : Ov D z) (k : Ov D w) : Ov D (z + w) := by
  rw [h.ex h0, k.ex h0]
  have e : (⟨qd (ov D z.re) D, qd (ov D z.im) D⟩ : Cn) + ⟨qd (ov D w.re) D, qd (ov D w.im) D⟩ = ⟨qd (ov D z.re + ov D w.re) D, qd (ov D z.im + ov D w.im) D⟩ := by
    have hD := c_ne h0
    refine Cn.ext' ?_ ?_
    · show qd (ov D z.re) D + qd (ov D w.re) D = qd (ov D z.re + ov D w.re) D
      rw [qd_div, qd_div, qd_div, Rat.intCast_add]
      grind
    · show qd (ov D z.im) D + qd (ov D w.im) D = qd (ov D z.im + ov D w.im) D
      rw [qd_div, qd_div, qd_div, Rat.intCast_add]
      grind
  rw [e]
  exact Ov.of h0
theorem Ov.mul {D E : Int} (h0 : D ≠ 0) (k0 : E ≠ 0) {z w : Cn} (h : Ov D z) (k : Ov E w) : Ov (D * E) (z * w) := by
  rw [h.ex h0, k.ex k0]
  have e := tr_mul (ov D z.re) (ov D z.im) D (ov E w.re) (ov E w.im) E h0 k0
  rw [show (⟨qd (ov D z.re) D, qd (ov D z.im) D⟩ : Cn) * ⟨qd (ov E w.re) E, qd (ov E w.im) E⟩ = _ from e.symm]
  exact Ov.of (Int.mul_ne_zero h0 k0)
theorem Sm.ov {z : Cn} (h : Sm z) : Ov 6 z := ⟨h.re6, h.im6⟩
theorem lcmD {a b D : Int} (ha : a ∣ D) (hb : b ∣ D) : ((a.natAbs.lcm b.natAbs : Nat) : Int) ∣ D := by
  have h1 : a.natAbs ∣ D.natAbs := Int.natAbs_dvd_natAbs.mpr ha
  have h2 : b.natAbs ∣ D.natAbs := Int.natAbs_dvd_natAbs.mpr hb
  exact Int.natAbs_dvd_natAbs.mp (by rw [Int.natAbs_natCast]; exact Nat.lcm_dvd h1 h2)
theorem dvd_bd {a D : Int} {n : Nat} (ha : a ∣ D) (h0 : D ≠ 0) (hD : Bd n D) : Bd n a := by
  have h1 : a.natAbs ∣ D.natAbs := Int.natAbs_dvd_natAbs.mpr ha
  exact Bd.le (Nat.le_of_dvd (by omega) h1) hD
section
variable {Φ : PyData → Prop} {n m k : Nat} {x y : Cn} {A : Addr} {P : Post} {Ψ : List PyData → Prop}
theorem parts_loopD {Dn : Int} (D0 : Dn ≠ 0) (D6 : Bd 64 Dn) {D a5 a6 a7 a8 : Sl} : ∀ (L : List Cn) (b : Int) (a2 a3 a4 : Sl), (∀ z ∈ L, Ov Dn z) → 0 < b → b ∣ Dn → (∀ b' : Int, 0 < b' → b' ∣ Dn → b ∣ b' → (∀ z ∈ L, Ov b' z) → ∀ a2 a3 a4, P.N [D, .d (.int b'), a2, a3, a4, a5, a6, a7, a8]) →
    forW (vgT 2 (vgCons (vgT 2 (vgCons (vgN 2) (vgCons (vgN 3) vgNil))) (vgCons (vgT 2 (vgCons (vgN 2) (vgCons (vgN 4) vgNil))) vgNil))) (vAsg 1 (vB oLcm (vCons (vVar 1) (vCons (vB oLcm (vCons (vVar 3) (vCons (vVar 4) vNil))) vNil)))) (L.map nm) [D, .d (.int b), a2, a3, a4, a5, a6, a7, a8] P := by
  intro L
  induction L with
  | nil => exact fun b a2 a3 a4 _ h0 h6 h => h b h0 h6 (Int.dvd_refl _) (fun z hz => by simp at hz) a2 a3 a4
  | cons z L ih =>
    intro b a2 a3 a4 hL h0 h6 h
    have hz := hL z (List.mem_cons_self ..)
    have pq6 := lcmD hz.1 hz.2
    have pq0 := lcm_pos (den_pos z.re) (den_pos z.im)
    show _ ∧ _
    refine ⟨rfl, ?_⟩
    show _ ∧ _
    refine ⟨rfl, ?_⟩
    show _ ∧ _
    refine ⟨rfl, ?_⟩
    show _ ∧ _ ∧ _ ∧ _ ∧ _
    refine ⟨dvd_bd hz.1 D0 D6, dvd_bd hz.2 D0 D6, dvd_bd h6 D0 D6, dvd_bd pq6 D0 D6, ?_⟩
    refine ih _ _ _ _ (fun w hw => hL w (List.mem_cons_of_mem _ hw)) (lcm_pos h0 pq0) (lcmD h6 pq6) fun b' b0 b6 hb hd a2 a3 a4 => ?_
    have d1 : b ∣ b' := Int.dvd_trans (dvd_lcm1 _ _) hb
    have d2 : (((z.re.den : Int).natAbs.lcm (z.im.den : Int).natAbs : Nat) : Int) ∣ b' := Int.dvd_trans (dvd_lcm2 _ _) hb
    refine h b' b0 b6 d1 (fun w hw => ?_) a2 a3 a4
    rcases List.mem_cons.mp hw with rfl | hw
    · exact ⟨Int.dvd_trans (dvd_lcm1 _ _) d2, Int.dvd_trans (dvd_lcm2 _ _) d2⟩
    · exact hd w hw
theorem ov_bd {b : Int} {q : Rat} (hb : Bd n q.num) (b0 : b ≠ 0) (h : Bd m b) (hd : (q.den : Int) ∣ b) : Bd (n + m) (ov b q) := by
  obtain ⟨t, rfl⟩ := hd
  unfold ov
  rw [Int.mul_fdiv_cancel_left _ (den_ne q)]
  exact hb.mul (dvd_bd ⟨(q.den : Int), by rw [Int.mul_comm]⟩ b0 h)
theorem part_mul {b : Int} {q : Rat} (hq : Bd n q.num) (hn : n ≤ 100000) (b0 : b ≠ 0) (h : Bd 64 b) (hd : (q.den : Int) ∣ b) : CDivX b (q.den : Int) ∧ (CMulX q.num (b.fdiv q.den) ∨ CMul q.num (b.fdiv q.den)) := by
  refine ⟨div9 (dvd_bd hd b0 h) (den_ne _) (by decide), ?_⟩
  obtain ⟨t, rfl⟩ := hd
  rw [Int.mul_fdiv_cancel_left _ (den_ne q)]
  exact mul9 hq (dvd_bd ⟨(q.den : Int), by rw [Int.mul_comm]⟩ b0 h) (by omega)
/-- the two lists of a row's parts -/
theorem re_lc {E : Ev} {L : List Cn} {b : Int} {D a2 a3 a4 a5 a6 a7 a8 : Sl} {K : List PyData → Prop} (hc : ∀ z ∈ L, Cs n z) (hn : n ≤ 100000) (b0 : b ≠ 0) (h : Bd 64 b) (hd : ∀ z ∈ L, Ov b z) (hl : L.length ≤ 1000) (hK : K (L.map fun z => .int (ov b z.re))) :
    vLc [7, 8, 2] (vSeq (vVar 0)) (vgT 2 (vgCons (vgT 2 (vgCons (vgN 7) (vgCons (vgN 8) vgNil))) (vgCons (vgN 2) vgNil))) vYes (vOp oMul (vVar 7) (vOp oDiv (vVar 1) (vVar 8))) [.d (.tuple (L.map nm)), .d (.int b), a2, a3, a4, a5, a6, a7, a8] K := by
  show _ ∧ lcW _ (L.map nm) [] _
  refine ⟨by rw [List.length_map, sizeLine_eq]; omega, ?_⟩
  refine lc_map (f := fun z => .int (ov b z.re)) (g := nm) L [] (fun z hz K hK => ?_) (by rw [List.nil_append]; exact hK)
  show _ ∧ _
  refine ⟨rfl, ?_⟩
  show _ ∧ _
  refine ⟨rfl, ?_⟩
  show _ ∧ _ ∧ _
  obtain ⟨h1, h2⟩ := part_mul (hc z hz).re.num hn b0 h (hd z hz).1
  exact ⟨h1, h2, hK⟩
theorem im_lc {E : Ev} {L : List Cn} {b : Int} {D a2 a3 a4 a5 a6 a7 a8 : Sl} {K : List PyData → Prop} (hc : ∀ z ∈ L, Cs n z) (hn : n ≤ 100000) (b0 : b ≠ 0) (h : Bd 64 b) (hd : ∀ z ∈ L, Ov b z) (hl : L.length ≤ 1000) (hK : K (L.map fun z => .int (ov b z.im))) :
    vLc [2, 7, 8] (vSeq (vVar 0)) (vgT 2 (vgCons (vgN 2) (vgCons (vgT 2 (vgCons (vgN 7) (vgCons (vgN 8) vgNil))) vgNil))) vYes (vOp oMul (vVar 7) (vOp oDiv (vVar 1) (vVar 8))) [.d (.tuple (L.map nm)), .d (.int b), a2, a3, a4, a5, a6, a7, a8] K := by
  show _ ∧ lcW _ (L.map nm) [] _
  refine ⟨by rw [List.length_map, sizeLine_eq]; omega, ?_⟩
  refine lc_map (f := fun z => .int (ov b z.im)) (g := nm) L [] (fun z hz K hK => ?_) (by rw [List.nil_append]; exact hK)
  show _ ∧ _
  refine ⟨rfl, ?_⟩
  show _ ∧ _
  refine ⟨rfl, ?_⟩
  show _ ∧ _ ∧ _
  obtain ⟨h1, h2⟩ := part_mul (hc z hz).im.num hn b0 h (hd z hz).2
  exact ⟨h1, h2, hK⟩
theorem T_whole_partsD {Dn : Int} (D0 : Dn ≠ 0) (D6 : Bd 64 Dn) {L : List Cn} (hc : ∀ z ∈ L, Cs n z) (hn : n ≤ 100000) (hL : ∀ z ∈ L, Ov Dn z) (hl : L.length ≤ 1000) (h : ∀ b : Int, 0 < b → b ∣ Dn → (∀ z ∈ L, Ov b z) →
    Φ (.tuple [.list (L.map fun z => .int (ov b z.re)), .list (L.map fun z => .int (ov b z.im)), .int b])) : F_whole_parts [.tuple (L.map nm)] Φ := by
  unfold F_whole_parts mkF b_whole_parts
  refine ⟨rfl, ?_⟩
  show forW _ _ (L.map nm) [.d (.tuple (L.map nm)), .d (.int 1), .un, .un, .un, .un, .un, .un, .un] _
  refine parts_loopD D0 D6 L 1 _ _ _ hL (by decide) (Int.one_dvd _) fun b b0 b6 _ hd a2 a3 a4 => ?_
  have hb := dvd_bd b6 D0 D6
  refine re_lc (E := []) (D := .un) hc hn (by omega) hb hd hl ?_
  refine im_lc (E := []) (D := .un) hc hn (by omega) hb hd hl ?_
  exact h b b0 b6 hd
/-! ### values at numbers of any size -/
/-! ### mirrored -/
/-! ### draws -/
theorem T_drawn1 {top low : Int} (t0 : 1 ≤ top) (t1 : top ≤ 4) (l0 : 1 ≤ low) (l1 : low ≤ 3) (h : ∀ z, Sm z → Φ (tq z)) : F__law_drawn A [.int top, .int low] Φ := by
  unfold F__law_drawn mkQ b__law_drawn
  refine ⟨rfl, ?_⟩
  walk_at "xp"
  have c1 : CMulX 2 top ∨ CMul 2 top := mul9 (n := 2) (m := 3) (by unfold Bd; decide) (by unfold Bd; omega) (by decide)
  refine ⟨c1, T_dip (by omega) (by omega) fun a a0 a1 => ?_⟩
  refine ⟨c1, T_dip (by omega) (by omega) fun b b0 b1 => ?_⟩
  refine T_dip (by decide) (by decide) fun c _ _ => ?_
  have fin : ∀ b' : Int, -4 ≤ b' → b' ≤ 4 → F__law_dip A [.int low] fun d => oAdd (.int 1) d fun d => F__law_cut [.int (a - top), .int b', d] Φ := by
    intro b' h0 h1
    refine T_dip (by omega) (by omega) fun d d0 d1 => ?_
    show F__law_cut [_, _, .int (1 + d)] Φ
    refine T_cut0 (n := 3) (by omega) (by unfold Bd; omega) (by decide) (h _ (sm_of (by omega) (by omega) h0 h1 (by omega) (by omega)))
  refine ifB_in (fun _ => ?_) fun _ => ?_
  · exact fin 0 (by decide) (by decide)
  · exact fin (b - top) (by omega) (by omega)
end


/-! QAN: a row in powers of h: the laws' way and what is true of it. -/
/-! ### sizes -/
def sz (k n : Nat) : Nat → Nat
  | 0 => n
  | l + 1 => sz k n l + sz k n l + k + 2
/-! ### the laws' way -/
section
variable {Φ : PyData → Prop} {n m k : Nat} {x y : Cn} {A : Addr} {P : Post} {Ψ : List PyData → Prop}
end


/-! QAO: a row in powers of h: the package's way, over whole numbers. -/
/-! ### what it comes to -/
def sfx (n : Nat) (w : Nat → Cn) (d : Nat) : List Cn := (List.range (n - d)).map fun i => w (d + i)
def hv (n : Nat) (x : Cn) (w : Nat → Cn) (j : Nat) : Cn := hn (sfx n w j) x
section
variable {n : Nat} {x : Cn} {w w' : Nat → Cn}
end
/-! ### over whole numbers -/
theorem mk_put {N n : Nat} (T : Nat → Int) (v : Int) (h : n < N) : (mk N T).set n (.int v) = mk N fun k => if k = n then v else T k := by
  refine List.ext_getElem? fun k => ?_
  rw [List.getElem?_set]
  by_cases h1 : k < N
  · rw [mk_at _ h1, mk_len]
    by_cases h2 : n = k
    · subst h2
      rw [if_pos rfl, if_pos h1, mk_at _ h1, if_pos rfl]
    · rw [if_neg h2, mk_at _ h1, if_neg (Ne.symm h2)]
  · have e1 : (mk N fun k => if k = n then v else T k)[k]? = none := List.getElem?_eq_none (by rw [mk_len]; omega)
    have e2 : (mk N T)[k]? = none := List.getElem?_eq_none (by rw [mk_len]; omega)
    rw [if_neg (by omega), e1, e2]
theorem mk_of (L : List Cn) (f : Cn → Int) : (L.map fun z => PyData.int (f z)) = mk L.length fun j => f (cf L j) := by
  refine List.ext_getElem? fun k => ?_
  rw [List.getElem?_map]
  by_cases h : k < L.length
  · rw [mk_at _ h, cf_lt h]
    rfl
  · rw [List.getElem?_eq_none (by omega), List.getElem?_eq_none (by rw [mk_len]; omega)]
    rfl
theorem rg_back (lo : Int) (k : Nat) : (rgD lo (k + 1)).reverse = .int (lo + (k : Int)) :: (rgD lo k).reverse := by
  unfold rgD
  rw [List.range_succ, List.map_append, List.map_singleton, List.reverse_append]
  rfl
theorem bd_pow {m : Int} {e : Nat} (h : Bd e m) : ∀ k : Nat, Bd (e * k + 1) (m ^ k)
  | 0 => by rw [Int.pow_zero]; unfold Bd; simp
  | k + 1 => by
    rw [Int.pow_succ]
    exact ((bd_pow h k).mul h).mono (by rw [Nat.mul_succ]; omega)
section
variable {Φ : PyData → Prop} {n : Nat} {P : Post}
end


/-! QAK: the law of rows: what is a row; its draws; the law. -/
section
variable {Φ : PyData → Prop} {n m k : Nat} {x : Cn} {A : Addr} {P : Post}
end


/-! QAP: rows at numbers, back, mirrored (k06). -/
/-! ### back -/
theorem tr_split : ∀ L : List Cn, L = tr L ++ List.replicate (L.length - (tr L).length) 0
  | [] => rfl
  | x :: xs => by
    have ih := tr_split xs
    rw [tr_cons]
    by_cases e : tr xs = []
    · rw [e] at ih
      rw [if_pos e]
      by_cases hx : x = 0
      · rw [if_pos hx, List.nil_append]
        show x :: xs = List.replicate (xs.length + 1) 0
        rw [List.replicate_succ, hx]
        congr 1
      · rw [if_neg hx]
        show x :: xs = x :: List.replicate (xs.length + 1 - 1) 0
        congr 1
    · rw [if_neg e, List.cons_append, List.length_cons, List.length_cons, Nat.add_sub_add_right, ← ih]
theorem hn_pad (x : Cn) (L : List Cn) : ∀ k : Nat, hn (L ++ List.replicate k 0) x = hn L x
  | 0 => by rw [List.replicate_zero, List.append_nil]
  | k + 1 => by
    rw [List.replicate_succ', ← List.append_assoc, hn_snoc, hn_pad x L k]
    grind
theorem hn_tr (x : Cn) (L : List Cn) : hn (tr L) x = hn L x := by
  conv => rhs; rw [tr_split L]
  rw [hn_pad]
theorem pw_add (x : Cn) (a : Nat) : ∀ b : Nat, pw x (a + b) = pw x a * pw x b
  | 0 => by
    show pw x a = pw x a * 1
    grind
  | b + 1 => by
    show pw x (a + b) * x = pw x a * (pw x b * x)
    rw [pw_add x a b]
    grind
section
variable {Φ : PyData → Prop} {n m k : Nat} {x y u : Cn} {A : Addr} {P : Post} {Ψ : List PyData → Prop} {R : WS}
/-! ### the law -/
end


/-! QAL: the law of rows: its draws; k04. -/
section
variable {Φ : PyData → Prop} {n m k : Nat} {x : Cn} {A : Addr} {P : Post}
end
theorem allB_true : ∀ n : Nat, allB (List.replicate n (PyData.bool true)) = some true
  | 0 => rfl
  | n + 1 => by
    rw [List.replicate_succ]
    show (allB (List.replicate n (PyData.bool true))).map (fun c => true && c) = some true
    rw [allB_true n]
    rfl


/-! QAQ: rows at numbers, back, mirrored: the law (k06). -/
section
variable {Φ : PyData → Prop} {n m k : Nat} {x y u : Cn} {A : Addr} {P : Post} {Ψ : List PyData → Prop} {R : WS}
end


/-! QBA: rows as functions: what is the same at all numbers is the same row; common divisors. -/
/-! ### a row that is nought at all numbers -/
theorem two_ne : (2 : Cn) ≠ 0 := fun h => absurd (congrArg Cn.re h) (show ¬ (((2 : Nat) : Rat) = ((0 : Nat) : Rat)) by decide)
theorem one_ne : (1 : Cn) ≠ 0 := fun h => absurd (congrArg Cn.re h) (show ¬ (((1 : Nat) : Rat) = ((0 : Nat) : Rat)) by decide)
theorem pw_re (n : Nat) : (pw 2 n).re = ((2 ^ n : Nat) : Rat) ∧ (pw 2 n).im = 0 := by
  induction n with
  | zero => exact ⟨rfl, rfl⟩
  | succ n ih =>
    obtain ⟨h1, h2⟩ := ih
    refine ⟨?_, ?_⟩
    · show (pw 2 n).re * ((2 : Nat) : Rat) - (pw 2 n).im * 0 = _
      rw [h1, h2, Nat.pow_succ, Rat.natCast_mul]
      grind
    · show (pw 2 n).re * 0 + (pw 2 n).im * ((2 : Nat) : Rat) = _
      rw [h2]
      grind
theorem pw_ne {a b : Nat} (h : a < b) : pw 2 a ≠ pw 2 b := fun e => by
  have h1 := congrArg Cn.re e
  rw [(pw_re a).1, (pw_re b).1] at h1
  have h2 : 2 ^ a = 2 ^ b := by exact_mod_cast Rat.natCast_inj.mp h1
  exact absurd h2 (Nat.ne_of_lt (Nat.pow_lt_pow_right (by decide) h))
/-- less the double, the top one goes -/
def dif (m : Nat) : Nat → List Cn → List Cn
  | _, [] => []
  | s, z :: L => z * (pw 2 s - pw 2 m) :: dif m (s + 1) L
theorem dif_len (m : Nat) : ∀ (s : Nat) (L : List Cn), (dif m s L).length = L.length
  | _, [] => rfl
  | s, z :: L => by
    show (dif m (s + 1) L).length + 1 = _
    rw [dif_len m (s + 1) L, List.length_cons]
theorem hn_dif (m : Nat) (x : Cn) : ∀ (s : Nat) (L : List Cn), hn (dif m s L) x = pw 2 s * hn L (2 * x) - pw 2 m * hn L x
  | s, [] => by
    show (0 : Cn) = pw 2 s * 0 - pw 2 m * 0
    grind
  | s, z :: L => by
    show hn (z * (pw 2 s - pw 2 m) :: dif m (s + 1) L) x = _
    rw [hn_cons, hn_cons, hn_cons, hn_dif m x (s + 1) L]
    show (pw 2 s * 2 * hn L (2 * x) - pw 2 m * hn L x) * x + z * (pw 2 s - pw 2 m) = _
    grind
theorem all_zero : ∀ (n : Nat) (L : List Cn), L.length = n → (∀ x, x ≠ 0 → hn L x = 0) → ∀ z ∈ L, z = 0
  | 0, L, hl, _ => by
    rw [List.eq_nil_of_length_eq_zero hl]
    intro z hz
    cases hz
  | n + 1, L, hl, h => by
    -- L = M ++ [c]
    rcases List.eq_nil_or_concat L with rfl | ⟨M, c, rfl⟩
    · intro z hz; cases hz
    · rw [List.concat_eq_append] at *
      have hM : M.length = n := by simpa using hl
      have h2 : ∀ x, x ≠ 0 → hn (dif n 0 M) x = 0 := fun x hx => by
        have e1 := h x hx
        have e2 := h (2 * x) (mul_ne' two_ne hx)
        rw [hn_snoc] at e1 e2
        rw [hn_dif]
        have e3 : pw (2 * x) M.length = pw 2 n * pw x M.length := by
          rw [hM]
          clear e1 e2 h hl hM
          induction n with
          | zero => show (1 : Cn) = 1 * 1; grind
          | succ n ih => show pw (2 * x) n * (2 * x) = pw 2 n * 2 * (pw x n * x); rw [ih]; grind
        rw [e3] at e2
        show 1 * hn M (2 * x) - pw 2 n * hn M x = 0
        generalize pw x M.length = p at *
        generalize pw 2 n = q at *
        grind
      have h3 := all_zero n (dif n 0 M) (by rw [dif_len, hM]) h2
      have h4 : ∀ (s : Nat) (K : List Cn), s + K.length ≤ n → (∀ z ∈ dif n s K, z = 0) → ∀ z ∈ K, z = 0 := by
        intro s K
        induction K generalizing s with
        | nil => intro _ _ z hz; cases hz
        | cons a K ih =>
          intro hs hd z hz
          rw [List.length_cons] at hs
          rcases List.mem_cons.mp hz with rfl | hz
          · have e := hd (z * (pw 2 s - pw 2 n)) (List.mem_cons_self ..)
            have ne := pw_ne (show s < n by omega)
            have ne2 : pw 2 s - pw 2 n ≠ 0 := fun k => ne (by generalize pw 2 s = a at *; generalize pw 2 n = b at *; grind)
            generalize pw 2 s - pw 2 n = d at *
            grind
          · exact ih (s + 1) (by omega) (fun w hw => hd w (List.mem_cons_of_mem _ hw)) z hz
      have h5 := h4 0 M (by omega) h3
      have h6 : c = 0 := by
        have e1 := h 1 one_ne
        rw [hn_snoc] at e1
        have e2 : hn M 1 = 0 := by
          have : tr M = [] := tr_zeros h5
          rw [← hn_tr, this]
          rfl
        have e3 : ∀ k, pw 1 k = 1 := fun k => by
          induction k with
          | zero => rfl
          | succ k ih => show pw 1 k * 1 = 1; rw [ih]; grind
        rw [e2, e3] at e1
        grind
      intro z hz
      rcases List.mem_append.mp hz with hz | hz
      · exact h5 z hz
      · rw [List.mem_singleton.mp hz]; exact h6
/-! ### functions that rows tell -/
def IsP (f : Cn → Cn) : Prop := ∃ L, ∀ x, hn L x = f x
theorem hn_sum2 (L M : List Cn) (x : Cn) : hn (sum2 L M) x = hn L x + hn M x := by
  have key : ∀ (n : Nat) (L : List Cn), L.length ≤ n → ps x (cf L) n = hn L x := fun n L hl => by
    rw [← hn_range]
    have e : (List.range n).map (cf L) = L ++ List.replicate (n - L.length) 0 := by
      refine List.ext_getElem? fun k => ?_
      rw [List.getElem?_map]
      by_cases h : k < n
      · rw [List.getElem?_range h, pad_at L n k h]
        rfl
      · rw [List.getElem?_eq_none (by simp; omega), List.getElem?_eq_none (by simp; omega)]
        rfl
    rw [e, hn_pad]
  unfold sum2
  rw [hn_range, ps_add, key _ L (Nat.le_max_left ..), key _ M (Nat.le_max_right ..)]
theorem isp_row (L : List Cn) : IsP (hn L) := ⟨L, fun _ => rfl⟩
theorem isp_const (c : Cn) : IsP fun _ => c := ⟨[c], fun x => by rw [hn_cons]; show 0 * x + c = c; grind⟩
theorem isp_id : IsP fun x => x := ⟨[0, 1], fun x => by rw [hn_cons, hn_cons]; show (0 * x + 1) * x + 0 = x; grind⟩
theorem IsP.add {f g : Cn → Cn} (hf : IsP f) (hg : IsP g) : IsP fun x => f x + g x := by
  obtain ⟨L, hL⟩ := hf
  obtain ⟨M, hM⟩ := hg
  exact ⟨sum2 L M, fun x => by rw [hn_sum2, hL, hM]⟩
theorem IsP.mul {f g : Cn → Cn} (hf : IsP f) (hg : IsP g) : IsP fun x => f x * g x := by
  obtain ⟨L, hL⟩ := hf
  obtain ⟨M, hM⟩ := hg
  exact ⟨pmul L M, fun x => by rw [hn_pmul, hL, hM]⟩
theorem IsP.sub {f g : Cn → Cn} (hf : IsP f) (hg : IsP g) : IsP fun x => f x - g x := by
  obtain ⟨L, hL⟩ := hf.add ((isp_const (0 - 1)).mul hg)
  exact ⟨L, fun x => by rw [hL]; grind⟩
theorem IsP.congr {f g : Cn → Cn} (hf : IsP f) (h : ∀ x, f x = g x) : IsP g := by
  obtain ⟨L, hL⟩ := hf
  exact ⟨L, fun x => by rw [hL, h]⟩
theorem isp_pw (k : Nat) : IsP fun x => pw x k := by
  induction k with
  | zero => exact isp_const 1
  | succ k ih => exact ih.mul isp_id
/-- the same values, the same row -/
theorem row_ext {L M : List Cn} (h : ∀ x, hn L x = hn M x) : tr L = tr M := by
  have h1 : ∀ z ∈ sum2 L (M.map fun w => (0 - 1) * w), z = 0 := all_zero _ _ rfl fun x _ => by
    rw [hn_sum2, hn_smul, h]
    grind
  obtain ⟨N, hN⟩ : ∃ N, N = max L.length M.length := ⟨_, rfl⟩
  have h2 : ∀ k, k < N → cf L k = cf M k := fun k hk => by
    have e := h1 (cf L k + cf (M.map fun w => (0 - 1) * w) k) (by
      unfold sum2
      rw [List.length_map, ← hN]
      exact List.mem_map.mpr ⟨k, List.mem_range.mpr hk, rfl⟩)
    have e2 : cf (M.map fun w => (0 - 1) * w) k = (0 - 1) * cf M k := by
      unfold cf
      rw [List.getElem?_map]
      cases M[k]? with
      | none => show (0 : Cn) = (0 - 1) * 0; grind
      | some z => rfl
    rw [e2] at e
    grind
  have h3 : L ++ List.replicate (N - L.length) 0 = M ++ List.replicate (N - M.length) 0 := by
    refine List.ext_getElem? fun k => ?_
    by_cases hk : k < N
    · rw [pad_at L N k hk, pad_at M N k hk, h2 k hk]
    · rw [List.getElem?_eq_none (by simp; omega), List.getElem?_eq_none (by simp; omega)]
  have h4 : ∀ (K : List Cn) (n : Nat), tr (K ++ List.replicate n 0) = tr K := fun K n => by
    have e := tr_split K
    have e2 : K ++ List.replicate n 0 = tr K ++ List.replicate (K.length - (tr K).length + n) 0 := by
      conv => lhs; rw [e]
      rw [List.append_assoc, List.replicate_append_replicate]
    rw [e2, tr_pad (tr_tr K)]
  rw [← h4 L (N - L.length), h3, h4]
theorem row_ext' {L M : List Cn} (hL : tr L = L) (hM : tr M = M) (h : ∀ x, hn L x = hn M x) : L = M := by
  rw [← hL, ← hM, row_ext h]
/-- a product that is nought -/
theorem row_cancel {G : List Cn} (hG : tr G = G) (nG : G ≠ []) {f : Cn → Cn} (hf : IsP f) (h : ∀ x, hn G x * f x = 0) : ∀ x, f x = 0 := by
  obtain ⟨L, hL⟩ := hf
  have e1 : tr (pmul G (tr L)) = tr [] := row_ext fun x => by
    rw [hn_pmul, hn_tr, hL, h]
    rfl
  rw [tr_pmul hG (tr_tr L)] at e1
  have e2 : tr L = [] := by
    cases q : tr L with
    | nil => rfl
    | cons z M =>
      exfalso
      rw [q] at e1
      unfold pmul at e1
      rw [if_neg (by simp [nG])] at e1
      have h5 : (List.map (cv G (z :: M)) (List.range (G.length + (z :: M).length - 1))).length = 0 := congrArg List.length e1
      have hp := List.length_pos_iff.mpr nG
      rw [List.length_map, List.length_range, List.length_cons] at h5
      omega
  intro x
  rw [← hL, ← hn_tr, e2]
  rfl
/-- both tell 1: both are numbers -/
theorem row_unit {f g : Cn → Cn} (hf : IsP f) (hg : IsP g) (h : ∀ x, f x * g x = 1) : ∃ c : Cn, c ≠ 0 ∧ ∀ x, g x = c := by
  obtain ⟨L, hL⟩ := hf
  obtain ⟨M, hM⟩ := hg
  have e1 : tr (pmul (tr L) (tr M)) = tr [1] := row_ext fun x => by
    rw [hn_pmul, hn_tr, hn_tr, hL, hM, h, hn_cons]
    show (1 : Cn) = 0 * x + 1
    grind
  rw [tr_pmul (tr_tr L) (tr_tr M), show tr [(1 : Cn)] = [] ++ [1] from tr_fix (M := []) one_ne] at e1
  have e2 : (tr M).length = 1 := by
    have h1 := congrArg List.length e1
    unfold pmul at h1
    split at h1
    · simp at h1
    · rename_i q
      have a1 : 0 < (tr L).length := List.length_pos_iff.mpr fun z => q (Or.inl z)
      have a2 : 0 < (tr M).length := List.length_pos_iff.mpr fun z => q (Or.inr z)
      simp at h1
      omega
  obtain ⟨c, e3⟩ : ∃ c, tr M = [c] := by
    cases q : tr M with
    | nil => rw [q] at e2; simp at e2
    | cons c K =>
      rw [q] at e2
      cases K with
      | nil => exact ⟨c, rfl⟩
      | cons _ _ => simp at e2
  have e4 : ∀ x, g x = c := fun x => by
    rw [← hM, ← hn_tr, e3, hn_cons]
    show 0 * x + c = c
    grind
  refine ⟨c, fun z => ?_, e4⟩
  have := h 0
  rw [e4, z] at this
  exact absurd (by rw [← this]; grind) one_ne
/-! ### without a common divisor -/
def Cop (f g : Cn → Cn) : Prop := ∃ u v, IsP u ∧ IsP v ∧ ∀ x, u x * f x + v x * g x = 1
theorem cop_const {c : Cn} (hc : c ≠ 0) (g : Cn → Cn) : Cop (fun _ => c) g :=
  ⟨fun _ => 1 / c, fun _ => 0, isp_const _, isp_const _, fun x => by grind⟩
theorem Cop.symm {f g : Cn → Cn} (h : Cop f g) : Cop g f := by
  obtain ⟨u, v, hu, hv, e⟩ := h
  exact ⟨v, u, hv, hu, fun x => by rw [← e x]; grind⟩
theorem Cop.mul {f1 f2 g : Cn → Cn} (h1 : Cop f1 g) (h2 : Cop f2 g) (p1 : IsP f1) (p2 : IsP f2) (pg : IsP g) : Cop (fun x => f1 x * f2 x) g := by
  obtain ⟨u1, v1, a1, b1, e1⟩ := h1
  obtain ⟨u2, v2, a2, b2, e2⟩ := h2
  refine ⟨fun x => u1 x * u2 x, fun x => u1 x * f1 x * v2 x + v1 x * u2 x * f2 x + v1 x * v2 x * g x, a1.mul a2, ?_, fun x => ?_⟩
  · exact (((a1.mul p1).mul b2).add ((b1.mul a2).mul p2)).add ((b1.mul b2).mul pg)
  · have k1 := e1 x
    have k2 := e2 x
    dsimp only
    generalize u1 x = a at *
    generalize v1 x = b at *
    generalize u2 x = c at *
    generalize v2 x = d at *
    generalize f1 x = p at *
    generalize f2 x = q at *
    generalize g x = r at *
    have : (a * p + b * r) * (c * q + d * r) = 1 := by rw [k1, k2]; grind
    grind
/-- what a row leaves by a root -/
theorem factor_out (L : List Cn) (r : Cn) : ∃ q, IsP q ∧ ∀ x, hn L x - hn L r = (x - r) * q x := by
  induction L with
  | nil => exact ⟨fun _ => 0, isp_const 0, fun x => by show (0 : Cn) - 0 = _; grind⟩
  | cons z L ih =>
    obtain ⟨q, hq, e⟩ := ih
    refine ⟨fun x => hn L x + r * q x, (isp_row L).add ((isp_const r).mul hq), fun x => ?_⟩
    rw [hn_cons, hn_cons]
    have k := e x
    dsimp only
    generalize hn L x = a at *
    generalize hn L r = b at *
    generalize q x = c at *
    grind
theorem cop_root {r : Cn} {L : List Cn} (h : hn L r ≠ 0) : Cop (fun x => x - r) (hn L) := by
  obtain ⟨q, hq, e⟩ := factor_out L r
  refine ⟨fun x => (0 - 1 / hn L r) * q x, fun _ => 1 / hn L r, (isp_const _).mul hq, isp_const _, fun x => ?_⟩
  have k := e x
  dsimp only
  generalize hn L x = a at *
  generalize hn L r = b at *
  generalize q x = c at *
  grind
/-- the end of the going down -/
theorem gcd_end {G : List Cn} (hG : tr G = G) (nG : G ≠ []) {f : Cn → Cn} (h1 : ∃ q, IsP q ∧ ∀ x, f x = hn G x * q x) (h2 : ∃ u, IsP u ∧ ∀ x, hn G x = u x * f x) : ∃ c : Cn, c ≠ 0 ∧ ∀ x, f x = c * hn G x := by
  obtain ⟨q, hq, e1⟩ := h1
  obtain ⟨u, hu, e2⟩ := h2
  have h3 : ∀ x, hn G x * (u x * q x - 1) = 0 := fun x => by
    have k1 := e1 x
    have k2 := e2 x
    generalize hn G x = g at *
    generalize f x = y at *
    generalize u x = a at *
    generalize q x = b at *
    grind
  have h4 := row_cancel hG nG ((hu.mul hq).sub (isp_const 1)) h3
  obtain ⟨c, hc, e3⟩ := row_unit hu hq fun x => by have := h4 x; grind
  exact ⟨c, hc, fun x => by rw [e1, e3]; grind⟩


/-! QBB: rows of whole pairs; normed. -/
def gz (a b : Int) : Cn := ⟨qd a 1, qd b 1⟩
def gA (A B : Nat → Int) (k : Nat) : Cn := gz (A k) (B k)
theorem gz_add (a b c d : Int) : gz (a + c) (b + d) = gz a b + gz c d := cn_add_qd ..
theorem gz_mul (a b c d : Int) : gz a b * gz c d = gz (a * c - b * d) (a * d + b * c) :=
  Eq.symm (tr_mul a b 1 c d 1 (by decide) (by decide))
theorem gz_zero : gz 0 0 = 0 := cn_zero_qd 1
theorem gz_eq {a b : Int} : gz a b = 0 ↔ a = 0 ∧ b = 0 := by
  constructor
  · intro h
    have h1 := congrArg Cn.re h
    have h2 := congrArg Cn.im h
    have k : ∀ c : Int, qd c 1 = 0 → c = 0 := fun c hc => by
      rw [qd_div] at hc
      have e : ((c : Rat)) = ((0 : Int) : Rat) := by
        have : ((1 : Int) : Rat) = 1 := rfl
        rw [this] at hc
        have : (c : Rat) / 1 = c := by grind
        rw [this] at hc
        exact hc
      exact_mod_cast e
    exact ⟨k a h1, k b h2⟩
  · rintro ⟨rfl, rfl⟩
    exact gz_zero
theorem gz_neg (a b : Int) : gz (-a) (-b) = 0 - gz a b := by
  have e := gz_add (-a) (-b) a b
  rw [Int.add_left_neg, Int.add_left_neg, gz_zero] at e
  grind
theorem gz_smul (s a b : Int) : gz (s * a) (s * b) = gz s 0 * gz a b := by
  rw [gz_mul]
  congr 1
  · omega
  · omega
theorem ps_congr {x : Cn} {f g : Nat → Cn} : ∀ (n : Nat), (∀ k, k < n → f k = g k) → ps x f n = ps x g n
  | 0, _ => rfl
  | n + 1, h => by
    show ps x f n + f n * pw x n = ps x g n + g n * pw x n
    rw [ps_congr n (fun k hk => h k (by omega)), h n (by omega)]
theorem ps_smul (x a : Cn) (f : Nat → Cn) : ∀ n, ps x (fun k => a * f k) n = a * ps x f n
  | 0 => by show (0 : Cn) = a * 0; grind
  | n + 1 => by
    show ps x (fun k => a * f k) n + a * f n * pw x n = a * (ps x f n + f n * pw x n)
    rw [ps_smul x a f n]
    grind
theorem mk_last (m : Nat) (T : Nat → Int) : mk (m + 1) T = mk m T ++ [.int (T m)] := by
  unfold mk
  rw [List.range_succ, List.map_append]
  rfl
section
variable {Φ : PyData → Prop} {n m k s : Nat} {P : Post} {Ψ : List PyData → Prop}
theorem ix_last {T : Nat → Int} (h : Φ (.int (T m))) : oIx (.list (mk (m + 1) T)) (.int (-1)) Φ := by
  show match atI (mk (m + 1) T) (-1) with | some d => Φ d | none => False
  rw [mk_last, atI_last]
  exact h
theorem cut_back (T : Nat → Int) (m : Nat) : cutD (mk (m + 1) T) none (some (-1)) = mk m T := by
  unfold cutD
  rw [HT.sIx_none]
  have e : HT.sIx (mk (m + 1) T).length (mk (m + 1) T).length (some (-1)) = m := by
    rw [mk_len]
    show ((-1 : Int) + ((m + 1 : Nat) : Int)).toNat = m
    omega
  rw [e, List.drop_zero, Nat.sub_zero, mk_last, List.take_left' (mk_len m T)]
/-- normed: the last pair a whole number above 0, no common divisor -/
def Nd (m : Nat) (A B : Nat → Int) : Prop := 0 < m → 0 < A (m - 1) ∧ B (m - 1) = 0 ∧ ∀ g : Int, (∀ k, k < m → g ∣ A k ∧ g ∣ B k) → g ∣ 1
def tp (m : Nat) (A B : Nat → Int) : PyData := .tuple [.list (mk m A), .list (mk m B)]
def strC : WB := (vAnd (vTru (vVar 0)) (vAnd (vTest (vOp oEq (vOp oIx (vVar 0) (vNeg (vC (.int 1)))) (vC (.int 0)))) (vTest (vOp oEq (vOp oIx (vVar 1) (vNeg (vC (.int 1)))) (vC (.int 0))))))
def strB : WS := (vPar 0 1 (vCons (vSl (vVar 0) (fun _ Θ => Θ none) (vPart (vNeg (vC (.int 1))))) (vCons (vSl (vVar 1) (fun _ Θ => Θ none) (vPart (vNeg (vC (.int 1))))) vNil)))
theorem strip_loop {A B : Nat → Int} {a2 a3 a4 a5 a6 a7 a8 a9 : Sl} (hP : ∀ m, m ≤ n → (∀ x, ps x (gA A B) m = ps x (gA A B) n) → (m = 0 ∨ ¬ (A (m - 1) = 0 ∧ B (m - 1) = 0)) → P.N [.d (.list (mk m A)), .d (.list (mk m B)), a2, a3, a4, a5, a6, a7, a8, a9]) : ∀ m, m ≤ n → (∀ x, ps x (gA A B) m = ps x (gA A B) n) →
    whW strC strB (m + 1) [.d (.list (mk m A)), .d (.list (mk m B)), a2, a3, a4, a5, a6, a7, a8, a9] P := by
  intro m
  induction m with
  | zero =>
    intro h1 h2
    unfold whW
    show P.N _
    exact hP 0 h1 h2 (Or.inl rfl)
  | succ m ih =>
    intro h1 h2
    unfold whW
    have ne : ∀ T : Nat → Int, (mk (m + 1) T).isEmpty = false := fun T => by rw [mk_last]; simp
    show ifB (!(mk (m + 1) A).isEmpty) _ _
    rw [ne]
    show oIx (.list (mk (m + 1) A)) (.int (-1)) _
    refine ix_last ?_
    show ifB (decide (A m = 0)) _ _
    by_cases hA : A m = 0
    · rw [decide_eq_true hA]
      show oIx (.list (mk (m + 1) B)) (.int (-1)) _
      refine ix_last ?_
      show ifB (decide (B m = 0)) _ _
      by_cases hB : B m = 0
      · rw [decide_eq_true hB]
        show whW strC strB (m + 1) [.d (.list (cutD (mk (m + 1) A) none (some (-1)))), .d (.list (cutD (mk (m + 1) B) none (some (-1)))), _, _, _, _, _, _, _, _] P
        rw [cut_back, cut_back]
        refine ih (by omega) fun x => ?_
        rw [← h2 x]
        show _ = ps x (gA A B) m + gz (A m) (B m) * pw x m
        rw [hA, hB, gz_zero]
        grind
      · rw [decide_eq_false hB]
        exact hP (m + 1) h1 h2 (Or.inr fun h => hB h.2)
    · rw [decide_eq_false hA]
      exact hP (m + 1) h1 h2 (Or.inr fun h => hA h.1)
/-- the greatest common divisor of all, one after the other -/
def gcdL (g : Int) : List Int → Int
  | [] => g
  | x :: xs => gcdL ((Nat.gcd g.natAbs x.natAbs : Nat) : Int) xs
theorem gcdL_nn : ∀ (xs : List Int) (g : Int), 0 ≤ g → 0 ≤ gcdL g xs
  | [], g, h => h
  | x :: xs, g, _ => gcdL_nn xs _ (Int.natCast_nonneg _)
theorem gcdL_dvd : ∀ (xs : List Int) (g : Int), gcdL g xs ∣ g ∧ ∀ x ∈ xs, gcdL g xs ∣ x
  | [], g => ⟨Int.dvd_refl _, fun x h => by cases h⟩
  | y :: xs, g => by
    obtain ⟨h1, h2⟩ := gcdL_dvd xs ((Nat.gcd g.natAbs y.natAbs : Nat) : Int)
    refine ⟨Int.dvd_trans h1 ?_, fun x hx => ?_⟩
    · exact Int.natAbs_dvd_natAbs.mp (by rw [Int.natAbs_natCast]; exact Nat.gcd_dvd_left _ _)
    · rcases List.mem_cons.mp hx with rfl | hx
      · exact Int.dvd_trans h1 (Int.natAbs_dvd_natAbs.mp (by rw [Int.natAbs_natCast]; exact Nat.gcd_dvd_right _ _))
      · exact h2 x hx
theorem gcdL_great {c : Int} : ∀ (xs : List Int) (g : Int), c ∣ g → (∀ x ∈ xs, c ∣ x) → c ∣ gcdL g xs
  | [], g, h, _ => h
  | y :: xs, g, h, k => gcdL_great xs _ (by
    have h1 := Int.natAbs_dvd_natAbs.mpr h
    have h2 := Int.natAbs_dvd_natAbs.mpr (k y (List.mem_cons_self ..))
    exact Int.natAbs_dvd_natAbs.mp (by rw [Int.natAbs_natCast]; exact Nat.dvd_gcd h1 h2)) fun x hx => k x (List.mem_cons_of_mem _ hx)
theorem gcd_loop {a0 a1 a2 a3 a4 a5 a8 a9 : Sl} : ∀ (xs : List Int) (g : Int) (a7 : Sl), (∀ a7, P.N [a0, a1, a2, a3, a4, a5, .d (.int (gcdL g xs)), a7, a8, a9]) →
    forW (vgN 7) (vAsg 6 (vB oGcd (vCons (vVar 6) (vCons (vVar 7) vNil)))) (xs.map .int) [a0, a1, a2, a3, a4, a5, .d (.int g), a7, a8, a9] P
  | [], g, a7, h => h a7
  | x :: xs, g, a7, h => gcd_loop xs _ _ h
theorem mk_ints (n : Nat) (T : Nat → Int) : mk n T = ((List.range n).map T).map .int := by
  unfold mk
  rw [List.map_map]
  rfl
theorem T_normed {A B : Nat → Int} (hn : n ≤ 1000) (hs : ∀ k, k < n → Bd s (A k) ∧ Bd s (B k)) (h9 : s + s ≤ 134217728)
    (h : ∀ (m : Nat) (A' B' : Nat → Int) (c : Cn), m ≤ n → c ≠ 0 → (∀ x, ps x (gA A' B') m = c * ps x (gA A B) n) → Nd m A' B' → (∀ k, k < m → Bd (s + s + 1) (A' k) ∧ Bd (s + s + 1) (B' k)) → Φ (tp m A' B')) :
    F_normed [.list (mk n A), .list (mk n B)] Φ := by
  unfold F_normed mkF b_normed
  refine ⟨rfl, ?_⟩
  refine ⟨n + 1, ?_⟩
  refine strip_loop (a2 := .un) (a3 := .un) (a4 := .un) (a5 := .un) (a6 := .un) (a7 := .un) (a8 := .un) (a9 := .un) (n := n) (fun m hm hx hz => ?_) n (Nat.le_refl _) fun _ => rfl
  cases m with
  | zero =>
    show Φ (.tuple [.list [], .list []])
    have := h 0 A B 1 (by omega) one_ne (fun x => by rw [hx x]; grind) (fun z => absurd z (by decide)) (fun k hk => absurd hk (Nat.not_lt_zero _))
    exact this
  | succ m =>
    have hz2 : ¬ (A m = 0 ∧ B m = 0) := by simpa using hz
    have ne : (mk (m + 1) A).isEmpty = false := by rw [mk_last]; simp
    show ifB (!(!(mk (m + 1) A).isEmpty)) _ _
    rw [ne]
    show oIx (.list (mk (m + 1) A)) (.int (-1)) _
    refine ix_last ?_
    show oIx (.list (mk (m + 1) B)) (.int (-1)) _
    refine ix_last ?_
    refine ⟨rfl, ?_⟩
    obtain ⟨bx, bY⟩ := hs m (by omega)
    generalize hx' : A m = x at *
    generalize hy' : B m = y at *
    let S : Nat → Int := fun k => A k * x + B k * y
    let C : Nat → Int := fun k => B k * x - A k * y
    have bS : ∀ k, k < m + 1 → Bd (s + s + 1) (S k) ∧ Bd (s + s + 1) (C k) := fun k hk => by
      obtain ⟨a1, a2⟩ := hs k (by omega)
      exact ⟨((a1.mul bx).add (a2.mul bY)).mono (by omega), ((a2.mul bx).sub (a1.mul bY)).mono (by omega)⟩
    show _ ∧ lcW _ (ziD (mk (m + 1) A) (mk (m + 1) B)) [] _
    rw [zi_mk]
    refine ⟨by rw [List.length_map, List.length_range, sizeLine_eq]; omega, ?_⟩
    refine lc_map (f := fun k => .int (S k)) (g := fun k => .tuple [.int (A k), .int (B k)]) _ [] (fun k hk K hK => ?_) ?_
    · obtain ⟨a1, a2⟩ := hs k (by have := List.mem_range.mp hk; omega)
      show _ ∧ _ ∧ _ ∧ _
      exact ⟨rfl, mul9 a1 bx (by omega), mul9 a2 bY (by omega), hK⟩
    · rw [List.nil_append]
      show _ ∧ lcW _ (ziD (mk (m + 1) A) (mk (m + 1) B)) [] _
      rw [zi_mk]
      refine ⟨by rw [List.length_map, List.length_range, sizeLine_eq]; omega, ?_⟩
      refine lc_map (f := fun k => .int (C k)) (g := fun k => .tuple [.int (A k), .int (B k)]) _ [] (fun k hk K hK => ?_) ?_
      · obtain ⟨a1, a2⟩ := hs k (by have := List.mem_range.mp hk; omega)
        show _ ∧ _ ∧ _ ∧ _
        exact ⟨rfl, mul9 a2 bx (by omega), mul9 a1 bY (by omega), hK⟩
      · rw [List.nil_append]
        have eS : (List.range (m + 1)).map (fun k => PyData.int (S k)) = mk (m + 1) S := rfl
        have eC : (List.range (m + 1)).map (fun k => PyData.int (C k)) = mk (m + 1) C := rfl
        rw [eS, eC]
        show _ ∧ forW _ _ (mk (m + 1) S ++ mk (m + 1) C) _ _
        refine ⟨by rw [mk_len, mk_len, sizeLine_eq]; omega, ?_⟩
        have e2 : mk (m + 1) S ++ mk (m + 1) C = ((List.range (m + 1)).map S ++ (List.range (m + 1)).map C).map .int := by
          rw [List.map_append, ← mk_ints, ← mk_ints]
        rw [e2]
        refine gcd_loop _ 0 _ fun a7 => ?_
        obtain ⟨g, hg⟩ : ∃ g, g = gcdL 0 ((List.range (m + 1)).map S ++ (List.range (m + 1)).map C) := ⟨_, rfl⟩
        rw [← hg]
        have g0 : 0 ≤ g := by rw [hg]; exact gcdL_nn _ _ (by decide)
        have gd := (gcdL_dvd ((List.range (m + 1)).map S ++ (List.range (m + 1)).map C) 0).2
        rw [← hg] at gd
        have gS : ∀ k, k < m + 1 → g ∣ S k := fun k hk => gd _ (List.mem_append_left _ (List.mem_map.mpr ⟨k, List.mem_range.mpr hk, rfl⟩))
        have gC : ∀ k, k < m + 1 → g ∣ C k := fun k hk => gd _ (List.mem_append_right _ (List.mem_map.mpr ⟨k, List.mem_range.mpr hk, rfl⟩))
        have top : 0 < S m := by
          show 0 < A m * x + B m * y
          rw [hx', hy']
          have q1 : 0 ≤ x * x := by rw [← Int.natAbs_mul_self]; omega
          have q2 : 0 ≤ y * y := by rw [← Int.natAbs_mul_self]; omega
          by_cases e1 : x = 0
          · have e2 : y ≠ 0 := fun e2 => hz2 ⟨e1, e2⟩
            have : y * y ≠ 0 := Int.mul_ne_zero e2 e2
            omega
          · have : x * x ≠ 0 := Int.mul_ne_zero e1 e1
            omega
        have gp : 0 < g := by
          obtain ⟨t, ht⟩ := gS m (by omega)
          rcases Int.lt_or_eq_of_le g0 with h1 | h1
          · exact h1
          · rw [← h1, Int.zero_mul] at ht
            omega
        let A' : Nat → Int := fun k => (S k).fdiv g
        let B' : Nat → Int := fun k => (C k).fdiv g
        have eA : ∀ k, k < m + 1 → S k = g * A' k := fun k hk => by
          obtain ⟨t, ht⟩ := gS k hk
          show S k = g * (S k).fdiv g
          rw [ht, Int.mul_fdiv_cancel_left _ (by omega)]
        have eB : ∀ k, k < m + 1 → C k = g * B' k := fun k hk => by
          obtain ⟨t, ht⟩ := gC k hk
          show C k = g * (C k).fdiv g
          rw [ht, Int.mul_fdiv_cancel_left _ (by omega)]
        show _ ∧ lcW _ (mk (m + 1) S) [] _
        refine ⟨by rw [mk_len, sizeLine_eq]; omega, ?_⟩
        refine lc_map (f := fun k => .int (A' k)) (g := fun k => .int (S k)) (List.range (m + 1)) [] (fun k hk K hK => ?_) ?_
        · show _ ∧ _
          exact ⟨by omega, hK⟩
        · rw [List.nil_append]
          show _ ∧ lcW _ (mk (m + 1) C) [] _
          refine ⟨by rw [mk_len, sizeLine_eq]; omega, ?_⟩
          refine lc_map (f := fun k => .int (B' k)) (g := fun k => .int (C k)) (List.range (m + 1)) [] (fun k hk K hK => ?_) ?_
          · show _ ∧ _
            exact ⟨by omega, hK⟩
          · rw [List.nil_append]
            have gne : gz g 0 ≠ 0 := fun e => by have := (gz_eq.mp e).1; omega
            have xne : gz x (-y) ≠ 0 := fun e => by
              obtain ⟨q1, q2⟩ := gz_eq.mp e
              exact hz2 ⟨q1, by omega⟩
            refine h (m + 1) A' B' (gz x (-y) / gz g 0) hm (fun e => ?_) (fun z => ?_) (fun _ => ⟨?_, ?_, fun c hc => ?_⟩) fun k hk => ?_
            · generalize gz x (-y) = u at *
              generalize gz g 0 = v at *
              grind
            · rw [← hx z, ← ps_smul]
              refine ps_congr _ fun k hk => ?_
              have e3 : gz g 0 * gA A' B' k = gz x (-y) * gA A B k := by
                show gz g 0 * gz (A' k) (B' k) = gz x (-y) * gz (A k) (B k)
                rw [← gz_smul, ← eA k hk, ← eB k hk, gz_mul]
                congr 1
                · show A k * x + B k * y = x * A k - -y * B k
                  grind
                · show B k * x - A k * y = x * B k + -y * A k
                  grind
              generalize gA A' B' k = a at *
              generalize gA A B k = b at *
              generalize gz x (-y) = u at *
              generalize gz g 0 = v at *
              grind
            · have := eA m (by omega)
              rw [this] at top
              exact Int.pos_of_mul_pos_right top (by omega)
            · have := eB m (by omega)
              have e4 : C m = 0 := by
                show B m * x - A m * y = 0
                rw [hx', hy', Int.mul_comm]
                omega
              rw [e4] at this
              rcases Int.mul_eq_zero.mp this.symm with h1 | h1
              · omega
              · exact h1
            · have k1 : g * c ∣ g := by
                conv => rhs; rw [hg]
                refine gcdL_great _ _ (Int.dvd_zero _) fun z hz => ?_
                rcases List.mem_append.mp hz with hz | hz
                · obtain ⟨k, hk, rfl⟩ := List.mem_map.mp hz
                  have hk := List.mem_range.mp hk
                  rw [eA k hk]
                  exact Int.mul_dvd_mul (Int.dvd_refl _) (hc k hk).1
                · obtain ⟨k, hk, rfl⟩ := List.mem_map.mp hz
                  have hk := List.mem_range.mp hk
                  rw [eB k hk]
                  exact Int.mul_dvd_mul (Int.dvd_refl _) (hc k hk).2
              obtain ⟨t, ht⟩ := k1
              refine ⟨t, ?_⟩
              have : g * 1 = g * (c * t) := by rw [Int.mul_one, ← Int.mul_assoc]; exact ht
              exact Int.eq_of_mul_eq_mul_left (by omega) this
            · obtain ⟨b1, b2⟩ := bS k hk
              have sm : ∀ a : Int, a.natAbs ≤ (g * a).natAbs := fun a => by
                rw [Int.natAbs_mul]
                exact Nat.le_mul_of_pos_left _ (by omega)
              exact ⟨Bd.le (sm _) (by rw [← eA k hk]; exact b1), Bd.le (sm _) (by rw [← eB k hk]; exact b2)⟩
end


/-! QBC: the normed rest. -/
theorem ps_shift {x : Cn} {f w : Nat → Cn} {a : Nat} (h0 : ∀ k, k < a → f k = 0) : ∀ (b : Nat), (∀ j, j < b → f (a + j) = w j) → ps x f (a + b) = pw x a * ps x w b
  | 0, _ => by
    rw [Nat.add_zero, ps_zero x f a h0]
    show (0 : Cn) = pw x a * 0
    grind
  | b + 1, h => by
    show ps x f (a + b) + f (a + b) * pw x (a + b) = pw x a * (ps x w b + w b * pw x b)
    rw [ps_shift h0 b (fun j hj => h j (by omega)), h b (by omega), pw_add]
    grind
section
variable {Φ : PyData → Prop} {n m k s b : Nat} {P : Post} {Ψ : List PyData → Prop}
theorem atD_mk {N q : Nat} {T : Nat → Int} {k : Int → Prop} (h : q < N) (hk : k (T q)) : atD (mk N T) q k := by
  unfold atD
  rw [mk_at T h]
  exact hk
def ezi (C D : Nat → Int) (j t : Nat) : List PyData := (List.range t).map fun i => .tuple [.int ((j + i : Nat) : Int), .tuple [.int (C (j + i)), .int (D (j + i))]]
theorem ez_mk (C D : Nat → Int) (b : Nat) : enD (ziD (mk b C) (mk b D)) = ezi C D 0 b := by
  rw [zi_mk]
  unfold enD ezi
  refine List.ext_getElem? fun k => ?_
  by_cases h : k < b
  · rw [List.getElem?_map, List.getElem?_zipIdx, List.getElem?_map, List.getElem?_map, List.getElem?_range h]
    show some (PyData.tuple [.int ((0 + k : Nat) : Int), .tuple [.int (C k), .int (D k)]]) = some (PyData.tuple [.int ((0 + k : Nat) : Int), .tuple [.int (C (0 + k)), .int (D (0 + k))]])
    rw [Nat.zero_add]
  · rw [List.getElem?_eq_none (by simp; omega), List.getElem?_eq_none (by simp; omega)]
theorem ezi_cons (C D : Nat → Int) (j t : Nat) : ezi C D j (t + 1) = .tuple [.int (j : Int), .tuple [.int (C j), .int (D j)]] :: ezi C D (j + 1) t := by
  unfold ezi
  rw [List.range_succ_eq_map, List.map_cons, List.map_map]
  congr 1
  exact List.map_congr_left fun i _ => by
    show PyData.tuple [.int ((j + (i + 1) : Nat) : Int), .tuple [.int (C (j + (i + 1))), .int (D (j + (i + 1)))]] = _
    rw [show j + (i + 1) = j + 1 + i by omega]
def riB : WS := (vSeqS (vAugI 2 (fun i j => i - j) (vOp oSub (vOp oMul (vVar 7) (vVar 13)) (vOp oMul (vVar 8) (vVar 14))) (vOp oAdd (vVar 11) (vVar 12))) (vAugI 3 (fun i j => i - j) (vOp oAdd (vOp oMul (vVar 7) (vVar 14)) (vOp oMul (vVar 8) (vVar 13))) (vOp oAdd (vVar 11) (vVar 12))))
theorem ri_loop {C D : Nat → Int} {x y : Int} {f : Nat} {a : Nat} (bx : Bd f x) (bY : Bd f y) (hC : ∀ k, k < b → Bd s (C k) ∧ Bd s (D k)) (h9 : f + s ≤ 134217728) {a0 a1 a4 a5 a6 a9 a10 a15 : Sl} : ∀ (t j : Nat) (A B : Nat → Int) (a12 a13 a14 : Sl), j + t ≤ b → a + b ≤ n →
    (∀ (A' B' : Nat → Int) (a12 a13 a14 : Sl), (∀ k, A' k = if a + j ≤ k ∧ k < a + j + t then A k - (x * C (k - a) - y * D (k - a)) else A k) → (∀ k, B' k = if a + j ≤ k ∧ k < a + j + t then B k - (x * D (k - a) + y * C (k - a)) else B k) → P.N [a0, a1, .m (mk n A'), .m (mk n B'), a4, a5, a6, .d (.int x), .d (.int y), a9, a10, .d (.int (a : Int)), a12, a13, a14, a15]) →
    forW (vgT 2 (vgCons (vgN 12) (vgCons (vgT 2 (vgCons (vgN 13) (vgCons (vgN 14) vgNil))) vgNil))) riB (ezi C D j t) [a0, a1, .m (mk n A), .m (mk n B), a4, a5, a6, .d (.int x), .d (.int y), a9, a10, .d (.int (a : Int)), a12, a13, a14, a15] P := by
  intro t
  induction t with
  | zero =>
    intro j A B a12 a13 a14 _ _ h
    exact h A B a12 a13 a14 (fun k => by rw [if_neg (by omega)]) fun k => by rw [if_neg (by omega)]
  | succ t ih =>
    intro j A B a12 a13 a14 hj hn h
    rw [ezi_cons]
    obtain ⟨c1, c2⟩ := hC j (by omega)
    have e1 : (a : Int) + (j : Int) = ((a + j : Nat) : Int) := by omega
    have h0 : a + j < n := by omega
    unfold forW
    refine ⟨rfl, ?_⟩
    refine ⟨rfl, ?_⟩
    show match ixN (mk n A).length ((a : Int) + (j : Int)) with | some n => _ | none => False
    rw [e1, mk_len, ixN_nat h0]
    show atD (mk n A) (a + j) _
    refine atD_mk h0 ?_
    show _ ∧ _ ∧ _
    refine ⟨mul9 bx c1 h9, mul9 bY c2 h9, ?_⟩
    show match ixN (mk n B).length ((a : Int) + (j : Int)) with | some n => _ | none => False
    rw [e1, mk_len, ixN_nat h0]
    show atD (mk n B) (a + j) _
    refine atD_mk h0 ?_
    show _ ∧ _ ∧ _
    refine ⟨mul9 bx c2 h9, mul9 bY c1 h9, ?_⟩
    show forW _ riB (ezi C D (j + 1) t) [_, _, .m ((mk n A).set (a + j) (.int (A (a + j) - (x * C j - y * D j)))), .m ((mk n B).set (a + j) (.int (B (a + j) - (x * D j + y * C j)))), _, _, _, _, _, _, _, _, _, _, _, _] P
    rw [mk_put _ _ h0, mk_put _ _ h0]
    refine ih (j + 1) _ _ _ _ _ (by omega) hn fun A' B' a12 a13 a14 h1 h2 => ?_
    refine h A' B' a12 a13 a14 (fun k => ?_) fun k => ?_
    · rw [h1 k]
      by_cases q : k = a + j
      · rw [if_neg (by omega), if_pos q, if_pos (by omega), q, Nat.add_sub_cancel_left]
      · by_cases q2 : a + (j + 1) ≤ k ∧ k < a + (j + 1) + t
        · rw [if_pos q2, if_neg q, if_pos (by omega)]
        · rw [if_neg q2, if_neg q, if_neg (by omega)]
    · rw [h2 k]
      by_cases q : k = a + j
      · rw [if_neg (by omega), if_pos q, if_pos (by omega), q, Nat.add_sub_cancel_left]
      · by_cases q2 : a + (j + 1) ≤ k ∧ k < a + (j + 1) + t
        · rw [if_pos q2, if_neg q, if_pos (by omega)]
        · rw [if_neg q2, if_neg q, if_neg (by omega)]
theorem pop_mk {T : Nat → Int} {K : List PyData → Prop} (h : K (mk m T)) : lastD (mk (m + 1) T) fun _ => K (mk (m + 1) T).dropLast := by
  have e : (mk (m + 1) T).dropLast = mk m T := by rw [mk_last, List.dropLast_concat]
  rw [e, mk_last]
  exact lastD_of h
theorem pop_mkD {T : Nat → Int} {K : PyData → List PyData → Prop} (h : K (.int (T m)) (mk m T)) : lastD (mk (m + 1) T) fun d => K d (mk (m + 1) T).dropLast := by
  have e : (mk (m + 1) T).dropLast = mk m T := by rw [mk_last, List.dropLast_concat]
  rw [e, mk_last]
  exact lastD_of h
def rsT : WS := (vSeqS (vFor (vEZ (vCons (vVar 4) (vCons (vVar 5) vNil))) (vgT 2 (vgCons (vgN 12) (vgCons (vgT 2 (vgCons (vgN 13) (vgCons (vgN 14) vgNil))) vgNil))) riB) (vSeqS (vPop 2) (vPop 3)))
def rsB : WS := (vSeqS (vPar 7 8 (vCons (vIxV 2 (vNeg (vC (.int 1)))) (vCons (vIxV 3 (vNeg (vC (.int 1)))) vNil))) (vSeqS (vAsg 9 (vB oGcd (vCons (vB oGcd (vCons (vVar 7) (vCons (vVar 8) vNil))) (vCons (vVar 6) vNil)))) (vSeqS (vAsgG (vTup (vCons (vOp oDivL (vVar 7) (vVar 9)) (vCons (vOp oDivL (vVar 8) (vVar 9)) (vCons (vOp oDivL (vVar 6) (vVar 9)) vNil)))) (vgT 3 (vgCons (vgN 7) (vgCons (vgN 8) (vgCons (vgN 10) vgNil))))) (vSeqS (vAsg 11 (vOp oSub (vView 2 (vB oLen (vCons (vVar 2) vNil))) (vB oLen (vCons (vVar 4) vNil)))) (vSeqS (vAsgM 2 (vLc [15] (vSeqV 2) (vgN 15) vYes (vOp oMul (vVar 10) (vVar 15)))) (vSeqS (vAsgM 3 (vLc [15] (vSeqV 3) (vgN 15) vYes (vOp oMul (vVar 10) (vVar 15)))) rsT))))))
def rsC : WB := (vViewT 2 (vTest (vOp oGe (vView 2 (vB oLen (vCons (vVar 2) vNil))) (vB oLen (vCons (vVar 4) vNil)))))
/-- what one turn makes -/
def rA (sc x y : Int) (a : Nat) (A C D : Nat → Int) (k : Nat) : Int := if a ≤ k then sc * A k - (x * C (k - a) - y * D (k - a)) else sc * A k
def rB (sc x y : Int) (a : Nat) (B C D : Nat → Int) (k : Nat) : Int := if a ≤ k then sc * B k - (x * D (k - a) + y * C (k - a)) else sc * B k
theorem rest_tail {A B C D : Nat → Int} {sc x y : Int} {f a : Nat} (bx : Bd f x) (bY : Bd f y) (hC : ∀ k, k < b → Bd s (C k) ∧ Bd s (D k)) (h9 : f + s ≤ 134217728) (hn : a + b = m + 1) {a0 a1 a6 a9 a10 a12 a13 a14 a15 : Sl}
    (h : ∀ a12 a13 a14, P.N [a0, a1, .m (mk m (rA sc x y a A C D)), .m (mk m (rB sc x y a B C D)), .d (.list (mk b C)), .d (.list (mk b D)), a6, .d (.int x), .d (.int y), a9, a10, .d (.int (a : Int)), a12, a13, a14, a15]) :
    rsT [a0, a1, .m (mk (m + 1) fun k => sc * A k), .m (mk (m + 1) fun k => sc * B k), .d (.list (mk b C)), .d (.list (mk b D)), a6, .d (.int x), .d (.int y), a9, a10, .d (.int (a : Int)), a12, a13, a14, a15] P := by
  show forW _ riB (enD (ziD (mk b C) (mk b D))) [_, _, _, _, _, _, _, _, _, _, _, _, _, _, _, _] _
  rw [ez_mk]
  refine ri_loop (a := a) bx bY hC h9 b 0 _ _ _ _ _ (by omega) (by omega) fun A' B' a12 a13 a14 h1 h2 => ?_
  show lastD (mk (m + 1) A') fun _ => lastD (mk (m + 1) B') fun _ => P.N [_, _, .m (mk (m + 1) A').dropLast, .m (mk (m + 1) B').dropLast, _, _, _, _, _, _, _, _, _, _, _, _]
  refine pop_mk (K := fun l => lastD (mk (m + 1) B') fun _ => P.N [_, _, .m l, .m (mk (m + 1) B').dropLast, _, _, _, _, _, _, _, _, _, _, _, _]) ?_
  refine pop_mk (K := fun l => P.N [_, _, .m (mk m A'), .m l, _, _, _, _, _, _, _, _, _, _, _, _]) ?_
  have e1 : mk m A' = mk m (rA sc x y a A C D) := by
    unfold mk
    refine List.map_congr_left fun k hk => ?_
    have := List.mem_range.mp hk
    rw [h1 k]
    unfold rA
    by_cases q : a ≤ k
    · rw [if_pos (by omega), if_pos q]
    · rw [if_neg (by omega), if_neg q]
  have e2 : mk m B' = mk m (rB sc x y a B C D) := by
    unfold mk
    refine List.map_congr_left fun k hk => ?_
    have := List.mem_range.mp hk
    rw [h2 k]
    unfold rB
    by_cases q : a ≤ k
    · rw [if_pos (by omega), if_pos q]
    · rw [if_neg (by omega), if_neg q]
  rw [e1, e2]
  exact h _ _ _
theorem rest_step {A B C D : Nat → Int} {l : Int} {f : Nat} (hA : ∀ k, k < m + 1 → Bd f (A k) ∧ Bd f (B k)) (hC : ∀ k, k < b → Bd s (C k) ∧ Bd s (D k)) (bl : Bd s l) (l0 : 0 < l) (h9 : f + s ≤ 134217728) (hb : b ≤ m + 1) (hm : m ≤ 1000) {a0 a1 s2 s3 a7 a8 a9 a10 a11 a12 a13 a14 a15 : Sl}
    (hs : (s2 = .d (.list (mk (m + 1) A)) ∧ s3 = .d (.list (mk (m + 1) B))) ∨ (s2 = .m (mk (m + 1) A) ∧ s3 = .m (mk (m + 1) B)))
    (h : ∀ (x y sc : Int) (g : Int) a7 a8 a9 a10 a11 a12 a13 a14, 0 < g → A m = g * x → B m = g * y → l = g * sc → Bd f x → Bd f y → Bd s sc → P.N [a0, a1, .m (mk m (rA sc x y (m + 1 - b) A C D)), .m (mk m (rB sc x y (m + 1 - b) B C D)), .d (.list (mk b C)), .d (.list (mk b D)), .d (.int l), a7, a8, a9, a10, a11, a12, a13, a14, a15]) :
    rsB [a0, a1, s2, s3, .d (.list (mk b C)), .d (.list (mk b D)), .d (.int l), a7, a8, a9, a10, a11, a12, a13, a14, a15] P := by
  obtain ⟨g, hg⟩ : ∃ g : Int, g = ((Nat.gcd (((Nat.gcd (A m).natAbs (B m).natAbs : Nat) : Int)).natAbs l.natAbs : Nat) : Int) := ⟨_, rfl⟩
  have gn : g ≠ 0 := by rw [hg]; exact gcd_ne _ l (by omega)
  have g0 : 0 < g := by have : 0 ≤ g := by rw [hg]; exact Int.natCast_nonneg _
                        omega
  have d1 : g ∣ ((Nat.gcd (A m).natAbs (B m).natAbs : Nat) : Int) := Int.natAbs_dvd_natAbs.mp (by rw [hg, Int.natAbs_natCast]; exact Nat.gcd_dvd_left _ _)
  have dx : g ∣ A m := Int.dvd_trans d1 (Int.natAbs_dvd_natAbs.mp (by rw [Int.natAbs_natCast]; exact Nat.gcd_dvd_left _ _))
  have dy : g ∣ B m := Int.dvd_trans d1 (Int.natAbs_dvd_natAbs.mp (by rw [Int.natAbs_natCast]; exact Nat.gcd_dvd_right _ _))
  have dl : g ∣ l := Int.natAbs_dvd_natAbs.mp (by rw [hg, Int.natAbs_natCast]; exact Nat.gcd_dvd_right _ _)
  obtain ⟨x, hx⟩ := dx
  obtain ⟨y, hy⟩ := dy
  obtain ⟨sc, hsc⟩ := dl
  have sm : ∀ a : Int, a.natAbs ≤ (g * a).natAbs := fun a => by
    rw [Int.natAbs_mul]
    exact Nat.le_mul_of_pos_left _ (by omega)
  obtain ⟨q1, q2⟩ := hA m (by omega)
  have bx : Bd f x := Bd.le (sm x) (by rw [← hx]; exact q1)
  have bY : Bd f y := Bd.le (sm y) (by rw [← hy]; exact q2)
  have bs : Bd s sc := Bd.le (sm sc) (by rw [← hsc]; exact bl)
  have ex : (A m).fdiv g = x := by rw [hx, Int.mul_fdiv_cancel_left _ gn]
  have ey : (B m).fdiv g = y := by rw [hy, Int.mul_fdiv_cancel_left _ gn]
  have el : l.fdiv g = sc := by rw [hsc, Int.mul_fdiv_cancel_left _ gn]
  have eah : (((mk (m + 1) A).length : Nat) : Int) - (((mk b C).length : Nat) : Int) = ((m + 1 - b : Nat) : Int) := by
    rw [mk_len, mk_len]
    omega
  have key : ∀ a9, rsT [a0, a1, .m (mk (m + 1) fun k => sc * A k), .m (mk (m + 1) fun k => sc * B k), .d (.list (mk b C)), .d (.list (mk b D)), .d (.int l), .d (.int x), .d (.int y), a9, .d (.int sc), .d (.int ((m + 1 - b : Nat) : Int)), a12, a13, a14, a15] P := fun a9 =>
    rest_tail bx bY hC h9 (by omega) fun a12 a13 a14 => h x y sc g _ _ _ _ _ _ _ _ g0 hx hy hsc bx bY bs
  have fin : ∀ a9, _ ∧ lcW (vTurn [15] (vgN 15) vYes (vOp oMul (vVar 10) (vVar 15)) [a0, a1, s2, s3, .d (.list (mk b C)), .d (.list (mk b D)), .d (.int l), .d (.int x), .d (.int y), a9, .d (.int sc), .d (.int ((m + 1 - b : Nat) : Int)), a12, a13, a14, a15]) (mk (m + 1) A) [] fun l1 => _ ∧ lcW (vTurn [15] (vgN 15) vYes (vOp oMul (vVar 10) (vVar 15)) [a0, a1, .m l1, s3, .d (.list (mk b C)), .d (.list (mk b D)), .d (.int l), .d (.int x), .d (.int y), a9, .d (.int sc), .d (.int ((m + 1 - b : Nat) : Int)), a12, a13, a14, a15]) (mk (m + 1) B) [] fun l2 => rsT [a0, a1, .m l1, .m l2, .d (.list (mk b C)), .d (.list (mk b D)), .d (.int l), .d (.int x), .d (.int y), a9, .d (.int sc), .d (.int ((m + 1 - b : Nat) : Int)), a12, a13, a14, a15] P := fun a9 => by
    refine ⟨(show (mk (m + 1) A).length ≤ sizeLine by rw [mk_len, sizeLine_eq]; omega), ?_⟩
    refine lc_map (f := fun k => .int (sc * A k)) (g := fun k => .int (A k)) (List.range (m + 1)) [] (fun k hk K hK => ?_) ?_
    · show _ ∧ _
      exact ⟨mul9 bs (hA k (List.mem_range.mp hk)).1 (by omega), hK⟩
    · refine ⟨(show (mk (m + 1) B).length ≤ sizeLine by rw [mk_len, sizeLine_eq]; omega), ?_⟩
      refine lc_map (f := fun k => .int (sc * B k)) (g := fun k => .int (B k)) (List.range (m + 1)) [] (fun k hk K hK => ?_) ?_
      · show _ ∧ _
        exact ⟨mul9 bs (hA k (List.mem_range.mp hk)).2 (by omega), hK⟩
      · exact key _
  rcases hs with ⟨rfl, rfl⟩ | ⟨rfl, rfl⟩
  · show oIx (.list (mk (m + 1) A)) (.int (-1)) _
    refine ix_last ?_
    show oIx (.list (mk (m + 1) B)) (.int (-1)) _
    refine ix_last ?_
    show _ ∧ _ ∧ _ ∧ _ ∧ _
    rw [← hg]
    refine ⟨gn, gn, gn, rfl, ?_⟩
    rw [ex, ey, el]
    rw [← eah] at fin
    exact fin _
  · show oIx (.list (mk (m + 1) A)) (.int (-1)) _
    refine ix_last ?_
    show oIx (.list (mk (m + 1) B)) (.int (-1)) _
    refine ix_last ?_
    show _ ∧ _ ∧ _ ∧ _ ∧ _ ∧ _
    rw [← hg]
    refine ⟨gn, gn, gn, rfl, rfl, ?_⟩
    rw [ex, ey, el]
    rw [← eah] at fin
    exact fin _
end


/-! QBD: the normed rest: what it comes to. -/
section
variable {Φ : PyData → Prop} {n m k s b : Nat} {P : Post} {Ψ : List PyData → Prop}
theorem gA_step {A B C D : Nat → Int} {sc x y : Int} {a : Nat} (k : Nat) : gA (rA sc x y a A C D) (rB sc x y a B C D) k = gz sc 0 * gA A B k + if a ≤ k then (0 - gz x y) * gA C D (k - a) else 0 := by
  unfold gA rA rB
  by_cases h : a ≤ k
  · rw [if_pos h, if_pos h, if_pos h, Int.sub_eq_add_neg, Int.sub_eq_add_neg (a := sc * B k), gz_add, gz_smul, gz_neg, ← gz_mul]
    grind
  · rw [if_neg h, if_neg h, if_neg h, gz_smul]
    grind
theorem rest_val {A B C D : Nat → Int} {l sc x y g : Int} (b0 : 0 < b) (hb : b ≤ m + 1) (hl : l = C (b - 1)) (hD : D (b - 1) = 0) (hx : A m = g * x) (hy : B m = g * y) (hsc : l = g * sc) (X : Cn) :
    ps X (gA (rA sc x y (m + 1 - b) A C D) (rB sc x y (m + 1 - b) B C D)) m = gz sc 0 * ps X (gA A B) (m + 1) + (pw X (m + 1 - b) * (0 - gz x y)) * ps X (gA C D) b := by
  have e0 : gA (rA sc x y (m + 1 - b) A C D) (rB sc x y (m + 1 - b) B C D) m = 0 := by
    unfold gA rA rB
    rw [if_pos (by omega), if_pos (by omega), show m - (m + 1 - b) = b - 1 by omega, ← hl, hD, hx, hy, hsc]
    refine gz_eq.mpr ⟨?_, ?_⟩
    · grind
    · grind
  have e1 : ps X (gA (rA sc x y (m + 1 - b) A C D) (rB sc x y (m + 1 - b) B C D)) m = ps X (gA (rA sc x y (m + 1 - b) A C D) (rB sc x y (m + 1 - b) B C D)) (m + 1) := by
    show _ = ps X (gA (rA sc x y (m + 1 - b) A C D) (rB sc x y (m + 1 - b) B C D)) m + gA (rA sc x y (m + 1 - b) A C D) (rB sc x y (m + 1 - b) B C D) m * pw X m
    rw [e0]
    grind
  rw [e1, ps_congr (m + 1) (fun k _ => gA_step (A := A) (B := B) (C := C) (D := D) (sc := sc) (x := x) (y := y) (a := m + 1 - b) k), ps_add, ps_smul]
  have e2 : ps X (fun k => if m + 1 - b ≤ k then (0 - gz x y) * gA C D (k - (m + 1 - b)) else 0) (m + 1 - b + b) = pw X (m + 1 - b) * ps X (fun j => (0 - gz x y) * gA C D j) b :=
    ps_shift (fun k hk => if_neg (by omega)) b fun j hj => by rw [if_pos (by omega), Nat.add_sub_cancel_left]
  rw [show m + 1 - b + b = m + 1 by omega, ps_smul] at e2
  rw [e2]
  grind
theorem rest_loop {C D : Nat → Int} {l : Int} {n0 E : Nat} {V : Cn → Cn} (b0 : 0 < b) (hl : l = C (b - 1)) (hD : D (b - 1) = 0) (l0 : 0 < l) (bl : Bd s l) (hC : ∀ k, k < b → Bd s (C k) ∧ Bd s (D k)) (hE : E ≤ 134217728) (hn0 : n0 ≤ 1000) {a0 a1 a15 : Sl}
    (hP : ∀ (m : Nat) (A B : Nat → Int) (α : Cn) (β : Cn → Cn) (s2 s3 a7 a8 a9 a10 a11 a12 a13 a14 : Sl), m < b → m ≤ n0 → α ≠ 0 → IsP β → (∀ x, ps x (gA A B) m = α * V x + β x * ps x (gA C D) b) → (∀ k, k < m → Bd E (A k) ∧ Bd E (B k)) →
      ((s2 = .d (.list (mk m A)) ∧ s3 = .d (.list (mk m B))) ∨ (s2 = .m (mk m A) ∧ s3 = .m (mk m B))) → P.N [a0, a1, s2, s3, .d (.list (mk b C)), .d (.list (mk b D)), .d (.int l), a7, a8, a9, a10, a11, a12, a13, a14, a15]) :
    ∀ (n : Nat) (A B : Nat → Int) (f : Nat) (α : Cn) (β : Cn → Cn) (s2 s3 a7 a8 a9 a10 a11 a12 a13 a14 : Sl), n ≤ n0 → f + (n + 1 - b) * (s + 2) ≤ E → (∀ k, k < n → Bd f (A k) ∧ Bd f (B k)) → α ≠ 0 → IsP β → (∀ x, ps x (gA A B) n = α * V x + β x * ps x (gA C D) b) →
      ((s2 = .d (.list (mk n A)) ∧ s3 = .d (.list (mk n B))) ∨ (s2 = .m (mk n A) ∧ s3 = .m (mk n B))) →
      whW rsC rsB (n + 1) [a0, a1, s2, s3, .d (.list (mk b C)), .d (.list (mk b D)), .d (.int l), a7, a8, a9, a10, a11, a12, a13, a14, a15] P := by
  intro n
  induction n with
  | zero =>
    intro A B f α β s2 s3 a7 a8 a9 a10 a11 a12 a13 a14 hn hf hA hα hβ hv hs
    have z := hP 0 A B α β s2 s3 a7 a8 a9 a10 a11 a12 a13 a14 b0 hn hα hβ hv (fun k hk => absurd hk (Nat.not_lt_zero _)) hs
    unfold whW
    rcases hs with ⟨rfl, rfl⟩ | ⟨rfl, rfl⟩
    · show ifB (decide ((((mk b C).length : Nat) : Int) ≤ (((mk 0 A).length : Nat) : Int))) _ _
      rw [mk_len, mk_len, decide_eq_false (by omega)]
      exact z
    · show ifB (decide ((((mk b C).length : Nat) : Int) ≤ (((mk 0 A).length : Nat) : Int))) _ _
      rw [mk_len, mk_len, decide_eq_false (by omega)]
      exact z
  | succ m ih =>
    intro A B f α β s2 s3 a7 a8 a9 a10 a11 a12 a13 a14 hn hf hA hα hβ hv hs
    by_cases hb : b ≤ m + 1
    · have e1 : (m + 1 + 1 - b) * (s + 2) = (m + 1 - b) * (s + 2) + (s + 2) := by rw [show m + 1 + 1 - b = (m + 1 - b) + 1 by omega, Nat.succ_mul]
      have st : rsB [a0, a1, s2, s3, .d (.list (mk b C)), .d (.list (mk b D)), .d (.int l), a7, a8, a9, a10, a11, a12, a13, a14, a15] ⟨fun E2 => whW rsC rsB (m + 1) E2 P, P.R, P.N, fun E2 => whW rsC rsB (m + 1) E2 P⟩ := by
        refine rest_step (f := f) hA hC bl l0 (by omega) hb (by omega) hs fun x y sc g a7 a8 a9 a10 a11 a12 a13 a14 g0 hx hy hsc bx bY bs => ?_
        have scn : gz sc 0 ≠ 0 := fun e => by
          have := (gz_eq.mp e).1
          rw [this, Int.mul_zero] at hsc
          omega
        refine ih _ _ (f + s + 2) (gz sc 0 * α) (fun X => gz sc 0 * β X + pw X (m + 1 - b) * (0 - gz x y)) _ _ _ _ _ _ _ _ _ _ (by omega) (by omega) (fun k hk => ?_) (mul_ne' scn hα) (((isp_const _).mul hβ).add ((isp_pw _).mul (isp_const _))) (fun X => ?_) (Or.inr ⟨rfl, rfl⟩)
        · obtain ⟨u1, u2⟩ := hA k (by omega)
          unfold rA rB
          by_cases q : m + 1 - b ≤ k
          · obtain ⟨v1, v2⟩ := hC (k - (m + 1 - b)) (by omega)
            rw [if_pos q, if_pos q]
            exact ⟨((bs.mul u1).sub ((bx.mul v1).sub (bY.mul v2))).mono (by omega), ((bs.mul u2).sub ((bx.mul v2).add (bY.mul v1))).mono (by omega)⟩
          · rw [if_neg q, if_neg q]
            exact ⟨(bs.mul u1).mono (by omega), (bs.mul u2).mono (by omega)⟩
        · rw [rest_val b0 hb hl hD hx hy hsc X, hv X]
          grind
      unfold whW
      rcases hs with ⟨rfl, rfl⟩ | ⟨rfl, rfl⟩
      · show ifB (decide ((((mk b C).length : Nat) : Int) ≤ (((mk (m + 1) A).length : Nat) : Int))) _ _
        rw [mk_len, mk_len, decide_eq_true (by omega)]
        exact st
      · show ifB (decide ((((mk b C).length : Nat) : Int) ≤ (((mk (m + 1) A).length : Nat) : Int))) _ _
        rw [mk_len, mk_len, decide_eq_true (by omega)]
        exact st
    · have z := hP (m + 1) A B α β s2 s3 a7 a8 a9 a10 a11 a12 a13 a14 (by omega) hn hα hβ hv (fun k hk => ⟨(hA k hk).1.mono (by omega), (hA k hk).2.mono (by omega)⟩) hs
      unfold whW
      rcases hs with ⟨rfl, rfl⟩ | ⟨rfl, rfl⟩
      · show ifB (decide ((((mk b C).length : Nat) : Int) ≤ (((mk (m + 1) A).length : Nat) : Int))) _ _
        rw [mk_len, mk_len, decide_eq_false (by omega)]
        exact z
      · show ifB (decide ((((mk b C).length : Nat) : Int) ≤ (((mk (m + 1) A).length : Nat) : Int))) _ _
        rw [mk_len, mk_len, decide_eq_false (by omega)]
        exact z
theorem T_normed_rest {A B C D : Nat → Int} {f E : Nat} (b0 : 0 < b) (nC : Nd b C D) (hn : n ≤ 1000) (hA : ∀ k, k < n → Bd f (A k) ∧ Bd f (B k)) (hC : ∀ k, k < b → Bd s (C k) ∧ Bd s (D k)) (hE : f + (n + 1 - b) * (s + 2) ≤ E) (h9 : E + E ≤ 134217728)
    (h : ∀ (m : Nat) (A' B' : Nat → Int) (α : Cn) (β : Cn → Cn), m < b → m ≤ n → α ≠ 0 → IsP β → (∀ x, ps x (gA A' B') m = α * ps x (gA A B) n + β x * ps x (gA C D) b) → Nd m A' B' → (∀ k, k < m → Bd (E + E + 1) (A' k) ∧ Bd (E + E + 1) (B' k)) → Φ (tp m A' B')) :
    F_normed_rest [tp n A B, tp b C D] Φ := by
  unfold F_normed_rest mkF b_normed_rest
  refine ⟨rfl, ?_⟩
  refine ⟨rfl, ?_⟩
  refine ⟨rfl, ?_⟩
  obtain ⟨l0, hD, _⟩ := nC b0
  obtain ⟨c, rfl⟩ : ∃ c, b = c + 1 := ⟨b - 1, by omega⟩
  show oIx (.list (mk (c + 1) C)) (.int (-1)) _
  refine ix_last ?_
  refine ⟨n + 1, ?_⟩
  refine rest_loop (l := C c) (E := E) (V := fun x => ps x (gA A B) n) b0 rfl hD l0 (hC c (by omega)).1 hC (by omega) hn (fun m A' B' α β s2 s3 a7 a8 a9 a10 a11 a12 a13 a14 h1 h2 h3 h4 h5 h6 h7 => ?_) n A B f 1 (fun _ => 0) _ _ _ _ _ _ _ _ _ _ (Nat.le_refl _) hE hA one_ne (isp_const 0) (fun x => by grind) (Or.inl ⟨rfl, rfl⟩)
  have key : F_normed [.list (mk m A'), .list (mk m B')] Φ := T_normed (s := E) (by omega) h6 h9 fun m2 A2 B2 c2 g1 g2 g3 g4 g5 => by
    refine h m2 A2 B2 (c2 * α) (fun x => c2 * β x) (by omega) (by omega) (mul_ne' g2 h3) ((isp_const _).mul h4) (fun x => ?_) g4 g5
    rw [g3, h5]
    grind
  rcases h7 with ⟨rfl, rfl⟩ | ⟨rfl, rfl⟩
  · exact key
  · exact key
end


/-! QBE: rests by the prime: who sees no root in common tells the truth. -/
abbrev pP : Int := 2305843009213693921
abbrev pT : Int := 583529827753931384
def es (t : Int) (f : Nat → Int) : Nat → Int
  | 0 => 0
  | n + 1 => es t f n + f n * t ^ n
theorem es_lin (t u v : Int) (f g : Nat → Int) : ∀ n, es t (fun k => u * f k - v * g k) n = u * es t f n - v * es t g n
  | 0 => by show (0 : Int) = u * 0 - v * 0; omega
  | n + 1 => by
    show es t (fun k => u * f k - v * g k) n + (u * f n - v * g n) * t ^ n = u * (es t f n + f n * t ^ n) - v * (es t g n + g n * t ^ n)
    rw [es_lin t u v f g n]
    grind
theorem es_zero (t : Int) (f : Nat → Int) : ∀ n, (∀ k, k < n → f k = 0) → es t f n = 0
  | 0, _ => rfl
  | n + 1, h => by
    show es t f n + f n * t ^ n = 0
    rw [es_zero t f n (fun k hk => h k (by omega)), h n (by omega)]
    omega
theorem es_shift {t : Int} {f w : Nat → Int} {a : Nat} (h0 : ∀ k, k < a → f k = 0) : ∀ (b : Nat), (∀ j, j < b → f (a + j) = w j) → es t f (a + b) = t ^ a * es t w b
  | 0, _ => by
    rw [Nat.add_zero, es_zero t f a h0]
    show (0 : Int) = t ^ a * 0
    omega
  | b + 1, h => by
    show es t f (a + b) + f (a + b) * t ^ (a + b) = t ^ a * (es t w b + w b * t ^ b)
    rw [es_shift h0 b (fun j hj => h j (by omega)), h b (by omega), Int.pow_add]
    grind
theorem es_cong {p t : Int} {f g : Nat → Int} : ∀ (n : Nat), (∀ k, k < n → p ∣ f k - g k) → p ∣ es t f n - es t g n
  | 0, _ => ⟨0, by show (0 : Int) - 0 = p * 0; omega⟩
  | n + 1, h => by
    obtain ⟨u, hu⟩ := es_cong (t := t) n fun k hk => h k (by omega)
    obtain ⟨v, hv⟩ := h n (by omega)
    refine ⟨u + v * t ^ n, ?_⟩
    show es t f n + f n * t ^ n - (es t g n + g n * t ^ n) = _
    grind
theorem mod_cong (a p : Int) : p ∣ a % p - a := ⟨-(a / p), by have := Int.emod_add_mul_ediv a p; grind⟩
def In (x : Int) : Prop := 0 ≤ x ∧ x < pP
theorem in_mod (x : Int) : In (x % pP) := ⟨Int.emod_nonneg _ (by decide), Int.emod_lt_of_pos _ (by decide)⟩
theorem In.bd {x : Int} (h : In x) : Bd 62 x := by
  obtain ⟨h1, h2⟩ := h
  unfold Bd
  have : (2 : Nat) ^ 62 = 4611686018427387904 := by decide
  rw [this]
  unfold pP at h2
  omega
section
variable {Φ : PyData → Prop} {n m k s b : Nat} {P : Post} {Ψ : List PyData → Prop}
def pz (A B : Nat → Int) (k : Nat) : Int := (A k + B k * pT) % pP
theorem T_by_prime {A B : Nat → Int} (hn : n ≤ 1000) (hA : ∀ k, k < n → Bd s (A k) ∧ Bd s (B k)) (h9 : s + 100 ≤ 134217728) (h : Φ (.list (mk n (pz A B)))) : F_by_prime [tp n A B] Φ := by
  unfold F_by_prime mkF b_by_prime
  refine ⟨rfl, ?_⟩
  show _ ∧ lcW _ (ziD (mk n A) (mk n B)) [] _
  rw [zi_mk]
  refine ⟨by rw [List.length_map, List.length_range, sizeLine_eq]; omega, ?_⟩
  refine lc_map (f := fun k => .int (pz A B k)) (g := fun k => .tuple [.int (A k), .int (B k)]) _ [] (fun k hk K hK => ?_) ?_
  · obtain ⟨a1, a2⟩ := hA k (List.mem_range.mp hk)
    have bT : Bd 62 pT := by unfold Bd; decide
    show _ ∧ _ ∧ _ ∧ _
    exact ⟨rfl, mul9 a2 bT (by omega), by decide, hK⟩
  · exact h
def ein (Q : Nat → Int) (j t : Nat) : List PyData := (List.range t).map fun i => .tuple [.int ((j + i : Nat) : Int), .int (Q (j + i))]
theorem en_mk (Q : Nat → Int) (b : Nat) : enD (mk b Q) = ein Q 0 b := by
  unfold enD ein
  refine List.ext_getElem? fun k => ?_
  by_cases h : k < b
  · rw [List.getElem?_map, List.getElem?_zipIdx, mk_at _ h, List.getElem?_map, List.getElem?_range h]
    show some (PyData.tuple [.int ((0 + k : Nat) : Int), .int (Q k)]) = some (PyData.tuple [.int ((0 + k : Nat) : Int), .int (Q (0 + k))])
    rw [Nat.zero_add]
  · rw [List.getElem?_eq_none (by simp [mk_len]; omega), List.getElem?_eq_none (by simp; omega)]
theorem ein_cons (Q : Nat → Int) (j t : Nat) : ein Q j (t + 1) = .tuple [.int (j : Int), .int (Q j)] :: ein Q (j + 1) t := by
  unfold ein
  rw [List.range_succ_eq_map, List.map_cons, List.map_map]
  congr 1
  exact List.map_congr_left fun i _ => by
    show PyData.tuple [.int ((j + (i + 1) : Nat) : Int), .int (Q (j + (i + 1)))] = _
    rw [show j + (i + 1) = j + 1 + i by omega]
def prI : WS := (vSetI 2 (vOp oMod (vOp oSub (vIxV 2 (vOp oAdd (vVar 4) (vVar 5))) (vOp oMul (vVar 3) (vVar 6))) (vC c_PRIME)) (vOp oAdd (vVar 4) (vVar 5)))
theorem pr_loop {Q : Nat → Int} {x : Int} {a c : Nat} (bx : Bd 62 x) (hQ : ∀ k, k < c → Bd 62 (Q k)) {a0 a1 : Sl} : ∀ (t j : Nat) (R : Nat → Int) (a5 a6 : Sl), j + t ≤ c → a + c ≤ n →
    (∀ (R' : Nat → Int) (a5 a6 : Sl), (∀ k, R' k = if a + j ≤ k ∧ k < a + j + t then (R k - x * Q (k - a)) % pP else R k) → P.N [a0, a1, .m (mk n R'), .d (.int x), .d (.int (a : Int)), a5, a6]) →
    forW (vgT 2 (vgCons (vgN 5) (vgCons (vgN 6) vgNil))) prI (ein Q j t) [a0, a1, .m (mk n R), .d (.int x), .d (.int (a : Int)), a5, a6] P := by
  intro t
  induction t with
  | zero =>
    intro j R a5 a6 _ _ h
    exact h R a5 a6 (fun k => by rw [if_neg (by omega)])
  | succ t ih =>
    intro j R a5 a6 hj hn h
    rw [ein_cons]
    have c1 := hQ j (by omega)
    have e1 : (a : Int) + (j : Int) = ((a + j : Nat) : Int) := by omega
    have h0 : a + j < n := by omega
    unfold forW
    refine ⟨rfl, ?_⟩
    show oIx (.tuple (mk n R)) (.int ((a : Int) + (j : Int))) _
    rw [e1]
    refine ix_nat (mk_at R h0) ?_
    show _ ∧ _ ∧ (match ixN (mk n R).length ((a : Int) + (j : Int)) with | some n => _ | none => False)
    rw [e1, mk_len, ixN_nat h0]
    refine ⟨mul9 bx c1 (by decide), by decide, ?_⟩
    show forW _ prI (ein Q (j + 1) t) [_, _, .m ((mk n R).set (a + j) (.int ((R (a + j) - x * Q j) % pP))), _, _, _, _] P
    rw [mk_put _ _ h0]
    refine ih (j + 1) _ _ _ (by omega) hn fun R' a5 a6 h1 => ?_
    refine h R' a5 a6 (fun k => ?_)
    rw [h1 k]
    by_cases q : k = a + j
    · rw [if_neg (by omega), if_pos q, if_pos (by omega), q, Nat.add_sub_cancel_left]
    · by_cases q2 : a + (j + 1) ≤ k ∧ k < a + (j + 1) + t
      · rw [if_pos q2, if_neg q, if_pos (by omega)]
      · rw [if_neg q2, if_neg q, if_neg (by omega)]
def prB : WS := (vSeqS (vPopA 2 3) (vSeqS (vAsg 4 (vOp oSub (vOp oAdd (vView 2 (vB oLen (vCons (vVar 2) vNil))) (vC (.int 1))) (vB oLen (vCons (vVar 1) vNil)))) (vSeqS (vAsgM 2 (vLc [6] (vSeqV 2) (vgN 6) vYes (vOp oMod (vOp oMul (vVar 6) (vOp oIx (vVar 1) (vNeg (vC (.int 1))))) (vC c_PRIME)))) (vFor (vEnumA (vCons (vSl (vVar 1) (fun _ Θ => Θ none) (vPart (vNeg (vC (.int 1))))) vNil)) (vgT 2 (vgCons (vgN 5) (vgCons (vgN 6) vgNil))) prI))))
def prC : WB := (vViewT 2 (vTest (vOp oGe (vView 2 (vB oLen (vCons (vVar 2) vNil))) (vB oLen (vCons (vVar 1) vNil)))))
theorem pr_step {R Q : Nat → Int} {c : Nat} (hR : ∀ k, k < m + 1 → In (R k)) (hQ : ∀ k, k < c + 1 → In (Q k)) (hc : c ≤ m) (hm : m ≤ 1000) {a0 a3 a4 a5 a6 : Sl}
    (h : ∀ (R' : Nat → Int) a3 a4 a5 a6, (∀ k, k < m → In (R' k)) → (∀ t, pP ∣ es t R (m + 1) → pP ∣ es t Q (c + 1) → pP ∣ es t R' m) → P.N [a0, .d (.list (mk (c + 1) Q)), .m (mk m R'), a3, a4, a5, a6]) :
    prB [a0, .d (.list (mk (c + 1) Q)), .m (mk (m + 1) R), a3, a4, a5, a6] P := by
  have ea : (((mk m R).length : Nat) : Int) + 1 - (((mk (c + 1) Q).length : Nat) : Int) = ((m - c : Nat) : Int) := by
    rw [mk_len, mk_len]
    omega
  have main : forW (vgT 2 (vgCons (vgN 5) (vgCons (vgN 6) vgNil))) prI (enD (cutD (mk (c + 1) Q) none (some (-1)))) [a0, .d (.list (mk (c + 1) Q)), .m (mk m fun k => (R k * Q c) % pP), .d (.int (R m)), .d (.int ((m - c : Nat) : Int)), a5, a6] P := by
    rw [cut_back, en_mk]
    refine pr_loop (a := m - c) (c := c) (hR m (by omega)).bd (fun k hk => (hQ k (by omega)).bd) c 0 _ _ _ (by omega) (by omega) fun R' a5 a6 h1 => ?_
    refine h R' _ _ _ _ (fun k hk => ?_) fun t k1 k2 => ?_
    · rw [h1 k]
      split
      · exact in_mod _
      · exact in_mod _
    · -- the full row of m + 1 places
      obtain ⟨a, ha⟩ : ∃ a, a = m - c := ⟨_, rfl⟩
      rw [← ha] at h1
      have s1 : pP ∣ es t R' m - es t (fun k => Q c * R k - R m * (if a ≤ k then Q (k - a) else 0)) m := es_cong m fun k hk => by
        rw [h1 k]
        by_cases q : a ≤ k
        · rw [if_pos (by omega), if_pos q]
          obtain ⟨u, hu⟩ := mod_cong (R k * Q c % pP - R m * Q (k - a)) pP
          obtain ⟨v, hv⟩ := mod_cong (R k * Q c) pP
          exact ⟨u + v, by grind⟩
        · rw [if_neg (by omega), if_neg q]
          obtain ⟨v, hv⟩ := mod_cong (R k * Q c) pP
          exact ⟨v, by grind⟩
      have s2 : es t (fun k => Q c * R k - R m * (if a ≤ k then Q (k - a) else 0)) m = es t (fun k => Q c * R k - R m * (if a ≤ k then Q (k - a) else 0)) (m + 1) := by
        show _ = es t (fun k => Q c * R k - R m * (if a ≤ k then Q (k - a) else 0)) m + (Q c * R m - R m * (if a ≤ m then Q (m - a) else 0)) * t ^ m
        rw [if_pos (by omega), show m - a = c by omega]
        grind
      have s3 : es t (fun k => if a ≤ k then Q (k - a) else 0) (a + (c + 1)) = t ^ a * es t Q (c + 1) := es_shift (fun k hk => if_neg (by omega)) (c + 1) fun j hj => by
        rw [if_pos (by omega), Nat.add_sub_cancel_left]
      rw [s2, es_lin, show m + 1 = a + (c + 1) by omega, s3, show a + (c + 1) = m + 1 by omega] at s1
      obtain ⟨u, hu⟩ := s1
      obtain ⟨v, hv⟩ := k1
      obtain ⟨w, hw⟩ := k2
      rw [hv, hw] at hu
      exact ⟨u + Q c * v - R m * (t ^ a * w), by grind⟩
  show lastD (mk (m + 1) R) fun d => _
  refine pop_mkD (K := fun d l => vSeqS (vAsg 4 (vOp oSub (vOp oAdd (vView 2 (vB oLen (vCons (vVar 2) vNil))) (vC (.int 1))) (vB oLen (vCons (vVar 1) vNil)))) (vSeqS (vAsgM 2 (vLc [6] (vSeqV 2) (vgN 6) vYes (vOp oMod (vOp oMul (vVar 6) (vOp oIx (vVar 1) (vNeg (vC (.int 1))))) (vC c_PRIME)))) (vFor (vEnumA (vCons (vSl (vVar 1) (fun _ Θ => Θ none) (vPart (vNeg (vC (.int 1))))) vNil)) (vgT 2 (vgCons (vgN 5) (vgCons (vgN 6) vgNil))) prI)) [a0, .d (.list (mk (c + 1) Q)), .m l, .d d, a4, a5, a6] P) ?_
  rw [← ea] at main
  refine ⟨rfl, ?_⟩
  show _ ∧ lcW _ (mk m R) [] _
  refine ⟨by rw [mk_len, sizeLine_eq]; omega, ?_⟩
  refine lc_map (f := fun k => .int ((R k * Q c) % pP)) (g := fun k => .int (R k)) (List.range m) [] (fun k hk K hK => ?_) ?_
  · show oIx (.list (mk (c + 1) Q)) (.int (-1)) _
    refine ix_last ?_
    show _ ∧ _ ∧ _
    exact ⟨mul9 (hR k (by have := List.mem_range.mp hk; omega)).bd (hQ c (by omega)).bd (by decide), by decide, hK⟩
  · exact main
end


/-! QBF: rests by the prime, to their end. -/
section
variable {Φ : PyData → Prop} {n m k s b : Nat} {P : Post} {Ψ : List PyData → Prop}
theorem prest_loop {Q R0 : Nat → Int} {n0 c : Nat} (hQ : ∀ k, k < c + 1 → In (Q k)) (hn0 : n0 ≤ 1000) {a0 : Sl}
    (hP : ∀ (m : Nat) (R : Nat → Int) a3 a4 a5 a6, m ≤ c → (∀ k, k < m → In (R k)) → (∀ t, pP ∣ es t R0 n0 → pP ∣ es t Q (c + 1) → pP ∣ es t R m) → P.N [a0, .d (.list (mk (c + 1) Q)), .m (mk m R), a3, a4, a5, a6]) :
    ∀ (n : Nat) (R : Nat → Int) a3 a4 a5 a6, n ≤ n0 → (∀ k, k < n → In (R k)) → (∀ t, pP ∣ es t R0 n0 → pP ∣ es t Q (c + 1) → pP ∣ es t R n) →
      whW prC prB (n + 1) [a0, .d (.list (mk (c + 1) Q)), .m (mk n R), a3, a4, a5, a6] P := by
  intro n
  induction n with
  | zero =>
    intro R a3 a4 a5 a6 hn hR ht
    have z := hP 0 R a3 a4 a5 a6 (by omega) hR ht
    unfold whW
    show ifB (decide ((((mk (c + 1) Q).length : Nat) : Int) ≤ (((mk 0 R).length : Nat) : Int))) _ _
    rw [mk_len, mk_len, decide_eq_false (by omega)]
    exact z
  | succ m ih =>
    intro R a3 a4 a5 a6 hn hR ht
    unfold whW
    show ifB (decide ((((mk (c + 1) Q).length : Nat) : Int) ≤ (((mk (m + 1) R).length : Nat) : Int))) _ _
    by_cases hb : c ≤ m
    · have st : prB [a0, .d (.list (mk (c + 1) Q)), .m (mk (m + 1) R), a3, a4, a5, a6] ⟨fun E2 => whW prC prB (m + 1) E2 P, P.R, P.N, fun E2 => whW prC prB (m + 1) E2 P⟩ :=
        pr_step hR hQ hb (by omega) fun R' a3 a4 a5 a6 h1 h2 => ih R' a3 a4 a5 a6 (by omega) h1 fun t k1 k2 => h2 t (ht t k1 k2) k2
      rw [mk_len, mk_len, decide_eq_true (by omega)]
      exact st
    · have z := hP (m + 1) R a3 a4 a5 a6 (by omega) hR ht
      rw [mk_len, mk_len, decide_eq_false (by omega)]
      exact z
def psC : WB := (vAnd (vTruV 2) (vTest (vOp oEq (vIxV 2 (vNeg (vC (.int 1)))) (vC (.int 0)))))
theorem pstrip_loop {R : Nat → Int} {a0 a1 a3 a4 a5 a6 : Sl} (hP : ∀ m, m ≤ n → (∀ t, es t R m = es t R n) → (0 < m → R (m - 1) ≠ 0) → P.N [a0, a1, .m (mk m R), a3, a4, a5, a6]) : ∀ m, m ≤ n → (∀ t, es t R m = es t R n) →
    whW psC (vPop 2) (m + 1) [a0, a1, .m (mk m R), a3, a4, a5, a6] P := by
  intro m
  induction m with
  | zero =>
    intro h1 h2
    unfold whW
    show P.N _
    exact hP 0 h1 h2 fun h => absurd h (by decide)
  | succ m ih =>
    intro h1 h2
    unfold whW
    show ifB (!(mk (m + 1) R).isEmpty) _ _
    have ne : (mk (m + 1) R).isEmpty = false := by rw [mk_last]; simp
    rw [ne]
    show oIx (.list (mk (m + 1) R)) (.int (-1)) _
    refine ix_last ?_
    show ifB (decide (R m = 0)) _ _
    by_cases h : R m = 0
    · rw [decide_eq_true h]
      refine pop_mk (K := fun l => whW psC (vPop 2) (m + 1) [a0, a1, .m l, a3, a4, a5, a6] P) ?_
      refine ih (by omega) fun t => ?_
      rw [← h2 t]
      show _ = es t R m + R m * t ^ m
      rw [h]
      omega
    · rw [decide_eq_false h]
      exact hP (m + 1) h1 h2 fun _ => h
theorem T_prime_rest {R Q : Nat → Int} {c : Nat} (hn : n ≤ 1000) (hR : ∀ k, k < n → In (R k)) (hQ : ∀ k, k < c + 1 → In (Q k))
    (h : ∀ (r : Nat) (R' : Nat → Int), r ≤ c → (∀ k, k < r → In (R' k)) → (0 < r → R' (r - 1) ≠ 0) → (∀ t, pP ∣ es t R n → pP ∣ es t Q (c + 1) → pP ∣ es t R' r) → Φ (.list (mk r R'))) :
    F_prime_rest [.list (mk n R), .list (mk (c + 1) Q)] Φ := by
  unfold F_prime_rest mkF b_prime_rest
  refine ⟨rfl, ?_⟩
  refine ⟨n + 1, ?_⟩
  refine prest_loop (R0 := R) (n0 := n) hQ hn (fun m R1 a3 a4 a5 a6 h1 h2 h3 => ?_) n R _ _ _ _ (Nat.le_refl _) hR fun t k1 _ => k1
  refine ⟨m + 1, ?_⟩
  refine pstrip_loop (n := m) (fun m2 g1 g2 g3 => ?_) m (Nat.le_refl _) fun _ => rfl
  refine h m2 R1 (by omega) (fun k hk => h2 k (by omega)) g3 fun t k1 k2 => ?_
  rw [g2 t]
  exact h3 t k1 k2
theorem apart_loop {R0 Q0 : Nat → Int} {n0 m0 : Nat} {a0 a1 : Sl}
    (hP : ∀ (m : Nat) (R : Bool) D q, (q = .d (.list D)) → ((D.length = 1) = true → ∀ t, ¬ (pP ∣ es t R0 n0 ∧ pP ∣ es t Q0 m0)) → D.length ≤ 1000 → ∀ p, P.N [a0, a1, p, q]) :
    ∀ (f m n : Nat) (R Q : Nat → Int), m ≤ f → m ≤ 1000 → n ≤ 1000 → (∀ k, k < n → In (R k)) → (∀ k, k < m → In (Q k)) → (0 < m → Q (m - 1) ≠ 0) → (∀ t, pP ∣ es t R0 n0 → pP ∣ es t Q0 m0 → pP ∣ es t R n ∧ pP ∣ es t Q m) →
      whW (vTest (vOp oGt (vB oLen (vCons (vVar 3) vNil)) (vC (.int 1)))) (vPar 2 3 (vCons (vVar 3) (vCons (vCall F_prime_rest (vCons (vVar 2) (vCons (vVar 3) vNil))) vNil))) (f + 1) [a0, a1, .d (.list (mk n R)), .d (.list (mk m Q))] P := by
  intro f
  induction f with
  | zero =>
    intro m n R Q hm hm1 hn1 hR hQ hl ht
    have : m = 0 := by omega
    subst this
    unfold whW
    exact hP 0 true _ _ rfl (fun h => by simp [mk_len] at h) (by rw [mk_len]; omega) _
  | succ f ih =>
    intro m n R Q hm hm1 hn1 hR hQ hl ht
    unfold whW
    show ifB (decide (1 < (((mk m Q).length : Nat) : Int))) _ _
    rw [mk_len]
    by_cases h1 : 1 < m
    · rw [decide_eq_true (by omega)]
      obtain ⟨c, rfl⟩ : ∃ c, m = c + 1 := ⟨m - 1, by omega⟩
      show F_prime_rest [.list (mk n R), .list (mk (c + 1) Q)] _
      refine T_prime_rest hn1 hR hQ fun r R' g1 g2 g3 g4 => ?_
      exact ih r (c + 1) Q R' (by omega) (by omega) hm1 hQ g2 g3 fun t k1 k2 => ⟨(ht t k1 k2).2, g4 t (ht t k1 k2).1 (ht t k1 k2).2⟩
    · rw [decide_eq_false (by omega)]
      refine hP m true _ _ rfl (fun h => ?_) (by rw [mk_len]; exact hm1) _
      have hm2 : m = 1 := by simpa [mk_len] using h
      subst hm2
      intro t k
      have e := (ht t k.1 k.2).2
      have e2 : es t Q 1 = Q 0 := by
        show (0 : Int) + Q 0 * t ^ 0 = Q 0
        rw [Int.pow_zero]
        omega
      rw [e2] at e
      obtain ⟨q1, q2⟩ := hQ 0 (by omega)
      have q3 := hl (by omega)
      have : Q 0 = 0 := by rw [← Int.emod_eq_of_lt q1 q2]; exact Int.emod_eq_zero_of_dvd e
      exact q3 this
theorem T_surely_apart {A B C D : Nat → Int} (hn : n ≤ 1000) (hm : m ≤ 1000) (n0 : 0 < n) (m0 : 0 < m) (hA : ∀ k, k < n → Bd s (A k) ∧ Bd s (B k)) (hC : ∀ k, k < m → Bd s (C k) ∧ Bd s (D k)) (h9 : s + 100 ≤ 134217728)
    (h : ∀ r : Bool, (r = true → ∀ t, ¬ (pP ∣ es t (pz A B) n ∧ pP ∣ es t (pz C D) m)) → Φ (.bool r)) : F_surely_apart [tp n A B, tp m C D] Φ := by
  unfold F_surely_apart mkF b_surely_apart
  refine ⟨rfl, ?_⟩
  show F_by_prime [tp n A B] _
  refine T_by_prime hn hA h9 ?_
  show F_by_prime [tp m C D] _
  refine T_by_prime hm hC h9 ?_
  obtain ⟨u, rfl⟩ : ∃ u, n = u + 1 := ⟨n - 1, by omega⟩
  obtain ⟨v, rfl⟩ : ∃ v, m = v + 1 := ⟨m - 1, by omega⟩
  show oIx (.list (mk (u + 1) (pz A B))) (.int (-1)) _
  refine ix_last ?_
  show ifB (decide (pz A B u = 0)) _ _
  by_cases q1 : pz A B u = 0
  · rw [decide_eq_true q1]
    show Φ (.bool false)
    exact h false fun z => absurd z (by decide)
  · rw [decide_eq_false q1]
    show oIx (.list (mk (v + 1) (pz C D))) (.int (-1)) _
    refine ix_last ?_
    show ifB (decide (pz C D v = 0)) _ _
    by_cases q2 : pz C D v = 0
    · rw [decide_eq_true q2]
      show Φ (.bool false)
      exact h false fun z => absurd z (by decide)
    · rw [decide_eq_false q2]
      refine ⟨v + 1 + 1, ?_⟩
      refine apart_loop (R0 := pz A B) (Q0 := pz C D) (n0 := u + 1) (m0 := v + 1) (fun _ _ L q e g1 g2 p => ?_) (v + 1) (v + 1) (u + 1) _ _ (Nat.le_refl _) hm hn (fun k _ => in_mod _) (fun k _ => in_mod _) (fun _ => q2) fun t k1 k2 => ⟨k1, k2⟩
      subst e
      show Φ (.bool (decide (((L.length : Nat) : Int) = 1)))
      refine h _ fun z => ?_
      refine g1 ?_
      have := of_decide_eq_true z
      simp
      omega
end


/-! QBG: a root told by the prime. -/
def uv (a b : Int) : Nat → Int × Int
  | 0 => (1, 0)
  | n + 1 => ((uv a b n).1 * a - (uv a b n).2 * b, (uv a b n).1 * b + (uv a b n).2 * a)
def xy (a b d : Int) (A B : Nat → Int) : Nat → Int × Int
  | 0 => (0, 0)
  | n + 1 => (d * (xy a b d A B n).1 + d * (A n * (uv a b n).1 - B n * (uv a b n).2), d * (xy a b d A B n).2 + d * (A n * (uv a b n).2 + B n * (uv a b n).1))
theorem gz_one : gz 1 0 = 1 := by
  have e := gz_mul 1 0 1 0
  have h : gz 1 0 * (gz 1 0 - 1) = 0 := by
    have e2 : gz (1 * 1 - 0 * 0) (1 * 0 + 0 * 1) = gz 1 0 := by congr 1
    rw [e2] at e
    grind
  have n0 : gz 1 0 ≠ 0 := fun z => absurd (gz_eq.mp z).1 (by decide)
  generalize gz 1 0 = a at *
  grind
theorem uv_gz (a b : Int) : ∀ n, gz (uv a b n).1 (uv a b n).2 = pw (gz a b) n
  | 0 => gz_one
  | n + 1 => by
    show gz _ _ = pw (gz a b) n * gz a b
    rw [← uv_gz a b n, gz_mul]
    rfl
theorem pw_prod (x y : Cn) : ∀ n, pw (x * y) n = pw x n * pw y n
  | 0 => by show (1 : Cn) = 1 * 1; grind
  | n + 1 => by
    show pw (x * y) n * (x * y) = (pw x n * x) * (pw y n * y)
    rw [pw_prod x y n]
    grind
theorem xy_gz {a b d : Int} {r : Cn} (hr : gz d 0 * r = gz a b) (A B : Nat → Int) : ∀ n, gz (xy a b d A B n).1 (xy a b d A B n).2 = pw (gz d 0) n * ps r (gA A B) n
  | 0 => by
    show gz 0 0 = 1 * 0
    rw [gz_zero]
    grind
  | n + 1 => by
    have ih := xy_gz hr A B n
    have h1 := uv_gz a b n
    rw [← hr, pw_prod] at h1
    show gz (d * (xy a b d A B n).1 + d * (A n * (uv a b n).1 - B n * (uv a b n).2)) (d * (xy a b d A B n).2 + d * (A n * (uv a b n).2 + B n * (uv a b n).1)) = (pw (gz d 0) n * gz d 0) * (ps r (gA A B) n + gz (A n) (B n) * pw r n)
    rw [gz_add, gz_smul, gz_smul, ← gz_mul, ih, h1]
    grind
section
variable {p T κ : Int} (hT : T * T + 1 = p * κ)
include hT
theorem uv_T (a b : Int) : ∀ n, ∃ w, (uv a b n).1 + (uv a b n).2 * T = (a + b * T) ^ n + p * w
  | 0 => ⟨0, by show (1 : Int) + 0 * T = (a + b * T) ^ 0 + p * 0; rw [Int.pow_zero]; omega⟩
  | n + 1 => by
    obtain ⟨w, hw⟩ := uv_T a b n
    refine ⟨w * (a + b * T) - (uv a b n).2 * b * κ, ?_⟩
    show ((uv a b n).1 * a - (uv a b n).2 * b) + ((uv a b n).1 * b + (uv a b n).2 * a) * T = _
    rw [Int.pow_succ]
    generalize (uv a b n).1 = u at *
    generalize (uv a b n).2 = v at *
    generalize (a + b * T) ^ n = q at *
    have e : (u + v * T) * (a + b * T) = (q + p * w) * (a + b * T) := by rw [hw]
    have e2 : v * b * (T * T + 1) = v * b * (p * κ) := by rw [hT]
    grind
theorem xy_T {a b d e t q : Int} (he : d * e = 1 + p * q) (ht : t = (a + b * T) * e) (A B : Nat → Int) : ∀ n, ∃ w, (xy a b d A B n).1 + (xy a b d A B n).2 * T = d ^ n * es t (fun k => A k + B k * T) n + p * w
  | 0 => ⟨0, by show (0 : Int) + 0 * T = d ^ 0 * 0 + p * 0; omega⟩
  | n + 1 => by
    obtain ⟨w, hw⟩ := xy_T he ht A B n
    obtain ⟨w1, hw1⟩ := uv_T hT a b n
    have hd : ∃ z, (d * t) ^ n = (a + b * T) ^ n + p * z := by
      clear hw
      have h0 : d * t = (a + b * T) + p * ((a + b * T) * q) := by rw [ht]; grind
      clear ht hw1
      induction n with
      | zero => exact ⟨0, by rw [Int.pow_zero, Int.pow_zero]; omega⟩
      | succ n ih =>
        obtain ⟨z, hz⟩ := ih
        refine ⟨z * (d * t) + (a + b * T) ^ n * ((a + b * T) * q), ?_⟩
        rw [Int.pow_succ, Int.pow_succ, hz]
        grind
    obtain ⟨z, hz⟩ := hd
    refine ⟨d * w + d * (A n + B n * T) * w1 - d * B n * (uv a b n).2 * κ - d * (A n + B n * T) * z, ?_⟩
    show (d * (xy a b d A B n).1 + d * (A n * (uv a b n).1 - B n * (uv a b n).2)) + (d * (xy a b d A B n).2 + d * (A n * (uv a b n).2 + B n * (uv a b n).1)) * T = d ^ (n + 1) * (es t (fun k => A k + B k * T) n + (A n + B n * T) * t ^ n) + _
    rw [Int.mul_pow] at hz
    rw [Int.pow_succ]
    generalize (uv a b n).1 = u at *
    generalize (uv a b n).2 = v at *
    generalize (xy a b d A B n).1 = x at *
    generalize (xy a b d A B n).2 = y at *
    generalize es t (fun k => A k + B k * T) n = E at *
    generalize (a + b * T) ^ n = Q at *
    generalize d ^ n = D at *
    generalize t ^ n = Z at *
    generalize A n = X at *
    generalize B n = Y at *
    have e1 : d * (X + Y * T) * (u + v * T) = d * (X + Y * T) * (Q + p * w1) := by rw [hw1]
    have e2 : d * Y * v * (T * T + 1) = d * Y * v * (p * κ) := by rw [hT]
    have e3 : d * (x + y * T) = d * (D * E + p * w) := by rw [hw]
    have e4 : d * (X + Y * T) * (D * Z) = d * (X + Y * T) * (Q + p * z) := by rw [hz]
    grind
end
/-- a number that stands for a whole one by the prime -/
def Rt (r : Cn) : Prop := ∃ a b d e q : Int, d ≠ 0 ∧ d * e = 1 + pP * q ∧ r = ⟨qd a d, qd b d⟩
theorem rt_es {r : Cn} (h : Rt r) : ∃ t : Int, ∀ (n : Nat) (A B : Nat → Int), ps r (gA A B) n = 0 → pP ∣ es t (pz A B) n := by
  obtain ⟨a, b, d, e, q, d0, he, rfl⟩ := h
  refine ⟨(a + b * pT) * e, fun n A B h0 => ?_⟩
  have hr : gz d 0 * (⟨qd a d, qd b d⟩ : Cn) = gz a b := by
    have e1 := tr_mul d 0 1 a b d (by decide) d0
    rw [show gz d 0 * (⟨qd a d, qd b d⟩ : Cn) = _ from e1.symm]
    have e2 : d * a - 0 * b = a * d := by rw [Int.mul_comm d a]; omega
    have e3 : d * b + 0 * a = b * d := by rw [Int.mul_comm d b]; omega
    rw [e2, e3, qd_cancel _ _ _ (by rw [Int.one_mul]; exact d0), qd_cancel _ _ _ (by rw [Int.one_mul]; exact d0)]
    rfl
  have hx := xy_gz hr A B n
  rw [h0] at hx
  have hz : gz (xy a b d A B n).1 (xy a b d A B n).2 = 0 := by rw [hx]; grind
  obtain ⟨z1, z2⟩ := gz_eq.mp hz
  have hT : pT * pT + 1 = pP * 147671397626782817 := by decide
  obtain ⟨w, hw⟩ := xy_T hT he (t := (a + b * pT) * e) rfl A B n
  rw [z1, z2] at hw
  have hc : pP ∣ es ((a + b * pT) * e) (pz A B) n - es ((a + b * pT) * e) (fun k => A k + B k * pT) n := es_cong n fun k _ => mod_cong _ _
  have hed : ∃ u, d ^ n * e ^ n = 1 + pP * u := by
    rw [← Int.mul_pow, he]
    clear hw hc hx h0 hz z1 z2
    induction n with
    | zero => exact ⟨0, by rw [Int.pow_zero]; omega⟩
    | succ n ih =>
      obtain ⟨u, hu⟩ := ih
      refine ⟨u + q + pP * u * q, ?_⟩
      rw [Int.pow_succ, hu]
      grind
  obtain ⟨u, hu⟩ := hed
  obtain ⟨v, hv⟩ := hc
  generalize es ((a + b * pT) * e) (pz A B) n = E1 at *
  generalize es ((a + b * pT) * e) (fun k => A k + B k * pT) n = E2 at *
  generalize d ^ n = D at *
  generalize e ^ n = F at *
  have e1 : E2 = pP * (-(w * F) - u * E2) := by
    have k1 : D * E2 = -(pP * w) := by omega
    have k2 : (D * F) * E2 = (1 + pP * u) * E2 := by rw [hu]
    have k3 : (D * F) * E2 = -(pP * w) * F := by rw [← k1]; grind
    generalize pP = p at *
    grind
  refine ⟨v + (-(w * F) - u * E2), ?_⟩
  rw [Int.mul_add, ← e1, ← hv]
  omega


/-! QBH: the package's common divisor. -/
/-! ### sizes -/
abbrev kK : Nat := 805306368
theorem six_ge : ∀ j : Nat, 1 ≤ j → 2 * (j + 2) ≤ 6 ^ j
  | 0, h => absurd h (by decide)
  | 1, _ => by decide
  | j + 2, _ => by
    have := six_ge (j + 1) (by omega)
    rw [Nat.pow_succ]
    omega
def Sz (n m s : Nat) : Prop := (m < n ∧ (s + 3) * 6 ^ n ≤ kK) ∨ (n ≤ m ∧ 4 * (s + 3) * 6 ^ m ≤ kK)
theorem sz_rest {n m s : Nat} (m0 : 0 < m) (h : Sz n m s) : ∃ E, s + (n + 1 - m) * (s + 2) ≤ E ∧ E + E ≤ 134217728 ∧ s ≤ E + E + 1 ∧ ∀ r, r < m → Sz m r (E + E + 1) := by
  have key : ∀ E : Nat, (E + E + 4) * 6 ^ m ≤ kK → s + (n + 1 - m) * (s + 2) ≤ E → ∃ E, s + (n + 1 - m) * (s + 2) ≤ E ∧ E + E ≤ 134217728 ∧ s ≤ E + E + 1 ∧ ∀ r, r < m → Sz m r (E + E + 1) := fun E h1 h2 => by
    refine ⟨E, h2, ?_, ?_, fun r hr => Or.inl ⟨hr, h1⟩⟩
    · obtain ⟨c, rfl⟩ : ∃ c, m = c + 1 := ⟨m - 1, by omega⟩
      have p1 : 0 < 6 ^ c := Nat.pow_pos (by decide)
      rw [Nat.pow_succ, ← Nat.mul_assoc] at h1
      have : (E + E + 4) * 1 ≤ (E + E + 4) * 6 ^ c := Nat.mul_le_mul_left _ p1
      unfold kK at h1
      omega
    · have : s ≤ s + (n + 1 - m) * (s + 2) := Nat.le_add_right _ _
      omega
  rcases h with ⟨h1, h2⟩ | ⟨h1, h2⟩
  · obtain ⟨j, rfl⟩ : ∃ j, n = m + (j + 1) := ⟨n - m - 1, by omega⟩
    refine key (s + (j + 2) * (s + 2)) ?_ (by rw [show m + (j + 1) + 1 - m = j + 2 by omega]; exact Nat.le_refl _)
    have g := six_ge (j + 1) (by omega)
    have g2 : (s + (j + 2) * (s + 2)) + (s + (j + 2) * (s + 2)) + 4 ≤ 2 * (j + 1 + 2) * (s + 3) := by
      have e1 : 2 * (j + 1 + 2) * (s + 3) = 2 * ((j + 2) * (s + 2)) + 2 * (j + 2) + 2 * (s + 3) := by
        have e0 : (j + 2) * (s + 3) = (j + 2) * (s + 2) + (j + 2) := by rw [show s + 3 = (s + 2) + 1 by omega, Nat.mul_add, Nat.mul_one]
        rw [show j + 1 + 2 = (j + 2) + 1 by omega, Nat.mul_assoc, Nat.add_mul, Nat.one_mul, e0]
        omega
      rw [e1]
      omega
    have g3 : 2 * (j + 1 + 2) * (s + 3) ≤ 6 ^ (j + 1) * (s + 3) := Nat.mul_le_mul_right _ g
    have g4 := Nat.mul_le_mul_right (6 ^ m) (Nat.le_trans g2 g3)
    refine Nat.le_trans g4 ?_
    have e : 6 ^ (j + 1) * (s + 3) * 6 ^ m = (s + 3) * 6 ^ (m + (j + 1)) := by
      rw [Nat.pow_add 6 m (j + 1), Nat.mul_comm (6 ^ (j + 1)) (s + 3), Nat.mul_assoc, Nat.mul_comm (6 ^ (j + 1)) (6 ^ m)]
    rw [e]
    exact h2
  · refine key (s + 1 * (s + 2)) ?_ (by
      have : (n + 1 - m) * (s + 2) ≤ 1 * (s + 2) := Nat.mul_le_mul_right _ (by omega)
      omega)
    refine Nat.le_trans (Nat.mul_le_mul_right _ ?_) h2
    omega
/-! ### combinations -/
def Idl (f g h : Cn → Cn) : Prop := ∃ u v, IsP u ∧ IsP v ∧ ∀ x, h x = u x * f x + v x * g x
theorem Idl.left (f g : Cn → Cn) : Idl f g f := ⟨fun _ => 1, fun _ => 0, isp_const _, isp_const _, fun x => by grind⟩
theorem Idl.trans {f g f' g' h : Cn → Cn} (a : Idl f g h) (b : Idl f' g' f) (c : Idl f' g' g) : Idl f' g' h := by
  obtain ⟨u, v, hu, hv, e⟩ := a
  obtain ⟨u1, v1, hu1, hv1, e1⟩ := b
  obtain ⟨u2, v2, hu2, hv2, e2⟩ := c
  refine ⟨fun x => u x * u1 x + v x * u2 x, fun x => u x * v1 x + v x * v2 x, (hu.mul hu1).add (hv.mul hu2), (hu.mul hv1).add (hv.mul hv2), fun x => ?_⟩
  rw [e, e1, e2]
  dsimp only
  grind
theorem Idl.scale {f g h : Cn → Cn} {c : Cn} (a : Idl f g h) : Idl f g fun x => c * h x := by
  obtain ⟨u, v, hu, hv, e⟩ := a
  refine ⟨fun x => c * u x, fun x => c * v x, (isp_const _).mul hu, (isp_const _).mul hv, fun x => ?_⟩
  dsimp only
  rw [e]
  grind
theorem hn_ps (L : List Cn) (x : Cn) : hn L x = ps x (cf L) L.length := by
  rw [← hn_range]
  congr 1
  refine List.ext_getElem? fun k => ?_
  rw [List.getElem?_map]
  by_cases h : k < L.length
  · rw [List.getElem?_range h, cf_lt h]
    rfl
  · rw [List.getElem?_eq_none (by omega), List.getElem?_eq_none (by simp; omega)]
    rfl
section
variable {Φ : PyData → Prop} {n m k s b : Nat} {P : Post} {Ψ : List PyData → Prop}
def cmC : WB := (vTru (vOp oIx (vVar 6) (vC (.int 0))))
def cmB : WS := (vPar 5 6 (vCons (vVar 6) (vCons (vCall F_normed_rest (vCons (vVar 5) (vCons (vVar 6) vNil))) vNil)))
theorem comm_loop {FL FM : Cn → Cn} {a0 a1 a2 a3 a4 a7 a8 : Sl}
    (hP : ∀ (n : Nat) (A B : Nat → Int) (a6 : Sl), n ≤ 1000 → Nd n A B → Idl FL FM (fun x => ps x (gA A B) n) → Idl (fun x => ps x (gA A B) n) (fun _ => 0) FL → Idl (fun x => ps x (gA A B) n) (fun _ => 0) FM → P.N [a0, a1, a2, a3, a4, .d (tp n A B), a6, a7, a8]) :
    ∀ (f m n : Nat) (A B C D : Nat → Int) (s : Nat), m ≤ f → m ≤ 1000 → n ≤ 1000 → Nd n A B → Nd m C D → (∀ k, k < n → Bd s (A k) ∧ Bd s (B k)) → (∀ k, k < m → Bd s (C k) ∧ Bd s (D k)) → Sz n m s →
      Idl FL FM (fun x => ps x (gA A B) n) → Idl FL FM (fun x => ps x (gA C D) m) → Idl (fun x => ps x (gA A B) n) (fun x => ps x (gA C D) m) FL → Idl (fun x => ps x (gA A B) n) (fun x => ps x (gA C D) m) FM →
      whW cmC cmB (f + 1) [a0, a1, a2, a3, a4, .d (tp n A B), .d (tp m C D), a7, a8] P := by
  intro f
  induction f with
  | zero =>
    intro m n A B C D s hm _ hn nA nC _ _ _ i1 i2 i3 i4
    have : m = 0 := by omega
    subst this
    unfold whW
    exact hP n A B _ hn nA i1 i3 i4
  | succ f ih =>
    intro m n A B C D s hm hm1 hn nA nC bA bC hs i1 i2 i3 i4
    by_cases h0 : m = 0
    · subst h0
      unfold whW
      exact hP n A B _ hn nA i1 i3 i4
    · unfold whW
      show ifB (!(mk m C).isEmpty) _ _
      have ne : (mk m C).isEmpty = false := by
        obtain ⟨c, rfl⟩ : ∃ c, m = c + 1 := ⟨m - 1, by omega⟩
        rw [mk_last]
        simp
      rw [ne]
      obtain ⟨E, e1, e2, e3, e4⟩ := sz_rest (by omega) hs
      show F_normed_rest [tp n A B, tp m C D] _
      refine T_normed_rest (by omega) nC hn bA bC e1 e2 fun r A' B' α β g1 g2 g3 g4 g5 g6 g7 => ?_
      have j1 : Idl FL FM (fun x => ps x (gA A' B') r) := by
        have : Idl (fun x => ps x (gA A B) n) (fun x => ps x (gA C D) m) (fun x => ps x (gA A' B') r) := ⟨fun _ => α, β, isp_const _, g4, g5⟩
        exact this.trans i1 i2
      have j2 : Idl (fun x => ps x (gA C D) m) (fun x => ps x (gA A' B') r) (fun x => ps x (gA A B) n) := by
        refine ⟨fun x => (0 - 1 / α) * β x, fun _ => 1 / α, (isp_const _).mul g4, isp_const _, fun x => ?_⟩
        dsimp only
        rw [g5]
        generalize ps x (gA A B) n = p
        generalize ps x (gA C D) m = q
        generalize β x = t
        grind
      exact ih r m C D A' B' (E + E + 1) (by omega) (by omega) hm1 nC g6 (fun k hk => ⟨(bC k hk).1.mono e3, (bC k hk).2.mono e3⟩) g7 (e4 r g1) i2 j1
        (i3.trans j2 (Idl.left _ _)) (i4.trans j2 (Idl.left _ _))
end


/-! QBI: the package's common divisor, to its end. -/
theorem range_cf (L : List Cn) : (List.range L.length).map (cf L) = L := by
  refine List.ext_getElem? fun k => ?_
  rw [List.getElem?_map]
  by_cases h : k < L.length
  · rw [List.getElem?_range h, cf_lt h]
    rfl
  · rw [List.getElem?_eq_none (by simp; omega), List.getElem?_eq_none (by omega)]
    rfl
theorem gz_den {a b d : Int} (d0 : d ≠ 0) : gz d 0 * (⟨qd a d, qd b d⟩ : Cn) = gz a b := by
  have e1 := tr_mul d 0 1 a b d (by decide) d0
  rw [show gz d 0 * (⟨qd a d, qd b d⟩ : Cn) = _ from e1.symm]
  have e2 : d * a - 0 * b = a * d := by rw [Int.mul_comm d a]; omega
  have e3 : d * b + 0 * a = b * d := by rw [Int.mul_comm d b]; omega
  rw [e2, e3, qd_cancel _ _ _ (by rw [Int.one_mul]; exact d0), qd_cancel _ _ _ (by rw [Int.one_mul]; exact d0)]
  rfl
theorem gz_inj {a b c d : Int} (h : gz a b = gz c d) : a = c ∧ b = d := by
  have e := gz_add (-c) (-d) a b
  rw [gz_neg, h] at e
  have e2 : gz (-c + a) (-d + b) = 0 := by rw [e]; grind
  obtain ⟨h1, h2⟩ := gz_eq.mp e2
  exact ⟨by omega, by omega⟩
theorem gz_ne {d : Int} (h : d ≠ 0) : gz d 0 ≠ 0 := fun e => h (gz_eq.mp e).1
theorem cf_mem {L : List Cn} {k : Nat} (h : k < L.length) : cf L k ∈ L := List.mem_of_getElem? (cf_lt h)
/-- what divides all by another number -/
theorem prim_dvd {n : Nat} {A B : Nat → Int} {l D : Int} (l0 : 0 < l) (hg : ∀ g : Int, (∀ k, k < n → g ∣ A k ∧ g ∣ B k) → g ∣ 1) (h : ∀ k, k < n → l ∣ D * A k ∧ l ∣ D * B k) : l ∣ D := by
  have q0 : 0 < Nat.gcd l.natAbs D.natAbs := Nat.gcd_pos_of_pos_left _ (by omega)
  obtain ⟨u, hu⟩ := Nat.gcd_dvd_left l.natAbs D.natAbs
  obtain ⟨v, hv⟩ := Nat.gcd_dvd_right l.natAbs D.natAbs
  have hc : Nat.Coprime u v := by
    have := Nat.coprime_div_gcd_div_gcd q0
    have e1 : l.natAbs / Nat.gcd l.natAbs D.natAbs = u := Nat.div_eq_of_eq_mul_right q0 hu
    have e2 : D.natAbs / Nat.gcd l.natAbs D.natAbs = v := Nat.div_eq_of_eq_mul_right q0 hv
    rw [e1, e2] at this
    exact this
  have key : ∀ a : Int, l ∣ D * a → (u : Int) ∣ a := fun a ha => by
    have h1 : l.natAbs ∣ D.natAbs * a.natAbs := by rw [← Int.natAbs_mul]; exact Int.natAbs_dvd_natAbs.mpr ha
    have h2 : Nat.gcd l.natAbs D.natAbs * u ∣ Nat.gcd l.natAbs D.natAbs * (v * a.natAbs) := by
      rw [← hu, ← Nat.mul_assoc, ← hv]
      exact h1
    have h3 : u ∣ v * a.natAbs := Nat.dvd_of_mul_dvd_mul_left q0 h2
    have h4 : u ∣ a.natAbs := Nat.Coprime.dvd_of_dvd_mul_left hc h3
    exact Int.natAbs_dvd_natAbs.mp (by rw [Int.natAbs_natCast]; exact h4)
  have u1 : (u : Int) ∣ 1 := hg u fun k hk => ⟨key _ (h k hk).1, key _ (h k hk).2⟩
  have u2 : u = 1 := by
    have := Int.natAbs_dvd_natAbs.mpr u1
    rw [Int.natAbs_natCast] at this
    exact Nat.dvd_one.mp this
  rw [u2, Nat.mul_one] at hu
  refine Int.natAbs_dvd_natAbs.mp ?_
  rw [hu]
  exact Nat.gcd_dvd_right _ _
/-- the end: the numbers of the normed row over its last one -/
theorem com_end {n : Nat} {A B : Nat → Int} {K : List Cn} {FL FM f g : Cn → Cn} {DG : Int} (G0 : DG ≠ 0) (oG : ∀ z ∈ K ++ [1], Ov DG z) (nA : Nd n A B)
    (hL : ∀ x, FL x = hn (K ++ [1]) x * f x) (hM : ∀ x, FM x = hn (K ++ [1]) x * g x) (pf : IsP f) (pg : IsP g) (cp : Cop f g)
    (i1 : Idl FL FM (fun x => ps x (gA A B) n)) (i2 : Idl (fun x => ps x (gA A B) n) (fun _ => 0) FL) (i3 : Idl (fun x => ps x (gA A B) n) (fun _ => 0) FM) :
    n = K.length + 1 ∧ 0 < A K.length ∧ A K.length ∣ DG ∧ ∀ k, k < n → (⟨qd (A k) (A K.length), qd (B k) (A K.length)⟩ : Cn) = cf (K ++ [1]) k := by
  have tG : tr (K ++ [1]) = K ++ [1] := tr_fix one_ne
  have iG : Idl FL FM (hn (K ++ [1])) := by
    obtain ⟨u, v, hu, hv, e⟩ := cp
    refine ⟨u, v, hu, hv, fun x => ?_⟩
    rw [hL, hM]
    have := e x
    generalize hn (K ++ [1]) x = t
    generalize u x = p at *
    generalize v x = q at *
    generalize f x = y at *
    generalize g x = z at *
    have e2 : t * (p * y + q * z) = t * 1 := by rw [this]
    grind
  have iF := iG.trans i2 i3
  obtain ⟨c, hc, e1⟩ := gcd_end (f := fun x => ps x (gA A B) n) tG (by simp) (by
    obtain ⟨u, v, hu, hv, e⟩ := i1
    refine ⟨fun x => u x * f x + v x * g x, (hu.mul pf).add (hv.mul pg), fun x => ?_⟩
    have e2 : ps x (gA A B) n = u x * FL x + v x * FM x := e x
    show ps x (gA A B) n = hn (K ++ [1]) x * (u x * f x + v x * g x)
    rw [e2, hL, hM]
    grind) (by
    obtain ⟨u, v, hu, hv, e⟩ := iF
    refine ⟨u, hu, fun x => ?_⟩
    rw [e x]
    grind)
  have e2 : (List.range n).map (gA A B) = (K ++ [1]).map fun w => c * w := by
    refine row_ext' ?_ ?_ fun x => ?_
    · cases n with
      | zero => rfl
      | succ m =>
        obtain ⟨h1, h2, _⟩ := nA (by omega)
        rw [List.range_succ, List.map_append, List.map_singleton]
        refine tr_fix fun z => ?_
        have := (gz_eq.mp z).1
        have h3 : 0 < A m := h1
        omega
    · rw [List.map_append, List.map_singleton]
      refine tr_fix ?_
      exact mul_ne' hc one_ne
    · rw [hn_range, hn_smul]
      exact e1 x
  have e3 : n = K.length + 1 := by
    have := congrArg List.length e2
    simpa using this
  have e4 : ∀ k, k < n → gA A B k = c * cf (K ++ [1]) k := fun k hk => by
    have : ((List.range n).map (gA A B))[k]? = ((K ++ [1]).map fun w => c * w)[k]? := by rw [e2]
    rw [List.getElem?_map, List.getElem?_range hk, List.getElem?_map, cf_lt (by simp; omega)] at this
    injection this
  obtain ⟨l0, lB, lg⟩ := nA (by omega)
  have en : n - 1 = K.length := by omega
  rw [en] at l0 lB
  have cl : c = gz (A K.length) 0 := by
    have h1 := e4 K.length (by omega)
    have h2 : cf (K ++ [1]) K.length = 1 := by
      unfold cf
      rw [List.getElem?_append_right (Nat.le_refl _), Nat.sub_self]
      rfl
    rw [h2] at h1
    have h3 : gA A B K.length = gz (A K.length) 0 := by unfold gA; rw [lB]
    rw [h3] at h1
    rw [h1]
    grind
  have ln : A K.length ≠ 0 := by omega
  refine ⟨e3, l0, prim_dvd l0 lg fun k hk => ?_, fun k hk => ?_⟩
  · have h1 := e4 k hk
    rw [cl] at h1
    have h2 := (oG _ (cf_mem (L := K ++ [1]) (k := k) (by simp; omega))).ex G0
    generalize cf (K ++ [1]) k = z at *
    have h3 := gz_den (a := ov DG z.re) (b := ov DG z.im) G0
    rw [← h2] at h3
    have h4 : gz DG 0 * gz (A k) (B k) = gz (A K.length) 0 * gz (ov DG z.re) (ov DG z.im) := by
      rw [← h3, show gz (A k) (B k) = gA A B k from rfl, h1]
      grind
    rw [← gz_smul, ← gz_smul] at h4
    obtain ⟨q1, q2⟩ := gz_inj h4
    exact ⟨⟨_, q1⟩, ⟨_, q2⟩⟩
  · have h1 := e4 k hk
    rw [cl] at h1
    have h3 := gz_den (a := A k) (b := B k) ln
    have h4 := gz_ne ln
    have h5 : gz (A K.length) 0 * (⟨qd (A k) (A K.length), qd (B k) (A K.length)⟩ : Cn) = gz (A K.length) 0 * cf (K ++ [1]) k := by rw [h3]; exact h1
    generalize (⟨qd (A k) (A K.length), qd (B k) (A K.length)⟩ : Cn) = a at *
    generalize cf (K ++ [1]) k = b at *
    generalize gz (A K.length) 0 = t at *
    grind


/-! QBJ: the package's common divisor: what is asked of it. -/
section
variable {Φ : PyData → Prop} {n m k s b : Nat} {P : Post} {Ψ : List PyData → Prop}
theorem cs_re {z : Cn} (h : Cs n z) : Bd n z.re.num := h.re.num
theorem cs_im {z : Cn} (h : Cs n z) : Bd n z.im.num := h.im.num
/-- the whole parts, normed -/
theorem parts_normed {L : List Cn} {Dn : Int} {q : PyData → Prop} (D0 : Dn ≠ 0) (D6 : Bd 64 Dn) (hn : n ≤ 1000) (cL : ∀ z ∈ L, Cs n z) (oL : ∀ z ∈ L, Ov Dn z) (hl : L.length ≤ 1000)
    (h : ∀ (X Y : PyData) (b : Int), (∀ (K : PyData → Prop), (∀ (r : Nat) (A B : Nat → Int) (c : Cn), r ≤ L.length → c ≠ 0 → (∀ x, ps x (gA A B) r = c * Rim.hn L x) → Nd r A B → (∀ k, k < r → Bd (n + 64 + (n + 64) + 1) (A k) ∧ Bd (n + 64 + (n + 64) + 1) (B k)) → K (tp r A B)) → F_normed [X, Y] K) → q (.tuple [X, Y, .int b])) :
    F_whole_parts [.tuple (L.map nm)] q := by
  refine T_whole_partsD D0 D6 cL (by omega) oL hl fun b b0 bD hb => ?_
  have b6 := dvd_bd bD D0 D6
  refine h _ _ b fun K hK => ?_
  rw [mk_of L (fun z => ov b z.re), mk_of L (fun z => ov b z.im)]
  refine T_normed (s := n + 64) hl (fun k hk => ?_) (by omega) fun r A B c h1 h2 h3 h4 h5 => ?_
  · have hz := cf_mem hk
    exact ⟨ov_bd (cs_re (cL _ hz)) (by omega) b6 (hb _ hz).1, ov_bd (cs_im (cL _ hz)) (by omega) b6 (hb _ hz).2⟩
  · refine hK r A B (c * gz b 0) h1 (mul_ne' h2 (gz_ne (by omega))) (fun x => ?_) h4 h5
    rw [h3 x, hn_ps]
    have e : ps x (gA (fun j => ov b (cf L j).re) fun j => ov b (cf L j).im) L.length = gz b 0 * ps x (cf L) L.length := by
      rw [← ps_smul]
      refine ps_congr _ fun k hk => ?_
      have hz := (hb _ (cf_mem hk)).ex (show b ≠ 0 by omega)
      show gz (ov b (cf L k).re) (ov b (cf L k).im) = gz b 0 * cf L k
      generalize cf L k = z at *
      rw [← gz_den (a := ov b z.re) (b := ov b z.im) (show b ≠ 0 by omega), ← hz]
    rw [e]
    grind
def cmE : WS := (vSeqS (vWhile cmC cmB) (vSeqS (vAsgG (vVar 5) (vgT 2 (vgCons (vgN 2) (vgCons (vgN 3) vgNil)))) (vRet (vTupG [7, 8] (vZip (vCons (vVar 2) (vCons (vVar 3) vNil))) (vgT 2 (vgCons (vgN 7) (vgCons (vgN 8) vgNil))) vYes (vCall F_number_from (vCons (vVar 7) (vCons (vVar 8) (vCons (vOp oIx (vVar 2) (vNeg (vC (.int 1)))) vNil))))))))
theorem com_tail {FL FM f g : Cn → Cn} {K : List Cn} {DG : Int} {A B C D : Nat → Int} (G0 : DG ≠ 0) (G6 : Bd 64 DG) (oG : ∀ z ∈ K ++ [1], Ov DG z) (hK : K.length ≤ 1000)
    (hL : ∀ x, FL x = hn (K ++ [1]) x * f x) (hM : ∀ x, FM x = hn (K ++ [1]) x * g x) (pf : IsP f) (pg : IsP g) (cp : Cop f g)
    (hn1 : n ≤ 1000) (hm1 : m ≤ 1000) (nA : Nd n A B) (nC : Nd m C D) (bA : ∀ k, k < n → Bd s (A k) ∧ Bd s (B k)) (bC : ∀ k, k < m → Bd s (C k) ∧ Bd s (D k)) (sz : Sz n m s)
    (i1 : Idl FL FM (fun x => ps x (gA A B) n)) (i2 : Idl FL FM (fun x => ps x (gA C D) m)) (i3 : Idl (fun x => ps x (gA A B) n) (fun x => ps x (gA C D) m) FL) (i4 : Idl (fun x => ps x (gA A B) n) (fun x => ps x (gA C D) m) FM)
    {a0 a1 a2 a3 a4 a7 a8 : Sl} (h : Φ (.tuple ((K ++ [1]).map nm))) :
    cmE [a0, a1, a2, a3, a4, .d (tp n A B), .d (tp m C D), a7, a8] ⟨fun _ => Φ .none, Φ, Nev, Nev⟩ := by
  refine ⟨m + 1, ?_⟩
  refine comm_loop (FL := FL) (FM := FM) (fun r A2 B2 a6 g1 g2 g3 g4 g5 => ?_) m m n A B C D s (Nat.le_refl _) hm1 hn1 nA nC bA bC sz i1 i2 i3 i4
  obtain ⟨e1, l0, ld, ee⟩ := com_end G0 oG g2 hL hM pf pg cp g3 g4 g5
  subst e1
  refine ⟨rfl, ?_⟩
  show (ziD (mk (K.length + 1) A2) (mk (K.length + 1) B2)).length ≤ sizeLine ∧ lcW _ (ziD (mk (K.length + 1) A2) (mk (K.length + 1) B2)) [] _
  rw [zi_mk]
  refine ⟨by rw [List.length_map, List.length_range, sizeLine_eq]; omega, ?_⟩
  refine lc_map (f := fun k => nm (cf (K ++ [1]) k)) (g := fun k => .tuple [.int (A2 k), .int (B2 k)]) _ [] (fun k hk K2 hK2 => ?_) ?_
  · have hk2 := List.mem_range.mp hk
    refine ⟨rfl, ?_⟩
    show oIx (.list (mk (K.length + 1) A2)) (.int (-1)) _
    refine ix_last ?_
    show F_number_from [.int (A2 k), .int (B2 k), .int (A2 K.length)] _
    refine T_number_from (n := 64) (by omega) (dvd_bd ld G0 G6) (by decide) ?_
    rw [ee k hk2]
    exact hK2
  · rw [List.nil_append]
    have e : (List.range (K.length + 1)).map (fun k => nm (cf (K ++ [1]) k)) = (K ++ [1]).map nm := by
      have h1 := range_cf (K ++ [1])
      rw [List.length_append, List.length_singleton] at h1
      conv => rhs; rw [← h1]
      rw [List.map_map]
      rfl
    rw [e]
    exact h
theorem mk_empty {T : Nat → Int} : (mk n T).isEmpty = decide (n = 0) := by
  cases n with
  | zero => rfl
  | succ n =>
    rw [mk_last, decide_eq_false (by omega)]
    simp
theorem T_commonR {L M K : List Cn} {Dn DG : Int} {f g : Cn → Cn} (D0 : Dn ≠ 0) (D6 : Bd 64 Dn) (hn : n ≤ 1000) (cL : ∀ z ∈ L, Cs n z) (cM : ∀ z ∈ M, Cs n z) (oL : ∀ z ∈ L, Ov Dn z) (oM : ∀ z ∈ M, Ov Dn z)
    (lL : L.length ≤ 1000) (lM : M.length ≤ 1000) (lK : K.length ≤ 1000) (hsz : 4 * ((n + 64 + (n + 64) + 1) + 3) * 6 ^ (max L.length M.length) ≤ kK)
    (G0 : DG ≠ 0) (G6 : Bd 64 DG) (oG : ∀ z ∈ K ++ [1], Ov DG z)
    (hL : ∀ x, Rim.hn L x = Rim.hn (K ++ [1]) x * f x) (hM : ∀ x, Rim.hn M x = Rim.hn (K ++ [1]) x * g x) (pf : IsP f) (pg : IsP g) (cp : Cop f g)
    (hr : L ≠ [] → M ≠ [] → K ≠ [] → ∃ r, Rt r ∧ Rim.hn (K ++ [1]) r = 0)
    (h : Φ (.tuple ((K ++ [1]).map nm))) : F_common [.tuple (L.map nm), .tuple (M.map nm)] Φ := by
  unfold F_common mkF b_common
  refine ⟨rfl, ?_⟩
  show F_whole_parts [.tuple (L.map nm)] _
  refine parts_normed D0 D6 hn cL oL lL fun X Y b hN => ?_
  refine ⟨rfl, ?_⟩
  show F_normed [X, Y] _
  refine hN _ fun n1 A B c1 p1 p2 p3 p4 p5 => ?_
  show F_whole_parts [.tuple (M.map nm)] _
  refine parts_normed D0 D6 hn cM oM lM fun X2 Y2 b2 hN2 => ?_
  refine ⟨rfl, ?_⟩
  show F_normed [X2, Y2] _
  refine hN2 _ fun n2 C D c2 q1 q2 q3 q4 q5 => ?_
  have sz : Sz n1 n2 (n + 64 + (n + 64) + 1) := by
    have mono : ∀ a b : Nat, a ≤ b → 6 ^ a ≤ 6 ^ b := fun a b hab => Nat.pow_le_pow_right (by decide) hab
    by_cases hlt : n2 < n1
    · refine Or.inl ⟨hlt, Nat.le_trans ?_ hsz⟩
      exact Nat.mul_le_mul (by omega) (mono _ _ (by omega))
    · refine Or.inr ⟨by omega, Nat.le_trans ?_ hsz⟩
      exact Nat.mul_le_mul_left _ (mono _ _ (by omega))
  have i1 : Idl (Rim.hn L) (Rim.hn M) (fun x => ps x (gA A B) n1) := ⟨fun _ => c1, fun _ => 0, isp_const _, isp_const _, fun x => by dsimp only; rw [p3]; grind⟩
  have i2 : Idl (Rim.hn L) (Rim.hn M) (fun x => ps x (gA C D) n2) := ⟨fun _ => 0, fun _ => c2, isp_const _, isp_const _, fun x => by dsimp only; rw [q3]; grind⟩
  have i3 : Idl (fun x => ps x (gA A B) n1) (fun x => ps x (gA C D) n2) (Rim.hn L) := ⟨fun _ => 1 / c1, fun _ => 0, isp_const _, isp_const _, fun x => by
    dsimp only
    rw [p3]
    generalize Rim.hn L x = t
    grind⟩
  have i4 : Idl (fun x => ps x (gA A B) n1) (fun x => ps x (gA C D) n2) (Rim.hn M) := ⟨fun _ => 0, fun _ => 1 / c2, isp_const _, isp_const _, fun x => by
    dsimp only
    rw [q3]
    generalize Rim.hn M x = t
    grind⟩
  have tail : ∀ a2 a3 a4 a7 a8, cmE [.d (.tuple (L.map nm)), .d (.tuple (M.map nm)), a2, a3, a4, .d (tp n1 A B), .d (tp n2 C D), a7, a8] ⟨fun _ => Φ .none, Φ, Nev, Nev⟩ := fun a2 a3 a4 a7 a8 =>
    com_tail G0 G6 oG lK hL hM pf pg cp (by omega) (by omega) p4 q4 p5 q5 sz i1 i2 i3 i4 h
  show ifB (!(mk n1 A).isEmpty) _ _
  rw [mk_empty]
  by_cases z1 : n1 = 0
  · rw [decide_eq_true z1]
    exact tail _ _ _ _ _
  · rw [decide_eq_false z1]
    show ifB (!(mk n2 C).isEmpty) _ _
    rw [mk_empty]
    by_cases z2 : n2 = 0
    · rw [decide_eq_true z2]
      exact tail _ _ _ _ _
    · rw [decide_eq_false z2]
      show F_surely_apart [tp n1 A B, tp n2 C D] _
      refine T_surely_apart (s := n + 64 + (n + 64) + 1) (by omega) (by omega) (by omega) (by omega) p5 q5 (by omega) fun r hr2 => ?_
      show ifB r _ _
      cases r with
      | false => exact tail _ _ _ _ _
      | true =>
        have hK : K = [] := by
          refine Classical.byContradiction fun ne => ?_
          obtain ⟨r, rr, r0⟩ := hr (fun e => by rw [e] at p1; exact z1 (Nat.le_zero.mp p1)) (fun e => by rw [e] at q1; exact z2 (Nat.le_zero.mp q1)) ne
          obtain ⟨t, ht⟩ := rt_es rr
          refine hr2 rfl t ⟨ht n1 A B ?_, ht n2 C D ?_⟩
          · rw [p3, hL, r0]
            grind
          · rw [q3, hM, r0]
            grind
        subst hK
        show Φ (.tuple [c_UNIT])
        exact h
/-- two rows that are nought -/
theorem T_commonR_none (h : Φ (.tuple [])) : F_common [.tuple [], .tuple []] Φ := by
  unfold F_common mkF b_common
  refine ⟨rfl, ?_⟩
  show F_whole_parts [.tuple (([] : List Cn).map nm)] _
  refine parts_normed (n := 0) (L := []) (Dn := 1) (by decide) (by unfold Bd; decide) (by decide) (fun z hz => by cases hz) (fun z hz => by cases hz) (by decide) fun X Y b hN => ?_
  refine ⟨rfl, ?_⟩
  show F_normed [X, Y] _
  refine hN _ fun n1 A B c1 p1 p2 p3 p4 p5 => ?_
  show F_whole_parts [.tuple (([] : List Cn).map nm)] _
  refine parts_normed (n := 0) (L := []) (Dn := 1) (by decide) (by unfold Bd; decide) (by decide) (fun z hz => by cases hz) (fun z hz => by cases hz) (by decide) fun X2 Y2 b2 hN2 => ?_
  refine ⟨rfl, ?_⟩
  show F_normed [X2, Y2] _
  refine hN2 _ fun n2 C D c2 q1 q2 q3 q4 q5 => ?_
  have z1 : n1 = 0 := Nat.le_zero.mp p1
  have z2 : n2 = 0 := Nat.le_zero.mp q1
  subst z1
  subst z2
  refine ⟨1, ?_⟩
  unfold whW
  refine ⟨rfl, ?_⟩
  show _ ∧ Φ (.tuple [])
  exact ⟨Nat.zero_le _, h⟩
end


/-! QBK: numbers over one number below, of a size; the laws' own product of such rows. -/

/-! ### over one number below -/
def Nb (D : Int) (n : Nat) (z : Cn) : Prop := ∃ a b : Int, Bd n a ∧ Bd n b ∧ z = ⟨qd a D, qd b D⟩
theorem Nb.mono {D : Int} {n m : Nat} {z : Cn} (h : Nb D n z) (k : n ≤ m) : Nb D m z := by
  obtain ⟨a, b, h1, h2, h3⟩ := h
  exact ⟨a, b, h1.mono k, h2.mono k, h3⟩
theorem Nb.ov {D : Int} {n : Nat} {z : Cn} (D0 : D ≠ 0) (h : Nb D n z) : Ov D z := by
  obtain ⟨a, b, _, _, rfl⟩ := h
  exact Ov.of D0
theorem Nb.zero {D : Int} : Nb D 0 (0 : Cn) := ⟨0, 0, by unfold Bd; decide, by unfold Bd; decide, (cn_zero_qd D).symm⟩
theorem Nb.add {D : Int} {n m : Nat} {x y : Cn} (h : Nb D n x) (k : Nb D m y) : Nb D (max n m + 1) (x + y) := by
  obtain ⟨a, b, h1, h2, rfl⟩ := h
  obtain ⟨c, d, k1, k2, rfl⟩ := k
  exact ⟨a + c, b + d, h1.add k1, h2.add k2, (cn_add_qd ..).symm⟩
theorem Nb.mul {D E : Int} {n m : Nat} {x y : Cn} (D0 : D ≠ 0) (E0 : E ≠ 0) (h : Nb D n x) (k : Nb E m y) : Nb (D * E) (n + m + 1) (x * y) := by
  obtain ⟨a, b, h1, h2, rfl⟩ := h
  obtain ⟨c, d, k1, k2, rfl⟩ := k
  exact ⟨a * c - b * d, a * d + b * c, ((h1.mul k1).sub (h2.mul k2)).mono (by omega), ((h1.mul k2).add (h2.mul k1)).mono (by omega), (tr_mul a b D c d E D0 E0).symm⟩
theorem Nb.ts {D : Int} {n : Nat} {z : Cn} (D0 : 0 < D) (D6 : Bd n D) (h : Nb D n z) : Ts n z := by
  obtain ⟨a, b, h1, h2, h3⟩ := h
  exact ⟨a, b, D, D0, h1, h2, D6, h3⟩
theorem Nb.tc {D : Int} {n : Nat} {z : Cn} (D0 : 0 < D) (h : Nb D n z) : tc z ∣ D := by
  obtain ⟨a, b, _, _, rfl⟩ := h
  exact tc_dvd D0
theorem sm_nb {z : Cn} (h : Sm z) : Nb 6 6 z := by
  have c := h.ts.cs
  have o := h.ov
  exact ⟨ov 6 z.re, ov 6 z.im, (ov_bd (m := 3) (cs_re c) (by decide) (by unfold Bd; decide) o.1).mono (by decide), (ov_bd (m := 3) (cs_im c) (by decide) (by unfold Bd; decide) o.2).mono (by decide), o.ex (by decide)⟩
theorem innC_one {β : Type} (f : β → Cn) : ∀ (ys : List β) (s k : Nat), innC f ys s k = 0 ∨ ∃ y ∈ ys, innC f ys s k = f y
  | [], _, _ => Or.inl rfl
  | y :: ys, s, k => by
    show (if s = k then f y else 0) + innC f ys (s + 1) k = 0 ∨ ∃ z ∈ y :: ys, (if s = k then f y else 0) + innC f ys (s + 1) k = f z
    by_cases h : s = k
    · rw [if_pos h]
      have e : innC f ys (s + 1) k = 0 := by
        have : ∀ (ys : List β) (s : Nat), k < s → innC f ys s k = 0 := fun ys => by
          induction ys with
          | nil => exact fun _ _ => rfl
          | cons w ws ih =>
            intro s hs
            show (if s = k then f w else 0) + innC f ws (s + 1) k = 0
            rw [if_neg (by omega), ih (s + 1) (by omega)]
            grind
        exact this ys (s + 1) (by omega)
      rw [e]
      exact Or.inr ⟨y, List.mem_cons_self .., by grind⟩
    · rw [if_neg h]
      rcases innC_one f ys (s + 1) k with e | ⟨z, hz, e⟩
      · rw [e]
        exact Or.inl (by grind)
      · rw [e]
        exact Or.inr ⟨z, List.mem_cons_of_mem _ hz, by grind⟩
theorem nb_out {D E : Int} {n m : Nat} (D0 : D ≠ 0) (E0 : E ≠ 0) (M : List Cn) (hM : ∀ w ∈ M, Nb E m w) : ∀ (L : List Cn) (s k : Nat), (∀ z ∈ L, Nb D n z) → Nb (D * E) (n + m + 1 + L.length) (outC (fun z w => z * w) L M s k)
  | [], s, k, _ => Nb.zero.mono (by omega)
  | z :: L, s, k, h => by
    have h1 := nb_out D0 E0 M hM L (s + 1) k fun w hw => h w (List.mem_cons_of_mem _ hw)
    have h2 : Nb (D * E) (n + m + 1) (innC (fun w => z * w) M s k) := by
      rcases innC_one (fun w => z * w) M s k with e | ⟨w, hw, e⟩
      · rw [e]; exact Nb.zero.mono (by omega)
      · rw [e]; exact (h z (List.mem_cons_self ..)).mul D0 E0 (hM w hw)
    exact (h2.add h1).mono (by rw [List.length_cons]; omega)
theorem nb_cv {D E : Int} {n m : Nat} {L M : List Cn} (D0 : D ≠ 0) (E0 : E ≠ 0) (hL : ∀ z ∈ L, Nb D n z) (hM : ∀ w ∈ M, Nb E m w) (k : Nat) : Nb (D * E) (n + m + 1 + L.length) (cv L M k) :=
  nb_out D0 E0 M hM L 0 k hL
theorem nb_pmul {D E : Int} {n m : Nat} {L M : List Cn} (D0 : D ≠ 0) (E0 : E ≠ 0) (hL : ∀ z ∈ L, Nb D n z) (hM : ∀ w ∈ M, Nb E m w) : ∀ z ∈ pmul L M, Nb (D * E) (n + m + 1 + L.length) z := by
  intro z hz
  unfold pmul at hz
  split at hz
  · cases hz
  · obtain ⟨k, _, rfl⟩ := List.mem_map.mp hz
    exact nb_cv D0 E0 hL hM k
section
variable {Φ : PyData → Prop} {n m k q : Nat} {A : Addr} {P : Post} {Ψ : List PyData → Prop} {D E : Int}
theorem bd_quotN {b : Int} {z : Cn} (D0 : D ≠ 0) (D6 : Bd 64 D) (b0 : 0 < b) (b6 : b ∣ D) (h : tc z ∣ b) : Bd 64 (b.fdiv (tc z)) := by
  obtain ⟨t, rfl⟩ := h
  have hd : tc z ≠ 0 := by have := tc_pos z; omega
  rw [Int.mul_fdiv_cancel_left _ hd]
  exact dvd_bd (Int.dvd_trans ⟨tc z, by rw [Int.mul_comm]⟩ b6) D0 D6
theorem low_loopN (D0 : D ≠ 0) (D6 : Bd 64 D) {a0 a1 a2 a3 a4 a7 a8 a9 a10 a11 a12 a13 a14 a15 : Sl} : ∀ (L : List Cn) (b : Int) (a6 : Sl), (∀ z ∈ L, tc z ∣ D) → 0 < b → b ∣ D → (∀ b' : Int, 0 < b' → b' ∣ D → b ∣ b' → (∀ z ∈ L, tc z ∣ b') → ∀ a6, P.N [a0, a1, a2, a3, a4, .d (.int b'), a6, a7, a8, a9, a10, a11, a12, a13, a14, a15]) →
    forW (vgN 6) (vAsg 5 (vOp oMul (vOp oDiv (vVar 5) (vCall F__law_gcd (vCons (vVar 5) (vCons (vOp oIx (vVar 6) (vC (.int 2))) vNil)))) (vOp oIx (vVar 6) (vC (.int 2))))) (L.map tq) [a0, a1, a2, a3, a4, .d (.int b), a6, a7, a8, a9, a10, a11, a12, a13, a14, a15] P := by
  intro L
  induction L with
  | nil => exact fun b a6 _ h0 h6 h => h b h0 h6 (Int.dvd_refl _) (fun z hz => by simp at hz) a6
  | cons z L ih =>
    intro b a6 hL h0 h6 h
    have hz := hL z (List.mem_cons_self ..)
    have c0 := tc_pos z
    show F__law_gcd [.int b, .int (tc z)] _
    refine T_gcd ?_
    show _ ∧ _ ∧ _
    have hn := gcd_ne b (tc z) (by omega)
    have hg := gcd_bd b (tc z) (by omega) (dvd_bd hz D0 D6)
    have e := low_lcm h0 c0
    have key : Bd 64 (b.fdiv ((Nat.gcd b.natAbs (tc z).natAbs : Nat) : Int)) := by
      obtain ⟨t, ht⟩ : ((Nat.gcd b.natAbs (tc z).natAbs : Nat) : Int) ∣ b := Int.natAbs_dvd_natAbs.mp (by rw [Int.natAbs_natCast]; exact Nat.gcd_dvd_left _ _)
      have e2 : b.fdiv ((Nat.gcd b.natAbs (tc z).natAbs : Nat) : Int) = t := by
        conv => lhs; lhs; rw [ht]
        exact Int.mul_fdiv_cancel_left _ hn
      rw [e2]
      exact (dvd_bd (Int.dvd_trans ⟨_, by rw [Int.mul_comm]; exact ht⟩ h6) D0 D6)
    refine ⟨div9 hg hn (by decide), mul9 key (dvd_bd hz D0 D6) (by decide), ?_⟩
    show forW _ _ _ [_, _, _, _, _, .d (.int (b.fdiv ((Nat.gcd b.natAbs (tc z).natAbs : Nat) : Int) * tc z)), _, _, _, _, _, _, _, _, _, _] _
    rw [e]
    refine ih _ _ (fun w hw => hL w (List.mem_cons_of_mem _ hw)) (lcm_pos h0 c0) (lcmD h6 hz) fun b' b0 b6 hb hd a6 => ?_
    refine h b' b0 b6 (Int.dvd_trans (dvd_lcm1 _ _) hb) (fun w hw => ?_) a6
    rcases List.mem_cons.mp hw with rfl | hw
    · exact Int.dvd_trans (dvd_lcm2 _ _) hb
    · exact hd w hw
theorem row_stepN (D0 : D ≠ 0) (D6 : Bd 64 D) (hn : n ≤ 100000) {a0 a1 a5 a6 a7 a8 a9 a10 a11 a12 a13 a14 a15 : Sl} {L : List Cn} {ws : List PyData} {d : Int} (hL : ∀ z ∈ L, tc z ∣ D) (tL : ∀ z ∈ L, Ts n z) (hl : L.length ≤ 1000) (hw : ws.length ≤ 10) (hd : Bd 64 d)
    (h : ∀ b : Int, 0 < b → b ∣ D → (∀ z ∈ L, tc z ∣ b) → ∀ a6, P.N [a0, a1, .m (ws ++ [.list (L.map (pr b))]), .d (.int (d * b)), .d (.list (L.map tq)), .d (.int b), a6, a7, a8, a9, a10, a11, a12, a13, a14, a15]) :
    rowBody [a0, a1, .m ws, .d (.int d), .d (.list (L.map tq)), a5, a6, a7, a8, a9, a10, a11, a12, a13, a14, a15] P := by
  show forW _ _ (L.map tq) [a0, a1, .m ws, .d (.int d), .d (.list (L.map tq)), .d (.int 1), a6, a7, a8, a9, a10, a11, a12, a13, a14, a15] _
  refine low_loopN D0 D6 L 1 a6 hL (by decide) (Int.one_dvd _) fun b b0 b6 _ hb a6 => ?_
  show _ ∧ _ ∧ lcW _ (L.map tq) [] _
  refine ⟨by rw [sizeLine_eq]; omega, by rw [List.length_map, sizeLine_eq]; omega, ?_⟩
  refine lc_map (f := pr b) (g := tq) L [] (fun z hz K hK => ?_) ?_
  · obtain ⟨t1, t2, t3⟩ := (tL z hz).bd
    have dz : CDivX b (tc z) := div9 (dvd_bd (hL z hz) D0 D6) (by have := tc_pos z; omega) (by decide)
    have q := bd_quotN D0 D6 b0 b6 (hb z hz)
    show _ ∧ _ ∧ _ ∧ _ ∧ _
    exact ⟨dz, mul9 t1 q (by omega), dz, mul9 t2 q (by omega), hK⟩
  · rw [List.nil_append]
    show _ ∧ _
    exact ⟨mul9 hd (dvd_bd b6 D0 D6) (by decide), h b b0 b6 hb a6⟩
theorem dbl_stepN (hq : q ≤ 1000000) {a0 a1 a3 a4 a5 a6 a7 a12 a13 a14 a15 : Sl} {L M : List Cn} {b c : Int} {N i j : Nat} {S T : Nat → Int} {z w : Cn} (hi : L[i]? = some z) (hj : M[j]? = some w) (hN : i + j < N)
    (z1 : Bd q (wa b z)) (z2 : Bd q (wb b z)) (w1 : Bd q (wa c w)) (w2 : Bd q (wb c w))
    (h : ∀ a12 a13 a14 a15, P.N [a0, a1, .m [.list (L.map (pr b)), .list (M.map (pr c))], a3, a4, a5, a6, a7, .m (mk N fun k => S k + if i + j = k then wa b z * wa c w - wb b z * wb c w else 0), .m (mk N fun k => T k + if i + j = k then wa b z * wb c w + wb b z * wa c w else 0), .d (.int (i : Int)), .d (.int (j : Int)), a12, a13, a14, a15]) :
    dblBody [a0, a1, .m [.list (L.map (pr b)), .list (M.map (pr c))], a3, a4, a5, a6, a7, .m (mk N S), .m (mk N T), .d (.int (i : Int)), .d (.int (j : Int)), a12, a13, a14, a15] P := by
  show oIx (.tuple (L.map (pr b))) (.int (i : Int)) _
  refine ix_nat (d := pr b z) (by rw [List.getElem?_map, hi]; rfl) ?_
  refine ⟨rfl, ?_⟩
  show oIx (.tuple (M.map (pr c))) (.int (j : Int)) _
  refine ix_nat (d := pr c w) (by rw [List.getElem?_map, hj]; rfl) ?_
  refine ⟨rfl, ?_⟩
  have e1 : (i : Int) + (j : Int) = ((i + j : Nat) : Int) := by omega
  show oIx (.tuple (mk N S)) (.int ((i : Int) + (j : Int))) _
  rw [e1]
  refine ix_nat (mk_at S hN) ?_
  show _ ∧ _ ∧ (match ixN (mk N S).length (((i : Int) + (j : Int))) with | some n => _ | none => False)
  rw [e1, mk_len, ixN_nat hN]
  refine ⟨mul9 z1 w1 (by omega), mul9 z2 w2 (by omega), ?_⟩
  show oIx (.tuple (mk N T)) (.int ((i : Int) + (j : Int))) _
  rw [e1]
  refine ix_nat (mk_at T hN) ?_
  show _ ∧ _ ∧ (match ixN (mk N T).length (((i : Int) + (j : Int))) with | some n => _ | none => False)
  rw [e1, mk_len, ixN_nat hN]
  refine ⟨mul9 z1 w2 (by omega), mul9 z2 w1 (by omega), ?_⟩
  show P.N [_, _, _, _, _, _, _, _, .m ((mk N S).set (i + j) (.int (S (i + j) + wa b z * wa c w - wb b z * wb c w))), .m ((mk N T).set (i + j) (.int (T (i + j) + wa b z * wb c w + wb b z * wa c w))), _, _, _, _, _, _]
  rw [Int.add_sub_assoc, Int.add_assoc, mk_set S _ hN, mk_set T _ hN]
  exact h _ _ _ _
theorem dbl_innN (hq : q ≤ 1000000) {a0 a1 a3 a4 a5 a6 a7 : Sl} {L M : List Cn} {b c : Int} {N i : Nat} {z : Cn} (hi : L[i]? = some z) (z1 : Bd q (wa b z)) (z2 : Bd q (wb b z)) (hM : ∀ w ∈ M, Bd q (wa c w) ∧ Bd q (wb c w)) : ∀ (ws : List Cn) (j : Nat) (S T : Nat → Int) (a11 a12 a13 a14 a15 : Sl), (∀ t, t < ws.length → M[j + t]? = ws[t]?) → i + j + ws.length ≤ N →
    (∀ a11 a12 a13 a14 a15, P.N [a0, a1, .m [.list (L.map (pr b)), .list (M.map (pr c))], a3, a4, a5, a6, a7, .m (mk N fun k => S k + innG (tA b c z) ws (i + j) k), .m (mk N fun k => T k + innG (tB b c z) ws (i + j) k), .d (.int (i : Int)), a11, a12, a13, a14, a15]) →
    forW (vgN 11) dblBody (rgD (j : Int) ws.length) [a0, a1, .m [.list (L.map (pr b)), .list (M.map (pr c))], a3, a4, a5, a6, a7, .m (mk N S), .m (mk N T), .d (.int (i : Int)), a11, a12, a13, a14, a15] P := by
  intro ws
  induction ws with
  | nil =>
    intro j S T a11 a12 a13 a14 a15 _ _ h
    have e1 : (mk N fun k => S k + innG (tA b c z) [] (i + j) k) = mk N S := mk_congr fun k => Int.add_zero _
    have e2 : (mk N fun k => T k + innG (tB b c z) [] (i + j) k) = mk N T := mk_congr fun k => Int.add_zero _
    have := h a11 a12 a13 a14 a15
    rw [e1, e2] at this
    exact this
  | cons w ws ih =>
    intro j S T a11 a12 a13 a14 a15 hw hN h
    rw [List.length_cons] at hN ⊢
    rw [rg_succ]
    have hj : M[j]? = some w := by have := hw 0 (by simp); simpa using this
    have hb := hM w (List.mem_of_getElem? hj)
    have en : ((j : Int) + 1) = ((j + 1 : Nat) : Int) := by omega
    unfold forW
    show dblBody [a0, a1, .m [.list (L.map (pr b)), .list (M.map (pr c))], a3, a4, a5, a6, a7, .m (mk N S), .m (mk N T), .d (.int (i : Int)), .d (.int (j : Int)), a12, a13, a14, a15] _
    refine dbl_stepN hq hi hj (by omega) z1 z2 hb.1 hb.2 fun a12 a13 a14 a15 => ?_
    show forW _ _ (rgD ((j : Int) + 1) ws.length) _ _
    rw [en]
    refine ih (j + 1) _ _ _ _ _ _ _ (fun t ht => by have := hw (t + 1) (by simp; omega); rw [show j + (t + 1) = j + 1 + t by omega] at this; simpa using this) (by omega) fun a11 a12 a13 a14 a15 => ?_
    have e1 : (mk N fun k => (S k + if i + j = k then wa b z * wa c w - wb b z * wb c w else 0) + innG (tA b c z) ws (i + (j + 1)) k) = mk N fun k => S k + innG (tA b c z) (w :: ws) (i + j) k := mk_congr fun k => Int.add_assoc _ _ _
    have e2 : (mk N fun k => (T k + if i + j = k then wa b z * wb c w + wb b z * wa c w else 0) + innG (tB b c z) ws (i + (j + 1)) k) = mk N fun k => T k + innG (tB b c z) (w :: ws) (i + j) k := mk_congr fun k => Int.add_assoc _ _ _
    rw [e1, e2]
    exact h _ _ _ _ _
theorem dbl_outN (hq : q ≤ 1000000) {a0 a3 a4 a5 a6 a7 : Sl} {L M : List Cn} {b c : Int} {N : Nat} (hlM : M.length ≤ 1000) (hL : ∀ w ∈ L, Bd q (wa b w) ∧ Bd q (wb b w)) (hM : ∀ w ∈ M, Bd q (wa c w) ∧ Bd q (wb c w)) : ∀ (zs : List Cn) (i : Nat) (S T : Nat → Int) (a10 a11 a12 a13 a14 a15 : Sl), (∀ t, t < zs.length → L[i + t]? = zs[t]?) → (zs ≠ [] → i + zs.length + M.length ≤ N + 1) →
    (∀ a10 a11 a12 a13 a14 a15, P.N [a0, .d (.list (M.map tq)), .m [.list (L.map (pr b)), .list (M.map (pr c))], a3, a4, a5, a6, a7, .m (mk N fun k => S k + outG (tA b c) zs M i k), .m (mk N fun k => T k + outG (tB b c) zs M i k), a10, a11, a12, a13, a14, a15]) →
    forW (vgN 10) (vFor (vR1 (vCons (vB oLen (vCons (vVar 1) vNil)) vNil)) (vgN 11) dblBody) (rgD (i : Int) zs.length) [a0, .d (.list (M.map tq)), .m [.list (L.map (pr b)), .list (M.map (pr c))], a3, a4, a5, a6, a7, .m (mk N S), .m (mk N T), a10, a11, a12, a13, a14, a15] P := by
  intro zs
  induction zs with
  | nil =>
    intro i S T a10 a11 a12 a13 a14 a15 _ _ h
    have e1 : (mk N fun k => S k + outG (tA b c) [] M i k) = mk N S := mk_congr fun k => Int.add_zero _
    have e2 : (mk N fun k => T k + outG (tB b c) [] M i k) = mk N T := mk_congr fun k => Int.add_zero _
    have := h a10 a11 a12 a13 a14 a15
    rw [e1, e2] at this
    exact this
  | cons z zs ih =>
    intro i S T a10 a11 a12 a13 a14 a15 hz hN h
    have hN2 := hN (List.cons_ne_nil _ _)
    rw [List.length_cons] at hN2 ⊢
    rw [rg_succ]
    have hi : L[i]? = some z := by have := hz 0 (by simp); simpa using this
    have hb := hL z (List.mem_of_getElem? hi)
    have en : ((i : Int) + 1) = ((i + 1 : Nat) : Int) := by omega
    unfold forW
    show (_ ∧ _) ∧ forW (vgN 11) dblBody (rgD 0 (((M.map tq).length : Int)).toNat) [a0, .d (.list (M.map tq)), .m [.list (L.map (pr b)), .list (M.map (pr c))], a3, a4, a5, a6, a7, .m (mk N S), .m (mk N T), .d (.int (i : Int)), a11, a12, a13, a14, a15] _
    rw [List.length_map, Int.toNat_natCast]
    refine ⟨⟨by omega, by omega⟩, ?_⟩
    refine dbl_innN hq hi hb.1 hb.2 hM M 0 S T _ _ _ _ _ (fun t _ => by rw [Nat.zero_add]) (by omega) fun a11 a12 a13 a14 a15 => ?_
    show forW _ _ (rgD ((i : Int) + 1) zs.length) _ _
    rw [en]
    refine ih (i + 1) _ _ _ _ _ _ _ _ (fun t ht => by have := hz (t + 1) (by simp; omega); rw [show i + (t + 1) = i + 1 + t by omega] at this; simpa using this) (fun _ => by omega) fun a10 a11 a12 a13 a14 a15 => ?_
    have e1 : (mk N fun k => (S k + innG (tA b c z) M (i + 0) k) + outG (tA b c) zs M (i + 1) k) = mk N fun k => S k + outG (tA b c) (z :: zs) M i k := mk_congr fun k => Int.add_assoc _ _ _
    have e2 : (mk N fun k => (T k + innG (tB b c z) M (i + 0) k) + outG (tB b c) zs M (i + 1) k) = mk N fun k => T k + outG (tB b c) (z :: zs) M i k := mk_congr fun k => Int.add_assoc _ _ _
    rw [e1, e2]
    exact h _ _ _ _ _ _
theorem bd_wN {b : Int} {z : Cn} (D0 : D ≠ 0) (D6 : Bd 64 D) (tz : Ts n z) (b0 : 0 < b) (b6 : b ∣ D) (h : tc z ∣ b) : Bd (n + 64) (wa b z) ∧ Bd (n + 64) (wb b z) := by
  obtain ⟨t1, t2, _⟩ := tz.bd
  have q := bd_quotN D0 D6 b0 b6 h
  exact ⟨t1.mul q, t2.mul q⟩
theorem times_finN {a0 a1 a2 a4 a5 a6 a7 a10 a11 a12 a13 a14 a15 : Sl} {L M : List Cn} {b c : Int} {N : Nat} (hN : N ≤ 1000) (b0 : 0 < b) (c0 : 0 < c) (b6 : Bd 64 b) (c6 : Bd 64 c) (hb : ∀ z ∈ L, tc z ∣ b) (hc : ∀ z ∈ M, tc z ∣ c) (h7 : a7 = .d (.int (N : Int))) (h : Φ (.list ((tr ((List.range N).map (cv L M))).map tq))) :
    (vRet (vCall F__law_trim (vCons (vOf (vLc [11] (vR1 (vCons (vVar 7) vNil)) (vgN 11) vYes (vCall F__law_cut (vCons (vIxV 8 (vVar 11)) (vCons (vIxV 9 (vVar 11)) (vCons (vVar 3) vNil)))))) vNil))) [a0, a1, a2, .d (.int (b * c)), a4, a5, a6, a7, .m (mk N (outG (tA b c) L M 0)), .m (mk N (outG (tB b c) L M 0)), a10, a11, a12, a13, a14, a15] ⟨fun _ => Φ .none, Φ, Nev, Nev⟩ := by
  subst h7
  show (_ ∧ _) ∧ _ ∧ lcW _ (rgD 0 ((N : Int)).toNat) [] _
  rw [Int.toNat_natCast]
  refine ⟨⟨by omega, by omega⟩, by rw [show (rgD 0 N).length = N by simp [rgD], sizeLine_eq]; omega, ?_⟩
  unfold rgD
  refine lc_map (f := fun k => tq (cv L M k)) (g := fun k : Nat => PyData.int (0 + (k : Int))) _ [] (fun k hk K hK => ?_) ?_
  · have hk2 : k < N := by simpa using hk
    rw [Int.zero_add]
    show oIx (.tuple (mk N (outG (tA b c) L M 0))) (.int (k : Int)) _
    refine ix_nat (mk_at _ hk2) ?_
    show oIx (.tuple (mk N (outG (tB b c) L M 0))) (.int (k : Int)) _
    refine ix_nat (mk_at _ hk2) ?_
    refine T_cut0 (n := 64 + 64) (Int.mul_pos b0 c0) (b6.mul c6) (by decide) ?_
    rw [cv_two b0 c0 hb hc k]
    exact hK
  · rw [List.nil_append]
    have e : (List.range N).map (fun k => tq (cv L M k)) = ((List.range N).map (cv L M)).map tq := by
      rw [List.map_map]
      rfl
    rw [e]
    exact T_trim0 (by rw [List.length_map, List.length_range]; exact hN) h
theorem times_restN (D0 : D ≠ 0) (D6 : Bd 64 D) (E0 : E ≠ 0) (E6 : Bd 64 E) (hn : n ≤ 100000) {a0 a4 a5 a6 a10 a11 a12 a13 a14 a15 : Sl} {L M : List Cn} {b c : Int} (h0 : a0 = .d (.list (L.map tq))) (tL : ∀ z ∈ L, Ts n z) (tM : ∀ z ∈ M, Ts n z) (l1 : L.length ≤ 400) (l2 : M.length ≤ 400) (b0 : 0 < b) (c0 : 0 < c) (b6 : b ∣ D) (c6 : c ∣ E) (hb : ∀ z ∈ L, tc z ∣ b) (hc : ∀ z ∈ M, tc z ∣ c) (h : Φ (.list ((tr ((List.range (L.length + M.length - 1)).map (cv L M))).map tq))) :
    (vSeqS (vPar2 8 9 (fM (vRep (vCons (vC (.int 0)) vNil) (vVar 7))) (fM (vRep (vCons (vC (.int 0)) vNil) (vVar 7)))) (vSeqS (vFor (vR1 (vCons (vB oLen (vCons (vVar 0) vNil)) vNil)) (vgN 10) (vFor (vR1 (vCons (vB oLen (vCons (vVar 1) vNil)) vNil)) (vgN 11) dblBody)) (vRet (vCall F__law_trim (vCons (vOf (vLc [11] (vR1 (vCons (vVar 7) vNil)) (vgN 11) vYes (vCall F__law_cut (vCons (vIxV 8 (vVar 11)) (vCons (vIxV 9 (vVar 11)) (vCons (vVar 3) vNil)))))) vNil)))))
      [a0, .d (.list (M.map tq)), .m [.list (L.map (pr b)), .list (M.map (pr c))], .d (.int (b * c)), a4, a5, a6, .d (.int ((L.length + M.length - 1 : Nat) : Int)), .un, .un, a10, a11, a12, a13, a14, a15] ⟨fun _ => Φ .none, Φ, Nev, Nev⟩ := by
  subst h0
  obtain ⟨N, hN⟩ : ∃ N, N = L.length + M.length - 1 := ⟨_, rfl⟩
  rw [← hN] at h ⊢
  show (_ ∧ _ ∧ _) ∧ (_ ∧ _ ∧ _) ∧ _ ∧ forW (vgN 10) _ (rgD 0 (((L.map tq).length : Int)).toNat) [_, _, _, _, _, _, _, _, .m (List.replicate ((N : Int)).toNat [PyData.int 0]).flatten, .m (List.replicate ((N : Int)).toNat [PyData.int 0]).flatten, _, _, _, _, _, _] _
  rw [List.length_map, Int.toNat_natCast, Int.toNat_natCast, flat_mk (.int 0)]
  refine ⟨⟨by omega, by omega, by rw [sizeLine_eq]; show 1 * N ≤ _; omega⟩, ⟨by omega, by omega, by rw [sizeLine_eq]; show 1 * N ≤ _; omega⟩, ⟨by omega, by omega⟩, ?_⟩
  refine dbl_outN (q := n + 64) (by omega) (by omega) (fun w hw => bd_wN D0 D6 (tL w hw) b0 b6 (hb w hw)) (fun w hw => bd_wN E0 E6 (tM w hw) c0 c6 (hc w hw)) L 0 (fun _ => 0) (fun _ => 0) _ _ _ _ _ _ (fun t _ => by rw [Nat.zero_add]) (fun ne => by have := List.length_pos_iff.mpr ne; omega) fun a10 a11 a12 a13 a14 a15 => ?_
  have e1 : (mk N fun k => (fun _ => (0 : Int)) k + outG (tA b c) L M 0 k) = mk N (outG (tA b c) L M 0) := mk_congr fun k => Int.zero_add _
  have e2 : (mk N fun k => (fun _ => (0 : Int)) k + outG (tB b c) L M 0 k) = mk N (outG (tB b c) L M 0) := mk_congr fun k => Int.zero_add _
  rw [e1, e2]
  exact times_finN (by omega) b0 c0 (dvd_bd b6 D0 D6) (dvd_bd c6 E0 E6) hb hc rfl h
theorem T_row_timesN {L M : List Cn} (D0 : D ≠ 0) (D6 : Bd 64 D) (E0 : E ≠ 0) (E6 : Bd 64 E) (hn : n ≤ 100000) (hL : ∀ z ∈ L, tc z ∣ D) (hM : ∀ z ∈ M, tc z ∣ E) (tL : ∀ z ∈ L, Ts n z) (tM : ∀ z ∈ M, Ts n z) (l1 : L.length ≤ 400) (l2 : M.length ≤ 400) (h : Φ (.list ((tr ((List.range (L.length + M.length - 1)).map (cv L M))).map tq))) : F__law_row_times [.list (L.map tq), .list (M.map tq)] Φ := by
  unfold F__law_row_times mkF b__law_row_times
  refine ⟨rfl, ?_⟩
  show rowBody [_, _, .m [], .d (.int 1), .d (.list (L.map tq)), .un, .un, .un, .un, .un, .un, .un, .un, .un, .un, .un] _
  refine row_stepN D0 D6 hn hL tL (by omega) (by simp) (by unfold Bd; decide) fun b b0 b6 hb a6 => ?_
  show rowBody [_, _, .m [.list (L.map (pr b))], .d (.int (1 * b)), .d (.list (M.map tq)), .d (.int b), a6, .un, .un, .un, .un, .un, .un, .un, .un, .un] _
  rw [Int.one_mul]
  refine row_stepN E0 E6 hn hM tM (by omega) (by simp) (dvd_bd b6 D0 D6) fun c c0 c6 hc a6 => ?_
  have e : (if ((((L.map tq).length : Nat) : Int) + (((M.map tq).length : Nat) : Int) - 1) > 0 then ((((L.map tq).length : Nat) : Int) + (((M.map tq).length : Nat) : Int) - 1) else 0) = ((L.length + M.length - 1 : Nat) : Int) := by
    rw [List.length_map, List.length_map]
    split <;> omega
  have key := times_restN (a4 := .d (.list (M.map tq))) (a5 := .d (.int c)) (a6 := a6) (a10 := .un) (a11 := .un) (a12 := .un) (a13 := .un) (a14 := .un) (a15 := .un) D0 D6 E0 E6 hn rfl tL tM l1 l2 b0 c0 b6 c6 hb hc h
  rw [← e] at key
  exact key
end


/-! QBL: the package's division of rows. -/
def mkC (n : Nat) (W : Nat → Cn) : List PyData := (List.range n).map fun k => nm (W k)
theorem mkC_len (n : Nat) (W : Nat → Cn) : (mkC n W).length = n := by unfold mkC; rw [List.length_map, List.length_range]
theorem mkC_at {N k : Nat} (W : Nat → Cn) (h : k < N) : (mkC N W)[k]? = some (nm (W k)) := by
  unfold mkC
  rw [List.getElem?_map, List.getElem?_range h]
  rfl
theorem mkC_put {N n : Nat} (W : Nat → Cn) (v : Cn) (h : n < N) : (mkC N W).set n (nm v) = mkC N fun k => if k = n then v else W k := by
  refine List.ext_getElem? fun k => ?_
  rw [List.getElem?_set]
  by_cases h1 : k < N
  · rw [mkC_at _ h1, mkC_len]
    by_cases h2 : n = k
    · subst h2
      rw [if_pos rfl, if_pos h1, mkC_at _ h1, if_pos rfl]
    · rw [if_neg h2, mkC_at _ h1, if_neg (Ne.symm h2)]
  · have e1 : (mkC N fun k => if k = n then v else W k)[k]? = none := List.getElem?_eq_none (by rw [mkC_len]; omega)
    have e2 : (mkC N W)[k]? = none := List.getElem?_eq_none (by rw [mkC_len]; omega)
    rw [if_neg (by omega), e1, e2]
theorem mkC_congr {N : Nat} {W W' : Nat → Cn} (h : ∀ k, k < N → W k = W' k) : mkC N W = mkC N W' := by
  unfold mkC
  exact List.map_congr_left fun k hk => by rw [h k (List.mem_range.mp hk)]
theorem mkC_row (L : List Cn) : mkC L.length (cf L) = L.map nm := by
  conv => rhs; rw [← range_cf L]
  unfold mkC
  rw [List.map_map]
  rfl
theorem outC_snoc {α β : Type} (f : α → β → Cn) (x : α) (ys : List β) : ∀ (xs : List α) (s k : Nat), outC f (xs ++ [x]) ys s k = outC f xs ys s k + innC (f x) ys (s + xs.length) k
  | [], s, k => by
    show innC (f x) ys s k + 0 = 0 + innC (f x) ys (s + 0) k
    rw [Nat.add_zero]
    grind
  | z :: xs, s, k => by
    show innC (f z) ys s k + outC f (xs ++ [x]) ys (s + 1) k = (innC (f z) ys s k + outC f xs ys (s + 1) k) + innC (f x) ys (s + (xs.length + 1)) k
    rw [outC_snoc f x ys xs (s + 1) k, show s + 1 + xs.length = s + (xs.length + 1) by omega]
    grind
theorem innC_zero0 (ys : List Cn) (s k : Nat) : innC (fun y => (0 : Cn) * y) ys s k = 0 := by
  rcases innC_one (fun y => (0 : Cn) * y) ys s k with e | ⟨y, _, e⟩
  · exact e
  · rw [e]
    grind
def dW (F M R : List Cn) (t k : Nat) : Cn := cv (F.take t) M k + cf R k
theorem dW_step {F M R : List Cn} {t : Nat} (ht : t < F.length) (k : Nat) : dW F M R t k = dW F M R (t + 1) k - innC (fun y => cf F t * y) M t k := by
  have e : F.take (t + 1) = F.take t ++ [cf F t] := by
    rw [List.take_succ, cf_lt ht]
    rfl
  unfold dW cv
  rw [e, outC_snoc, List.length_take, Nat.min_eq_left (by omega), Nat.zero_add]
  grind
section
variable {Φ : PyData → Prop} {n m k q : Nat} {P : Post}
def dvI : WS := (vSetI 2 (vCall F_less (vCons (vIxV 2 (vOp oAdd (vVar 6) (vVar 8))) (vCons (vCall F_times (vCons (vVar 7) (vCons (vVar 9) vNil))) vNil))) (vOp oAdd (vVar 6) (vVar 8)))
theorem dv_inn {c : Cn} {a : Nat} (hq : q ≤ 1000) (tc' : Ts q c) {a0 a1 a3 a4 a5 : Sl} : ∀ (ws : List Cn) (j : Nat) (W : Nat → Cn) (a8 a9 : Sl), (∀ w ∈ ws, Ts q w) → (∀ k, a + j ≤ k → Cs q (W k)) → a + j + ws.length ≤ n →
    (∀ a8 a9, P.N [a0, a1, .m (mkC n fun k => W k - innC (fun y => c * y) ws (a + j) k), a3, a4, a5, .d (.int (a : Int)), .d (nm c), a8, a9]) →
    forW (vgT 2 (vgCons (vgN 8) (vgCons (vgN 9) vgNil))) dvI (((ws.map nm).zipIdx j).map fun q => .tuple [.int (q.2 : Nat), q.1]) [a0, a1, .m (mkC n W), a3, a4, a5, .d (.int (a : Int)), .d (nm c), a8, a9] P := by
  intro ws
  induction ws with
  | nil =>
    intro j W a8 a9 _ _ _ h
    have z := h a8 a9
    have e : (mkC n fun k => W k - innC (fun y => c * y) [] (a + j) k) = mkC n W := mkC_congr fun k _ => by
      show W k - 0 = W k
      grind
    rw [e] at z
    exact z
  | cons w ws ih =>
    intro j W a8 a9 hw hW hl h
    rw [List.length_cons] at hl
    have tw := hw w (List.mem_cons_self ..)
    have e1 : (a : Int) + (j : Int) = ((a + j : Nat) : Int) := by omega
    have h0 : a + j < n := by omega
    have pr := tc'.mul tw
    rw [List.map_cons, List.zipIdx_cons, List.map_cons]
    unfold forW
    refine ⟨rfl, ?_⟩
    show oIx (.tuple (mkC n W)) (.int ((a : Int) + (j : Int))) _
    rw [e1]
    refine ix_nat (mkC_at W h0) ?_
    show F_times [nm c, nm w] _
    refine T_times tc'.cs tw.cs (by omega) ?_
    refine T_less (hW (a + j) (Nat.le_refl _)) pr.cs (by omega) ?_
    show match ixN (mkC n W).length ((a : Int) + (j : Int)) with | some n => _ | none => False
    rw [e1, mkC_len, ixN_nat h0]
    show forW _ dvI _ [_, _, .m ((mkC n W).set (a + j) (nm (W (a + j) - c * w))), _, _, _, _, _, _, _] P
    rw [mkC_put _ _ h0]
    refine ih (j + 1) _ _ _ (fun v hv => hw v (List.mem_cons_of_mem _ hv)) (fun k hk => ?_) (by omega) fun a8 a9 => ?_
    · rw [if_neg (by omega)]
      exact hW k (by omega)
    · have z := h a8 a9
      have e : (mkC n fun k => W k - innC (fun y => c * y) (w :: ws) (a + j) k) = mkC n fun k => (if k = a + j then W (a + j) - c * w else W k) - innC (fun y => c * y) ws (a + (j + 1)) k := mkC_congr fun k _ => by
        show W k - ((if a + j = k then c * w else 0) + innC (fun y => c * y) ws (a + j + 1) k) = _
        rw [show a + (j + 1) = a + j + 1 by omega]
        by_cases g : k = a + j
        · rw [if_pos g.symm, if_pos g, g]
          grind
        · rw [if_neg (Ne.symm g), if_neg g]
          grind
      rw [e] at z
      exact z
def dvB : WS := (vSeqS (vAsg 7 (vCall F_times (vCons (vIxV 2 (vOp oSub (vOp oAdd (vVar 6) (vB oLen (vCons (vVar 1) vNil))) (vC (.int 1)))) (vCons (vVar 3) vNil)))) (vSeqS (vSetI 5 (vVar 7) (vVar 6)) (vIfS (vTest (vOp oNe (vVar 7) (vC c_NOUGHT))) (vFor (vEnumA (vCons (vVar 1) vNil)) (vgT 2 (vgCons (vgN 8) (vgCons (vgN 9) vgNil))) dvI) vNext)))
theorem dv_loop {F N R : List Cn} {w : Cn} (hq : q ≤ 1000) (hw : w ≠ 0) (hn : n + 1 = F.length + (N ++ [w]).length) (hR : R.length ≤ N.length) (tF : ∀ z ∈ F, Ts q z) (tM : ∀ z ∈ N ++ [w], Ts q z) (hW : ∀ t k, Cs q (dW F (N ++ [w]) R t k)) (tw : Ts q w) {a0 a4 : Sl} {s6 s7 s8 s9 : Sl}
    (hP : ∀ s6 s7 s8 s9, P.N [a0, .d (.tuple ((N ++ [w]).map nm)), .m (mkC n (dW F (N ++ [w]) R 0)), .d (nm (1 / w)), a4, .m (F.map nm), s6, s7, s8, s9]) :
    ∀ (t : Nat) (V : Nat → Cn) (s6 s7 s8 s9 : Sl), t ≤ F.length → (∀ k, t ≤ k → k < F.length → V k = cf F k) →
      forW (vgN 6) dvB (rgD 0 t).reverse [a0, .d (.tuple ((N ++ [w]).map nm)), .m (mkC n (dW F (N ++ [w]) R t)), .d (nm (1 / w)), a4, .m (mkC F.length V), s6, s7, s8, s9] P := by
  intro t
  induction t with
  | zero =>
    intro V s6 s7 s8 s9 _ hV
    have e : mkC F.length V = F.map nm := by
      rw [← mkC_row F]
      exact mkC_congr fun k hk => hV k (by omega) hk
    rw [e]
    exact hP s6 s7 s8 s9
  | succ t ih =>
    intro V s6 s7 s8 s9 ht hV
    have ht2 : t < F.length := by omega
    have hlen : (N ++ [w]).length = N.length + 1 := by simp
    have hc := tF _ (cf_mem ht2)
    have e1 : (t : Int) + ((((N ++ [w]).map nm).length : Nat) : Int) - 1 = ((t + N.length : Nat) : Int) := by
      rw [List.length_map, hlen]
      omega
    have h0 : t + N.length < n := by omega
    have top : dW F (N ++ [w]) R (t + 1) (t + N.length) = cf F t * w := by
      have e : F.take (t + 1) = F.take t ++ [cf F t] := by
        rw [List.take_succ, cf_lt ht2]
        rfl
      unfold dW cv
      have e2 := outC_last (fun z w => z * w) (cf F t) w N (F.take t) 0
      rw [List.length_take, Nat.min_eq_left (by omega), Nat.zero_add] at e2
      have e4 : cf R (t + N.length) = 0 := cf_ge (by omega)
      rw [e, e2, e4]
      grind
    have t1 : Ts (1 + q + q + 1) (1 / w) := ts_one.div tw hw
    rw [rg_back, Int.zero_add]
    unfold forW
    show oIx (.tuple (mkC n (dW F (N ++ [w]) R (t + 1)))) (.int ((t : Int) + ((((N ++ [w]).map nm).length : Nat) : Int) - 1)) _
    rw [e1]
    refine ix_nat (mkC_at _ h0) ?_
    show F_times [nm (dW F (N ++ [w]) R (t + 1) (t + N.length)), nm (1 / w)] _
    refine T_times (hW _ _) t1.cs (by omega) ?_
    have ec : dW F (N ++ [w]) R (t + 1) (t + N.length) * (1 / w) = cf F t := by
      rw [top]
      grind
    rw [ec]
    show match ixN (mkC F.length V).length (t : Int) with | some n => _ | none => False
    rw [mkC_len, ixN_nat ht2]
    have nx : ∀ s8 s9, forW (vgN 6) dvB (rgD 0 t).reverse [a0, .d (.tuple ((N ++ [w]).map nm)), .m (mkC n (dW F (N ++ [w]) R t)), .d (nm (1 / w)), a4, .m ((mkC F.length V).set t (nm (cf F t))), .d (.int (t : Int)), .d (nm (cf F t)), s8, s9] P := fun s8 s9 => by
      rw [mkC_put _ _ ht2]
      refine ih _ _ _ _ _ (by omega) fun k h1 h2 => ?_
      by_cases g : k = t
      · rw [if_pos g, g]
      · rw [if_neg g]
        exact hV k (by omega) h2
    show _ ∧ _ ∧ _
    refine ⟨rfl, rfl, ?_⟩
    show ifB (!PyData.eqv (nm (cf F t)) (nm 0)) _ _
    rw [eqv_nm]
    by_cases hz : cf F t = 0
    · rw [decide_eq_true hz]
      have e3 : mkC n (dW F (N ++ [w]) R (t + 1)) = mkC n (dW F (N ++ [w]) R t) := mkC_congr fun k _ => by
        rw [dW_step ht2 k, hz, innC_zero0]
        grind
      rw [← e3] at nx
      exact nx _ _
    · rw [decide_eq_false hz]
      show forW (vgT 2 (vgCons (vgN 8) (vgCons (vgN 9) vgNil))) dvI ((((N ++ [w]).map nm).zipIdx 0).map fun q => .tuple [.int (q.2 : Nat), q.1]) _ _
      refine dv_inn (a := t) hq hc (N ++ [w]) 0 _ _ _ tM (fun k _ => hW _ _) (by omega) fun s8 s9 => ?_
      have e3 : (mkC n fun k => dW F (N ++ [w]) R (t + 1) k - innC (fun y => cf F t * y) (N ++ [w]) (t + 0) k) = mkC n (dW F (N ++ [w]) R t) := mkC_congr fun k _ => by
        exact (dW_step ht2 k).symm
      rw [e3]
      exact nx s8 s9
theorem T_dividedR {L F N R : List Cn} {w : Cn} (hq : q ≤ 1000) (hw : w ≠ 0) (hL : L = (List.range L.length).map (dW F (N ++ [w]) R F.length)) (hn : L.length + 1 = F.length + (N ++ [w]).length ∨ (F = [] ∧ L.length < (N ++ [w]).length))
    (hR : R.length ≤ N.length) (hR2 : R.length ≤ L.length) (tR : tr R = R) (hl : L.length ≤ 1000) (tF : ∀ z ∈ F, Ts q z) (tM : ∀ z ∈ N ++ [w], Ts q z) (hW : ∀ t k, Cs q (dW F (N ++ [w]) R t k))
    (h : Φ (.tuple [.tuple (F.map nm), .tuple (R.map nm)])) : F_divided [.tuple (L.map nm), .tuple ((N ++ [w]).map nm)] Φ := by
  have tw : Ts q w := tM w (by simp)
  have hlen : (N ++ [w]).length = N.length + 1 := by simp
  have em : ∀ v : Int, v = (((L.map nm).length : Nat) : Int) - ((((N ++ [w]).map nm).length : Nat) : Int) + 1 → (if v > 0 then v else 0) = ((F.length : Nat) : Int) := fun v hv => by
    rw [List.length_map, List.length_map] at hv
    rcases hn with h1 | ⟨h1, h2⟩
    · split <;> omega
    · rw [h1]
      show _ = ((0 : Nat) : Int)
      split <;> omega
  have fin : ∀ a0 s4 s6 s7 s8 s9, (vFroze 2 (vRet (vTup (vCons (vTupV 5) (vCons (vCall F_trimmed (vCons (vVar 2) vNil)) vNil))))) [a0, .d (.tuple ((N ++ [w]).map nm)), .m (mkC L.length (dW F (N ++ [w]) R 0)), .d (nm (1 / w)), s4, .m (F.map nm), s6, s7, s8, s9] ⟨fun _ => Φ .none, Φ, Nev, Nev⟩ := fun a0 s4 s6 s7 s8 s9 => by
    have e : mkC L.length (dW F (N ++ [w]) R 0) = ((List.range L.length).map (cf R)).map nm := by
      unfold mkC
      rw [List.map_map]
      refine List.map_congr_left fun k _ => ?_
      show nm (0 + cf R k) = nm (cf R k)
      rw [zero_add']
    have e2 : tr ((List.range L.length).map (cf R)) = R := by
      have e3 : (List.range L.length).map (cf R) = R ++ List.replicate (L.length - R.length) 0 := by
        refine List.ext_getElem? fun k => ?_
        rw [List.getElem?_map]
        by_cases h : k < L.length
        · rw [List.getElem?_range h, pad_at R L.length k h]
          rfl
        · rw [List.getElem?_eq_none (by simp; omega), List.getElem?_eq_none (by simp; omega)]
          rfl
      rw [e3, tr_pad tR]
    rw [e]
    show F_trimmed [.list (((List.range L.length).map (cf R)).map nm)] _
    refine T_trimmedL ?_
    rw [e2]
    exact h
  have start : ∀ v : Int, v = ((F.length : Nat) : Int) → ∀ a0, (vSeqS (vAsgM 5 (vRep (vCons (vC c_NOUGHT) vNil) (vVar 4))) (vSeqS (vFor (vRvR1 (vVar 4)) (vgN 6) dvB) (vFroze 2 (vRet (vTup (vCons (vTupV 5) (vCons (vCall F_trimmed (vCons (vVar 2) vNil)) vNil))))))) [a0, .d (.tuple ((N ++ [w]).map nm)), .m (L.map nm), .d (nm (1 / w)), .d (.int v), .un, .un, .un, .un, .un] ⟨fun _ => Φ .none, Φ, Nev, Nev⟩ := fun v hv a0 => by
    subst hv
    have hF : F.length ≤ 1001 := by
      rcases hn with h1 | ⟨h1, h2⟩
      · omega
      · rw [h1]; exact Nat.zero_le _
    show (_ ∧ _ ∧ _) ∧ (_ ∧ _) ∧ forW (vgN 6) dvB (rgD 0 (((F.length : Nat) : Int)).toNat).reverse [_, _, _, _, _, .m (List.replicate (((F.length : Nat) : Int)).toNat [nm 0]).flatten, _, _, _, _] _
    rw [Int.toNat_natCast, flat_rep]
    refine ⟨⟨by omega, by omega, by rw [sizeLine_eq]; show 1 * F.length ≤ _; omega⟩, ⟨by omega, by omega⟩, ?_⟩
    have e5 : List.replicate F.length (nm 0) = mkC F.length fun _ => 0 := by
      unfold mkC
      rw [List.map_const', List.length_range]
    have e6 : L.map nm = mkC L.length (dW F (N ++ [w]) R F.length) := by
      conv => lhs; rw [hL]
      unfold mkC
      rw [List.map_map]
      rfl
    rw [e5, e6]
    rcases hn with h1 | ⟨h1, h2⟩
    · exact dv_loop hq hw h1 hR tF tM hW tw (s6 := .un) (s7 := .un) (s8 := .un) (s9 := .un) (fun s6 s7 s8 s9 => fin _ _ _ _ _ _) F.length _ _ _ _ _ (Nat.le_refl _) fun k k1 k2 => by omega
    · subst h1
      exact fin _ _ _ _ _ _
  unfold F_divided mkF b_divided
  refine ⟨rfl, ?_⟩
  have eN : (N ++ [w]).map nm = N.map nm ++ [nm w] := by simp
  show oIx (.tuple ((N ++ [w]).map nm)) (.int (-1)) _
  show match atI ((N ++ [w]).map nm) (-1) with | some d => _ | none => False
  rw [eN, atI_last, ← eN]
  show F_over [nm 1, nm w] _
  refine T_over ts_one tw hw (by omega) (by omega) (by omega) ?_
  exact start _ (em _ rfl) _
end


/-! QBM: the laws' roots, spread, monic rows, scaled. -/
theorem tq_one3 : PyData.tuple [.int 1, .int 0, .int 1] = tq 1 := by
  rw [tq_lit1]
  congr 1
theorem any_tq (z : Cn) : ∀ L : List Cn, (L.map tq).any (fun d => PyData.eqv d (tq z)) = decide (z ∈ L)
  | [] => by simp
  | w :: L => by
    rw [List.map_cons, List.any_cons, any_tq z L, eqv_tq]
    by_cases h : w = z
    · simp [h]
    · by_cases h2 : z ∈ L
      · simp [h2]
      · simp [h, h2, Ne.symm h]
theorem half_sm : Sm ⟨qd 0 2, qd (-1) 2⟩ := sm_of (by decide) (by decide) (by decide) (by decide) (by decide) (by decide)
theorem half_ne : (⟨qd 0 2, qd (-1) 2⟩ : Cn) ≠ 0 := fun h => by
  have h2 := congrArg Cn.im h
  have h3 : qd (-1) 2 = 0 := h2
  have h4 := qd_cross (a := -1) (c := 2) (d := 0) (f := 1) (by decide) (by decide) (by rw [h3, qd_zero])
  exact absurd h4 (by decide)
theorem canLay_tq (L : List Cn) : SeqAt.shaped (.list (L.map tq)) = true := by
  have h1 : PyData.canLayAll0 (L.map tq) = true := by
    induction L with
    | nil => rfl
    | cons z L ih =>
      show (PyData.canLay0 (tq z) && PyData.canLayAll0 (L.map tq)) = true
      rw [ih]
      rfl
  have h2 : PyData.depthAll (L.map tq) ≤ 10 := by
    induction L with
    | nil => exact Nat.le_trans dq_nil (by decide)
    | cons z L ih =>
      have k : PyData.depth (tq z) ≤ 10 := by
        show PyData.depth (.tuple [.int (ta z), .int (tb z), .int (tc z)]) ≤ 10
        simp [PyData.depth, PyData.depthAll]
      refine Nat.le_trans (dq_cons k (ih ?_)) (by decide)
      have : (PyData.canLay0 (tq z) && PyData.canLayAll0 (L.map tq)) = true := h1
      exact (Bool.and_eq_true_iff.mp this).2
  unfold SeqAt.shaped
  rw [show PyData.canLay0 (.list (L.map tq)) = PyData.canLayAll0 (L.map tq) from rfl, h1, decide_eq_true (Nat.le_trans (dq_list h2) (by decide))]
  rfl
section
variable {Φ : PyData → Prop} {n m k : Nat} {x y : Cn} {A : Addr} {P : Post} {Ψ : List PyData → Prop}
theorem T_over0 (hx : Ts n x) (hy : Ts m y) (h0 : y ≠ 0) (hz : n + (m + m + 1) ≤ 9000) (h : Φ (tq (x / y))) : F__law_over [tq x, tq y] Φ := by
  unfold F__law_over mkF b__law_over
  refine ⟨rfl, ?_⟩
  obtain ⟨a1, a2, a3⟩ := hx.bd
  obtain ⟨b1, b2, b3⟩ := hy.bd
  have hne := tq_sq_ne h0
  unfold tq
  walk_at "xs"
  refine ⟨by walk_at "mu", by walk_at "mu", by walk_at "mu", by walk_at "mu", by walk_at "mu", by walk_at "mu", by walk_at "mu", by walk_at "mu", by walk_at "mu", ?_⟩
  refine T_cut0 (n := n + (m + m + 1)) (Int.mul_pos (tc_pos x) (sq_sum_pos hne)) ((a3.mul ((b1.mul b1).add (b2.mul b2))).mono (by omega)) hz ?_
  rw [tr_div _ _ _ _ _ _ (by have := tc_pos x; omega) (by have := tc_pos y; omega) hne, ← tq_val, ← tq_val]
  exact h
theorem T_many (h : ∀ z, Sm z → z ≠ 0 → Φ (tq z)) : F__law_many A [] Φ := by
  unfold F__law_many mkQ b__law_many
  refine ⟨rfl, ?_⟩
  show _ ∧ F__law_drawn A [.int 4, .int 3] _
  refine ⟨rfl, T_drawn1 (by decide) (by decide) (by decide) (by decide) fun z hz => ?_⟩
  show _ ∧ _ ∧ _
  refine ⟨rfl, rfl, ?_⟩
  show ifB (!PyData.eqv (.tuple [.int (ta z), .int (tb z)]) (.tuple [.int 0, .int 0])) _ _
  rw [tq_two]
  by_cases e : z = 0
  · rw [decide_eq_true e]
    show Φ (.tuple [.int 0, .int (-1), .int 2])
    rw [tq_of (by decide) (by decide)]
    exact h _ half_sm half_ne
  · rw [decide_eq_false e]
    exact h z hz e
theorem T_scaled0 {L : List Cn} (hL : ∀ z ∈ L, Ts n z) (hx : Ts m x) (hz : n + m ≤ 9000) (hl : L.length ≤ 1000) (h : Φ (.list ((L.map fun z => z * x).map tq))) : F__law_scaled [.list (L.map tq), tq x] Φ := by
  unfold F__law_scaled mkF b__law_scaled
  refine ⟨rfl, ?_⟩
  show _ ∧ lcW _ (L.map tq) [] _
  refine ⟨by rw [List.length_map, sizeLine_eq]; omega, ?_⟩
  refine lc_map (f := fun z => tq (z * x)) (g := tq) L [] (fun z hz2 K hK => ?_) ?_
  · show F__law_times [tq z, tq x] _
    exact T_times0 (hL z hz2) hx (by omega) hK
  · rw [List.nil_append]
    rw [List.map_map] at h
    exact h
theorem T_rowM {most : Nat} (hm : most ≤ 5) (h : ∀ L : List Cn, L.length ≤ most → (∀ z ∈ L, Sm z) → tr L = L → Φ (.list (L.map tq))) : F__law_row A [.int (most : Int)] Φ := by
  unfold F__law_row mkQ b__law_row
  refine ⟨rfl, ?_⟩
  show _ ∧ F__law_dip A [.int ((most : Int) + 1)] _
  refine ⟨rfl, ?_⟩
  refine T_dip (by omega) (by omega) fun r r0 r1 => ?_
  show (_ ∧ _) ∧ _
  refine ⟨⟨by omega, by omega⟩, ?_⟩
  show _ ∧ lcW _ (rgD 0 r.toNat) ([].map tq) _
  have hl : (rgD 0 r.toNat).length = r.toNat := by simp [rgD]
  refine ⟨by rw [hl, sizeLine_eq]; omega, ?_⟩
  refine lc_gen (R := Sm) _ [] (by simp) (fun d _ K hK => ?_) fun M hM hM2 => ?_
  · show _ ∧ F__law_drawn A [.int 4, .int 3] _
    refine ⟨rfl, ?_⟩
    exact T_drawn0 fun z hz => hK z hz
  have hM3 : M.length ≤ most := by rw [hM, hl]; simp; omega
  show _ ∧ lcW _ (M.map tq) ([].map tq) _
  refine ⟨by rw [List.length_map, sizeLine_eq]; omega, ?_⟩
  refine lc_gen (R := Sm) _ [] (by simp) (fun d hd K hK => ?_) fun M2 h1 h2 => ?_
  · obtain ⟨z, hz, rfl⟩ := List.mem_map.mp hd
    show _ ∧ F__law_dip A [.int 5] _
    refine ⟨rfl, ?_⟩
    refine T_dip (by decide) (by decide) fun c _ _ => ?_
    refine ifB_in (fun _ => ?_) fun _ => ?_
    · show K (some (.tuple [.int 0, .int 0, .int 1]))
      rw [tq_zero3]
      exact hK 0 sm_zero
    · exact hK z (hM2 z hz)
  · have hl2 : M2.length ≤ most := by rw [h1]; simp; omega
    refine T_trim0 (by omega) (h _ (Nat.le_trans (tr_len _) hl2) (fun z hz => h2 z (tr_mem _ z hz)) (tr_tr _))
end
/-! ### roots -/
structure Rts (rs : List Cn) : Prop where
  sm : ∀ z ∈ rs, Sm z
  nd : rs.Nodup
section
variable {Φ : PyData → Prop} {n m k : Nat} {x y : Cn} {A : Addr} {P : Post} {Ψ : List PyData → Prop}
def rtB : WS := (vSeqS (vAsg 3 (vCallQ 0 A F__law_drawn (vCons (vC (.int 3)) (vCons (vC (.int 2)) vNil)))) (vIfS (vViewT 1 (vTest (vOp oNotIn (vVar 3) (vVar 1)))) (vApp 1 (vVar 3)) vNext))
theorem roots_loop {N : Nat} (hN : N ≤ 100) : ∀ (t : Nat) (lo : Int) (rs : List Cn) (a2 a3 : Sl), rs.length + t ≤ N → Rts rs → (∀ (rs : List Cn) a2 a3, rs.length ≤ N → Rts rs → P.N [.v (.ref A), .m (rs.map tq), a2, a3]) →
    forW (vgN 2) (rtB (A := A)) (rgD lo t) [.v (.ref A), .m (rs.map tq), a2, a3] P := by
  intro t
  induction t with
  | zero => exact fun lo rs a2 a3 hl hr h => h rs a2 a3 (by omega) hr
  | succ t ih =>
    intro lo rs a2 a3 hl hr h
    rw [rg_succ]
    show _ ∧ F__law_drawn A [.int 3, .int 2] _
    refine ⟨rfl, T_drawn1 (by decide) (by decide) (by decide) (by decide) fun z hz => ?_⟩
    show _ ∧ _ ∧ _
    refine ⟨rfl, canLay_tq rs, ?_⟩
    show ifB (!((rs.map tq).any fun d => PyData.eqv d (tq z))) _ _
    rw [any_tq]
    by_cases e : z ∈ rs
    · rw [decide_eq_true e]
      exact ih _ rs _ _ (by omega) hr h
    · rw [decide_eq_false e]
      show _ ∧ _
      refine ⟨by rw [List.length_map, sizeLine_eq]; omega, ?_⟩
      have e2 : rs.map tq ++ [tq z] = (rs ++ [z]).map tq := by simp
      show forW (vgN 2) (rtB (A := A)) (rgD (lo + 1) t) [_, .m (rs.map tq ++ [tq z]), _, _] _
      rw [e2]
      refine ih _ _ _ _ (by simp; omega) ⟨fun w hw => ?_, ?_⟩ h
      · rcases List.mem_append.mp hw with hw | hw
        · exact hr.sm w hw
        · rw [List.mem_singleton.mp hw]; exact hz
      · refine List.nodup_append.mpr ⟨hr.nd, by simp, fun a ha b hb => ?_⟩
        rw [List.mem_singleton.mp hb]
        exact fun h => e (h ▸ ha)
theorem T_roots (h : ∀ rs : List Cn, rs.length ≤ 3 → Rts rs → Φ (.list (rs.map tq))) : F__law_roots A [] Φ := by
  unfold F__law_roots mkQ b__law_roots
  refine ⟨rfl, ?_⟩
  show _ ∧ F__law_dip A [.int 4] _
  refine ⟨rfl, T_dip (by decide) (by decide) fun r r0 r1 => ?_⟩
  show (_ ∧ _) ∧ forW (vgN 2) (rtB (A := A)) (rgD 0 r.toNat) [_, .m (([] : List Cn).map tq), _, _] _
  refine ⟨⟨by omega, by omega⟩, ?_⟩
  refine roots_loop (N := 3) (by decide) r.toNat 0 [] _ _ (by simp; omega) ⟨(fun z hz => by cases hz), List.nodup_nil⟩ fun rs a2 a3 h1 h2 => ?_
  exact h rs h1 h2
end


/-! QBN: rows of roots, each so many times. -/
abbrev Rq := Cn × Nat × Nat
def spr (g : Nat → Nat → Nat) : List Rq → List Cn
  | [] => []
  | q :: Q => List.replicate (g q.2.1 q.2.2) q.1 ++ spr g Q
theorem spr_mem {g : Nat → Nat → Nat} : ∀ {Q : List Rq} {t : Cn}, t ∈ spr g Q → ∃ q ∈ Q, q.1 = t ∧ 0 < g q.2.1 q.2.2
  | q :: Q, t, h => by
    rcases List.mem_append.mp h with h | h
    · obtain ⟨h1, h2⟩ := List.mem_replicate.mp h
      exact ⟨q, List.mem_cons_self .., h2.symm, by omega⟩
    · obtain ⟨q2, h1, h2⟩ := spr_mem h
      exact ⟨q2, List.mem_cons_of_mem _ h1, h2⟩
theorem spr_len {g h i : Nat → Nat → Nat} (e : ∀ a b, g a b + h a b = i a b) : ∀ Q : List Rq, (spr g Q).length + (spr h Q).length = (spr i Q).length
  | [] => rfl
  | q :: Q => by
    have := spr_len e Q
    have e2 := e q.2.1 q.2.2
    show (List.replicate _ _ ++ spr g Q).length + (List.replicate _ _ ++ spr h Q).length = (List.replicate _ _ ++ spr i Q).length
    rw [List.length_append, List.length_append, List.length_append, List.length_replicate, List.length_replicate, List.length_replicate]
    omega
theorem spr_two {g : Nat → Nat → Nat} : ∀ Q : List Rq, (∀ q ∈ Q, g q.2.1 q.2.2 ≤ 2) → (spr g Q).length ≤ 2 * Q.length
  | [], _ => Nat.le_refl _
  | q :: Q, h => by
    have := spr_two Q fun q hq => h q (List.mem_cons_of_mem _ hq)
    have e2 := h q (List.mem_cons_self ..)
    show (List.replicate _ _ ++ spr g Q).length ≤ _
    rw [List.length_append, List.length_replicate, List.length_cons]
    omega
theorem fst_uniq : ∀ {Q : List Rq} {q p : Rq}, (Q.map Prod.fst).Nodup → q ∈ Q → p ∈ Q → q.1 = p.1 → q = p
  | x :: Q, q, p, hn, hq, hp, e => by
    rw [List.map_cons, List.nodup_cons] at hn
    rcases List.mem_cons.mp hq with h1 | h1
    · rcases List.mem_cons.mp hp with h2 | h2
      · rw [h1, h2]
      · exact absurd (List.mem_map.mpr ⟨p, h2, by rw [← e, h1]⟩) hn.1
    · rcases List.mem_cons.mp hp with h2 | h2
      · exact absurd (List.mem_map.mpr ⟨q, h1, by rw [e, h2]⟩) hn.1
      · exact fst_uniq hn.2 h1 h2 e
theorem spr_apart {g h : Nat → Nat → Nat} (e : ∀ a b, g a b = 0 ∨ h a b = 0) {Q : List Rq} (hn : (Q.map Prod.fst).Nodup) : ∀ s ∈ spr g Q, ∀ t ∈ spr h Q, s ≠ t := fun s hs t ht => by
  obtain ⟨q, q1, q2, q3⟩ := spr_mem hs
  obtain ⟨p, p1, p2, p3⟩ := spr_mem ht
  intro e2
  have := fst_uniq hn q1 p1 (by rw [q2, p2, e2])
  subst this
  rcases e q.2.1 q.2.2 with h | h <;> omega
/-! ### products over roots -/
def prd : List Cn → Cn → Cn
  | [], _ => 1
  | t :: ts, x => (x - t) * prd ts x
theorem isp_prd : ∀ ts : List Cn, IsP (prd ts)
  | [] => isp_const 1
  | t :: ts => ((isp_id.sub (isp_const t)).mul (isp_prd ts)).congr fun x => rfl
theorem prd_ne {s : Cn} : ∀ {ts : List Cn}, (∀ t ∈ ts, s ≠ t) → prd ts s ≠ 0
  | [], _ => one_ne
  | t :: ts, h => mul_ne' (fun e => h t (List.mem_cons_self ..) (by grind)) (prd_ne fun u hu => h u (List.mem_cons_of_mem _ hu))
theorem prd_root {t : Cn} : ∀ {ts : List Cn}, t ∈ ts → prd ts t = 0
  | u :: ts, h => by
    show (t - u) * prd ts t = 0
    rcases List.mem_cons.mp h with rfl | h
    · grind
    · rw [prd_root h]
      grind
theorem cop_prd : ∀ {S T : List Cn}, (∀ s ∈ S, ∀ t ∈ T, s ≠ t) → Cop (prd S) (prd T)
  | [], T, _ => cop_const one_ne (prd T)
  | s :: S, T, h => by
    obtain ⟨L, hL⟩ := isp_prd T
    have e : prd T = Rim.hn L := funext fun x => (hL x).symm
    have k1 : Cop (fun x => x - s) (prd T) := by
      rw [e]
      refine cop_root ?_
      rw [hL]
      exact prd_ne fun t ht => h s (List.mem_cons_self ..) t ht
    exact Cop.mul k1 (cop_prd fun u hu => h u (List.mem_cons_of_mem _ hu)) (isp_id.sub (isp_const s)) (isp_prd S) (isp_prd T)
theorem Cop.scale {f g : Cn → Cn} {a b : Cn} (h : Cop f g) (ha : a ≠ 0) (hb : b ≠ 0) : Cop (fun x => f x * a) (fun x => g x * b) := by
  obtain ⟨u, v, hu, hv, e⟩ := h
  refine ⟨fun x => u x * (1 / a), fun x => v x * (1 / b), hu.mul (isp_const _), hv.mul (isp_const _), fun x => ?_⟩
  have k := e x
  dsimp only
  generalize u x = p at *
  generalize v x = q at *
  generalize f x = y at *
  generalize g x = z at *
  grind
/-! ### the monic row -/
theorem sm_one : Sm 1 := by
  have := sm_of (a := 1) (b := 0) (d := 1) (by decide) (by decide) (by decide) (by decide) (by decide) (by decide)
  rw [show (⟨qd 1 1, qd 0 1⟩ : Cn) = gz 1 0 from rfl, gz_one] at this
  exact this
theorem sm_rt {z : Cn} (h : Sm z) : Rt z := by
  have o := h.ov
  exact ⟨ov 6 z.re, ov 6 z.im, 6, 1921535841011411601, 5, by decide, by decide, o.ex (by decide)⟩
def rtr (t : Cn) : List Cn := [0 - t] ++ [1]
theorem rtr_tr (t : Cn) : tr (rtr t) = rtr t := tr_fix one_ne
theorem hn_rtr (t x : Cn) : Rim.hn (rtr t) x = x - t := by
  show Rim.hn [0 - t, 1] x = _
  rw [hn_cons, hn_cons]
  show (0 * x + 1) * x + (0 - t) = x - t
  grind
structure Mo (f : List Cn) (k : Nat) (V : Cn → Cn) : Prop where
  sh : ∃ K : List Cn, f = K ++ [1] ∧ K.length = k
  nb : ∀ z ∈ f, Nb (6 ^ k) (1 + 14 * k) z
  val : ∀ x, Rim.hn f x = V x
theorem Mo.tr {f : List Cn} {k : Nat} {V : Cn → Cn} (h : Mo f k V) : tr f = f := by
  obtain ⟨K, rfl, _⟩ := h.sh
  exact tr_fix one_ne
theorem Mo.len {f : List Cn} {k : Nat} {V : Cn → Cn} (h : Mo f k V) : f.length = k + 1 := by
  obtain ⟨K, rfl, e⟩ := h.sh
  simp [e]
theorem mo_one : Mo [1] 0 fun _ => 1 := ⟨⟨[], rfl, rfl⟩, fun z hz => by
  rw [List.mem_singleton.mp hz]
  exact ⟨1, 0, by unfold Bd; decide, by unfold Bd; decide, by rw [Int.pow_zero]; exact gz_one.symm⟩, fun x => by rw [hn_cons]; show 0 * x + 1 = (1 : Cn); grind⟩
theorem six_ne (k : Nat) : (6 : Int) ^ k ≠ 0 := Int.pow_ne_zero (by decide)
theorem Mo.step {f : List Cn} {k : Nat} {V : Cn → Cn} {t : Cn} (h : Mo f k V) (ht : Sm t) (hk : k ≤ 6) : Mo (pmul f (rtr t)) (k + 1) fun x => V x * (x - t) := by
  have hl := h.len
  refine ⟨?_, fun z hz => ?_, fun x => ?_⟩
  · obtain ⟨K, rfl, e⟩ := h.sh
    refine ⟨(List.range (k + 1)).map (cv (K ++ [1]) (rtr t)), ?_, by simp⟩
    have e2 := outC_last (fun z w => z * w) 1 1 [0 - t] K 0
    unfold pmul
    rw [if_neg (by simp [rtr]), show (K ++ [(1 : Cn)]).length + (rtr t).length - 1 = (k + 1) + 1 by rw [hl]; rfl, List.range_succ, List.map_append, List.map_singleton]
    congr 2
    show outC (fun z w => z * w) (K ++ [1]) ([0 - t] ++ [1]) 0 (k + 1) = 1
    rw [show k + 1 = 0 + K.length + [0 - t].length by simp [e], e2]
    grind
  · have h1 := nb_pmul (six_ne k) (show (6 : Int) ≠ 0 by decide) h.nb (fun w hw => by
      rcases List.mem_append.mp hw with hw | hw
      · rw [List.mem_singleton.mp hw]; exact sm_nb ht.neg
      · rw [List.mem_singleton.mp hw]; exact sm_nb sm_one) z hz
    rw [Int.pow_succ]
    exact h1.mono (by omega)
  · rw [hn_pmul, h.val, hn_rtr]
def mon (f : List Cn) (ts : List Cn) : List Cn := ts.foldl (fun f t => pmul f (rtr t)) f
theorem mo_mon : ∀ (ts : List Cn) (f : List Cn) (k : Nat) (V : Cn → Cn), Mo f k V → (∀ t ∈ ts, Sm t) → k + ts.length ≤ 7 → Mo (mon f ts) (k + ts.length) fun x => V x * prd ts x
  | [], f, k, V, h, _, _ => ⟨h.sh, h.nb, fun x => by rw [show mon f [] = f from rfl, h.val]; show V x = V x * 1; grind⟩
  | t :: ts, f, k, V, h, hs, hk => by
    rw [List.length_cons] at hk ⊢
    have ih := mo_mon ts _ (k + 1) _ (h.step (hs t (List.mem_cons_self ..)) (by omega)) (fun u hu => hs u (List.mem_cons_of_mem _ hu)) (by omega)
    rw [show k + 1 + ts.length = k + (ts.length + 1) by omega] at ih
    refine ⟨ih.sh, ih.nb, fun x => ?_⟩
    have := ih.val x
    show Rim.hn (mon (pmul f (rtr t)) ts) x = _
    rw [this]
    show V x * (x - t) * prd ts x = V x * ((x - t) * prd ts x)
    grind
theorem bd_6pow {k : Nat} (h : k ≤ 20) : Bd 64 ((6 : Int) ^ k) := (bd_pow (show Bd 3 6 by unfold Bd; decide) k).mono (by omega)
theorem pos_6pow (k : Nat) : (0 : Int) < 6 ^ k := Int.pow_pos (by decide)
section
variable {Φ : PyData → Prop} {n m k : Nat} {x y : Cn} {A : Addr} {P : Post} {Ψ : List PyData → Prop}
theorem T_times6 {L M : List Cn} {a b : Nat} (ha : a ≤ 20) (hb : b ≤ 20) (tL : tr L = L) (tM : tr M = M) (hL : ∀ z ∈ L, Nb (6 ^ a) 300 z) (hM : ∀ z ∈ M, Nb (6 ^ b) 300 z) (l1 : L.length ≤ 400) (l2 : M.length ≤ 400) (h : Φ (.list ((pmul L M).map tq))) : F__law_row_times [.list (L.map tq), .list (M.map tq)] Φ := by
  refine T_row_timesN (n := 300) (six_ne a) (bd_6pow ha) (six_ne b) (bd_6pow hb) (by decide) (fun z hz => (hL z hz).tc (pos_6pow a)) (fun z hz => (hM z hz).tc (pos_6pow b)) (fun z hz => (hL z hz).ts (pos_6pow a) ((bd_6pow ha).mono (by decide))) (fun z hz => (hM z hz).ts (pos_6pow b) ((bd_6pow hb).mono (by decide))) l1 l2 ?_
  rw [tr_cv tL tM]
  exact h
theorem monic_loop {a0 : Sl} : ∀ (ts f : List Cn) (k : Nat) (V : Cn → Cn) (a2 : Sl), Mo f k V → (∀ t ∈ ts, Sm t) → k + ts.length ≤ 7 → (∀ a2, P.N [a0, .d (.list ((mon f ts).map tq)), a2]) →
    forW (vgN 2) (vAsg 1 (vCall F__law_row_times (vCons (vVar 1) (vCons (vOf (vCons (vTup (vCons (vOp oSub (vC (.int 0)) (vOp oIx (vVar 2) (vC (.int 0)))) (vCons (vOp oSub (vC (.int 0)) (vOp oIx (vVar 2) (vC (.int 1)))) (vCons (vOp oIx (vVar 2) (vC (.int 2))) vNil)))) (vCons (vTup (vCons (vC (.int 1)) (vCons (vC (.int 0)) (vCons (vC (.int 1)) vNil)))) vNil))) vNil)))) (ts.map tq) [a0, .d (.list (f.map tq)), a2] P := by
  intro ts
  induction ts with
  | nil => exact fun f k V a2 _ _ _ h => h a2
  | cons t ts ih =>
    intro f k V a2 hf hs hk h
    rw [List.length_cons] at hk
    have ht := hs t (List.mem_cons_self ..)
    have fl := hf.len
    show F__law_row_times [.list (f.map tq), .list [.tuple [.int (0 - ta t), .int (0 - tb t), .int (tc t)], .tuple [.int 1, .int 0, .int 1]]] _
    rw [tq_neg, tq_one3]
    show F__law_row_times [.list (f.map tq), .list ((rtr t).map tq)] _
    refine T_times6 (a := k) (b := 1) (by omega) (by decide) hf.tr (rtr_tr t) (fun z hz => (hf.nb z hz).mono (by omega)) (fun z hz => ?_) (by omega) (by simp [rtr]) ?_
    · rw [Int.pow_succ, Int.pow_zero, Int.one_mul]
      rcases List.mem_append.mp hz with hz | hz
      · rw [List.mem_singleton.mp hz]; exact (sm_nb ht.neg).mono (by decide)
      · rw [List.mem_singleton.mp hz]; exact (sm_nb sm_one).mono (by decide)
    · exact ih _ (k + 1) _ _ (hf.step ht (by omega)) (fun u hu => hs u (List.mem_cons_of_mem _ hu)) (by omega) h
theorem T_monic {ts : List Cn} (hs : ∀ t ∈ ts, Sm t) (hl : ts.length ≤ 7) (h : Φ (.list ((mon [1] ts).map tq))) : F__law_monic [.list (ts.map tq)] Φ := by
  unfold F__law_monic mkF b__law_monic
  refine ⟨rfl, ?_⟩
  show forW _ _ (ts.map tq) [.d (.list (ts.map tq)), .d (.list [.tuple [.int 1, .int 0, .int 1]]), .un] _
  rw [tq_one3]
  exact monic_loop ts [1] 0 _ _ mo_one hs (by omega) fun a2 => h
theorem spread_loop {g : Nat → Nat → Nat} {Q : List Rq} (hQ : ∀ q ∈ Q, g q.2.1 q.2.2 ≤ 1000) : ∀ (S : List Rq) (j : Nat) (acc : List Cn) (a3 : Sl), (∀ i, i < S.length → Q[j + i]? = S[i]?) → acc.length + 1000 * S.length ≤ 16000000 → (∀ a3, P.N [.d (.list ((Q.map Prod.fst).map tq)), .d (.list (Q.map fun q => .int (g q.2.1 q.2.2 : Nat))), .d (.list ((acc ++ spr g S).map tq)), a3]) →
    forW (vgN 3) (vAsg 2 (vOp oAdd (vVar 2) (vOf (vRep (vCons (vOp oIx (vVar 0) (vVar 3)) vNil) (vOp oIx (vVar 1) (vVar 3)))))) (rgD (j : Int) S.length) [.d (.list ((Q.map Prod.fst).map tq)), .d (.list (Q.map fun q => .int (g q.2.1 q.2.2 : Nat))), .d (.list (acc.map tq)), a3] P := by
  intro S
  induction S with
  | nil =>
    intro j acc a3 _ _ h
    have z := h a3
    rw [show acc ++ spr g [] = acc from List.append_nil _] at z
    exact z
  | cons q S ih =>
    intro j acc a3 hS hl h
    rw [List.length_cons] at hl ⊢
    rw [rg_succ]
    have hj : Q[j]? = some q := by have := hS 0 (by simp); simpa using this
    have hq := hQ q (List.mem_of_getElem? hj)
    unfold forW
    show oIx (.tuple ((Q.map Prod.fst).map tq)) (.int (j : Int)) _
    refine ix_nat (d := tq q.1) (by rw [List.getElem?_map, List.getElem?_map, hj]; rfl) ?_
    show oIx (.tuple (Q.map fun q => PyData.int (g q.2.1 q.2.2 : Nat))) (.int (j : Int)) _
    refine ix_nat (d := .int (g q.2.1 q.2.2 : Nat)) (by rw [List.getElem?_map, hj]; rfl) ?_
    show (_ ∧ _ ∧ _) ∧ oAdd (.list (acc.map tq)) (.list (List.replicate ((g q.2.1 q.2.2 : Nat) : Int).toNat [tq q.1]).flatten) _
    rw [Int.toNat_natCast, flat_rep]
    refine ⟨⟨by omega, by omega, by rw [sizeLine_eq]; show 1 * _ ≤ _; omega⟩, ?_⟩
    show _ ∧ _
    refine ⟨by rw [List.length_map, List.length_replicate, sizeLine_eq]; omega, ?_⟩
    have e : acc.map tq ++ List.replicate (g q.2.1 q.2.2) (tq q.1) = (acc ++ List.replicate (g q.2.1 q.2.2) q.1).map tq := by
      rw [List.map_append, List.map_replicate]
    rw [e]
    show forW (vgN 3) _ (rgD ((j : Int) + 1) S.length) [_, _, .d (.list ((acc ++ List.replicate (g q.2.1 q.2.2) q.1).map tq)), _] P
    rw [show (j : Int) + 1 = ((j + 1 : Nat) : Int) by omega]
    refine ih (j + 1) _ _ (fun i hi => ?_) (by rw [List.length_append, List.length_replicate]; omega) fun a3 => ?_
    · have := hS (i + 1) (by simp; omega)
      rw [show j + (i + 1) = j + 1 + i by omega] at this
      simpa using this
    · rw [List.append_assoc]
      exact h a3
theorem T_spread {g : Nat → Nat → Nat} {Q : List Rq} (hQ : ∀ q ∈ Q, g q.2.1 q.2.2 ≤ 1000) (hl : Q.length ≤ 1000) (h : Φ (.list ((spr g Q).map tq))) : F__law_spread [.list ((Q.map Prod.fst).map tq), .list (Q.map fun q => .int (g q.2.1 q.2.2 : Nat))] Φ := by
  unfold F__law_spread mkF b__law_spread
  refine ⟨rfl, ?_⟩
  show (_ ∧ _) ∧ forW _ _ (rgD 0 (((((Q.map Prod.fst).map tq).length : Nat) : Int)).toNat) [_, _, .d (.list (([] : List Cn).map tq)), _] _
  rw [List.length_map, List.length_map, Int.toNat_natCast]
  refine ⟨⟨by omega, by omega⟩, ?_⟩
  refine spread_loop hQ Q 0 [] _ (fun i _ => by rw [Nat.zero_add]) (by simp; omega) fun a3 => ?_
  exact h
end


/-! QBO: what is divided, what is common: as the law asks. -/
theorem Nb.lift {D E : Int} {n m : Nat} {z : Cn} (D0 : D ≠ 0) (E0 : E ≠ 0) (h : Nb D n z) (hE : Bd m E) : Nb (D * E) (n + m) z := by
  obtain ⟨a, b, h1, h2, rfl⟩ := h
  refine ⟨a * E, b * E, h1.mul hE, h2.mul hE, ?_⟩
  rw [qd_cancel _ _ _ (Int.mul_ne_zero D0 E0), qd_cancel _ _ _ (Int.mul_ne_zero D0 E0)]
theorem ps_pad (R : List Cn) (x : Cn) (n : Nat) (h : R.length ≤ n) : ps x (cf R) n = Rim.hn R x := by
  rw [← hn_range]
  have e : (List.range n).map (cf R) = R ++ List.replicate (n - R.length) 0 := by
    refine List.ext_getElem? fun k => ?_
    rw [List.getElem?_map]
    by_cases h : k < n
    · rw [List.getElem?_range h, pad_at R n k h]
      rfl
    · rw [List.getElem?_eq_none (by simp; omega), List.getElem?_eq_none (by simp; omega)]
      rfl
  rw [e, hn_pad]
theorem div_shape {L F N R : List Cn} {w : Cn} (tL : tr L = L) (tF : tr F = F) (tR : tr R = R) (hw : w ≠ 0) (hR : R.length ≤ N.length) (hv : ∀ x, Rim.hn L x = Rim.hn (N ++ [w]) x * Rim.hn F x + Rim.hn R x) :
    L = (List.range L.length).map (dW F (N ++ [w]) R F.length) ∧ (L.length + 1 = F.length + (N ++ [w]).length ∨ (F = [] ∧ L.length < (N ++ [w]).length)) ∧ R.length ≤ L.length := by
  have hd : ∀ k, dW F (N ++ [w]) R F.length k = cv F (N ++ [w]) k + cf R k := fun k => by unfold dW; rw [List.take_length]
  have hlen : (N ++ [w]).length = N.length + 1 := by simp
  rcases tr_shape tF with rfl | ⟨F', y, rfl, hy⟩
  · have e : L = R := row_ext' tL tR fun x => by rw [hv]; show _ * 0 + _ = _; grind
    subst e
    refine ⟨?_, Or.inr ⟨rfl, by omega⟩, Nat.le_refl _⟩
    have e2 : (List.range L.length).map (dW [] (N ++ [w]) L ([] : List Cn).length) = (List.range L.length).map (cf L) := List.map_congr_left fun k _ => by
      rw [hd]
      show 0 + _ = _
      rw [zero_add']
    rw [e2, range_cf]
  · have hF : (F' ++ [y]).length = F'.length + 1 := by simp
    obtain ⟨n, hn⟩ : ∃ n, n = F'.length + N.length := ⟨_, rfl⟩
    have e : L = (List.range (n + 1)).map (dW (F' ++ [y]) (N ++ [w]) R (F' ++ [y]).length) := by
      refine row_ext' tL ?_ fun x => ?_
      · rw [List.range_succ, List.map_append, List.map_singleton]
        refine tr_fix ?_
        have e2 := outC_last (fun z w => z * w) y w N F' 0
        have e3 : cv (F' ++ [y]) (N ++ [w]) n = y * w := by rw [← e2, Nat.zero_add, ← hn]; rfl
        rw [hd, e3, cf_ge (by omega), add_zero']
        exact mul_ne' hy hw
      · rw [hn_range, ps_congr (n + 1) (fun k _ => hd k), ps_add, ps_pad R x (n + 1) (by omega), hv x]
        have e2 : ps x (cv (F' ++ [y]) (N ++ [w])) (n + 1) = Rim.hn (F' ++ [y]) x * Rim.hn (N ++ [w]) x := by
          rw [← hn_pmul, ← hn_range]
          unfold pmul
          rw [if_neg (by simp), show (F' ++ [y]).length + (N ++ [w]).length - 1 = n + 1 by omega]
        rw [e2]
        grind
    have el : L.length = n + 1 := by
      have := congrArg List.length e
      simpa using this
    refine ⟨by rw [el]; exact e, Or.inl (by omega), by omega⟩
theorem cw_tup {xs : List PyData} {n : Nat} (h : cntAll xs ≤ n) : cnt (.tuple xs) ≤ n + 1 := by
  simp only [cnt]
  omega
theorem dq_tup {xs : List PyData} {n : Nat} (h : PyData.depthAll xs ≤ n) : PyData.depth (.tuple xs) ≤ n + 1 := by
  simp only [PyData.depth]
  omega
def Okd (c e : Nat) (d : PyData) : Prop := Shw d ∧ cnt d ≤ c ∧ PyData.depth d ≤ e
theorem ok_pair {a b : PyData} (ha : Okd 100 11 a) (hb : Okd 100 11 b) : Okd 201 12 (.tuple [a, b]) :=
  ⟨shw_t (shw_cons ha.1 (shw_cons hb.1 shw_nil)), Nat.le_trans (cw_tup (cw_cons ha.2.1 (cw_cons hb.2.1 cw_nil))) (by decide), Nat.le_trans (dq_tup (dq_cons ha.2.2 (dq_cons hb.2.2 dq_nil))) (by decide)⟩
theorem Okd.mono {c e : Nat} {d : PyData} (h : Okd c e d) (hc : c ≤ 201) (he : e ≤ 12) : Okd 201 12 d := ⟨h.1, Nat.le_trans h.2.1 hc, Nat.le_trans h.2.2 he⟩
theorem ok_l2 {a b : PyData} (ha : Okd 201 12 a) (hb : Okd 201 12 b) : Okd 1000 20 (.list [a, b]) :=
  ⟨shw_l (shw_cons ha.1 (shw_cons hb.1 shw_nil)), Nat.le_trans (cw_list (cw_cons ha.2.1 (cw_cons hb.2.1 cw_nil))) (by decide), Nat.le_trans (dq_list (dq_cons ha.2.2 (dq_cons hb.2.2 dq_nil))) (by decide)⟩
theorem ok_l3 {a b c : PyData} (ha : Okd 201 12 a) (hb : Okd 201 12 b) (hc : Okd 201 12 c) : Okd 1000 20 (.list [a, b, c]) :=
  ⟨shw_l (shw_cons ha.1 (shw_cons hb.1 (shw_cons hc.1 shw_nil))), Nat.le_trans (cw_list (cw_cons ha.2.1 (cw_cons hb.2.1 (cw_cons hc.2.1 cw_nil)))) (by decide), Nat.le_trans (dq_list (dq_cons ha.2.2 (dq_cons hb.2.2 (dq_cons hc.2.2 dq_nil)))) (by decide)⟩
theorem ok_one {a : PyData} (ha : Okd 201 12 a) : Okd 1000 20 a := ⟨ha.1, Nat.le_trans ha.2.1 (by decide), Nat.le_trans ha.2.2 (by decide)⟩
theorem ok_row {L : List Cn} {n : Nat} (hl : L.length ≤ 12) (h : ∀ z ∈ L, Ts n z) (hn : n ≤ 1900) : Okd 100 11 (.tuple (L.map nm)) := row_ok hl fun z hz => (h z hz).cs.mono hn
section
variable {Φ : PyData → Prop} {n m k : Nat} {x y : Cn} {A : Addr} {P : Post} {Ψ : List PyData → Prop}
theorem T_row_dividedR {L F N R : List Cn} {w : Cn} {a b : Nat} (ha : a ≤ 20) (hb : b ≤ 20) (hab : a + b ≤ 20) (tL : tr L = L) (tF : tr F = F) (tR : tr R = R) (hw : w ≠ 0) (hR : R.length ≤ N.length) (hl : L.length ≤ 1000) (lF : F.length ≤ 30)
    (nF : ∀ z ∈ F, Nb (6 ^ a) 130 z) (nM : ∀ z ∈ N ++ [w], Nb (6 ^ b) 130 z) (nR : ∀ z ∈ R, Nb (6 ^ (a + b)) 290 z) (hv : ∀ x, Rim.hn L x = Rim.hn (N ++ [w]) x * Rim.hn F x + Rim.hn R x)
    (h : Φ (.tuple [.tuple (F.map nm), .tuple (R.map nm)])) : F_row_divided [.tuple (L.map nm), .tuple ((N ++ [w]).map nm)] Φ := by
  obtain ⟨s1, s2, s3⟩ := div_shape tL tF tR hw hR hv
  unfold F_row_divided mkF b_row_divided
  refine ⟨rfl, ?_⟩
  dsimp only [vSeqS, vDrop, vRet, vCall, vCons, vNil, vVar, ends, geE, List.map, List.replicate, List.cons_append, List.nil_append]
  refine T_need_row tL (T_need_row (tr_fix hw) ?_)
  show ifB (!(!((N ++ [w]).map nm).isEmpty)) _ _
  have ne : ((N ++ [w]).map nm).isEmpty = false := by simp
  rw [ne]
  show F_divided [.tuple (L.map nm), .tuple ((N ++ [w]).map nm)] Φ
  refine T_dividedR (q := 300) (by decide) hw s1 s2 hR s3 tR hl (fun z hz => ((nF z hz).mono (by decide)).ts (pos_6pow a) ((bd_6pow ha).mono (by decide))) (fun z hz => ((nM z hz).mono (by decide)).ts (pos_6pow b) ((bd_6pow hb).mono (by decide))) (fun t k => ?_) h
  have h1 := nb_cv (six_ne a) (six_ne b) (L := F.take t) (M := N ++ [w]) (fun z hz => nF z (List.mem_of_mem_take hz)) nM k
  rw [← Int.pow_add] at h1
  have h2 : Nb (6 ^ (a + b)) 290 (cf R k) := by
    by_cases hk : k < R.length
    · exact nR _ (cf_mem hk)
    · rw [cf_ge (by omega)]
      exact Nb.zero.mono (by decide)
  have h3 := (h1.mono (show _ ≤ 291 by rw [List.length_take]; omega)).add h2
  exact ((h3.mono (show _ ≤ 300 by decide)).ts (pos_6pow _) ((bd_6pow hab).mono (by decide))).cs
theorem T_divided_law (h : Φ (.bool true)) : F__law_divided A [] Φ := by
  unfold F__law_divided mkQ b__law_divided
  refine ⟨rfl, ?_⟩
  show _ ∧ F__law_row A [.int ((3 : Nat) : Int)] _
  refine ⟨rfl, T_rowM (by decide) fun N lN sN tN => ?_⟩
  show _ ∧ F__law_many A [] _
  refine ⟨rfl, T_many fun w sw hw => ?_⟩
  have eM : N.map tq ++ [tq w] = (N ++ [w]).map tq := by simp
  show _ ∧ _ ∧ F__law_row A [.int ((4 : Nat) : Int)] _
  rw [eM]
  refine ⟨by rw [List.length_map, sizeLine_eq]; show N.length + 1 ≤ _; omega, rfl, T_rowM (by decide) fun F lF sF tF => ?_⟩
  show _ ∧ F__law_row A [.int ((4 : Nat) : Int)] _
  refine ⟨rfl, T_rowM (by decide) fun R0 lR0 sR0 tR0 => ?_⟩
  have hlen : (N ++ [w]).length = N.length + 1 := by simp
  have e1 : ((((N ++ [w]).map tq).length : Nat) : Int) - 1 = (N.length : Int) := by rw [List.length_map, hlen]; omega
  show F__law_trim [.list (cutD (R0.map tq) none (some (((((N ++ [w]).map tq).length : Nat) : Int) - 1)))] _
  rw [e1, cut_take, ← List.map_take]
  refine T_trim0 (by rw [List.length_take]; omega) ?_
  generalize hR : tr (R0.take N.length) = R
  have tR : tr R = R := by rw [← hR, tr_tr]
  have lR : R.length ≤ N.length := by rw [← hR]; refine Nat.le_trans (tr_len _) ?_; rw [List.length_take]; omega
  have sR : ∀ z ∈ R, Sm z := fun z hz => sR0 z (by rw [← hR] at hz; exact List.mem_of_mem_take (tr_mem _ z hz))
  have sM : ∀ z ∈ N ++ [w], Sm z := fun z hz => by
    rcases List.mem_append.mp hz with hz | hz
    · exact sN z hz
    · rw [List.mem_singleton.mp hz]; exact sw
  have tM : tr (N ++ [w]) = N ++ [w] := tr_fix hw
  have six1 : ∀ {L : List Cn}, (∀ z ∈ L, Sm z) → ∀ z ∈ L, Nb (6 ^ 1) 130 z := fun h z hz => by
    rw [Int.pow_succ, Int.pow_zero, Int.one_mul]
    exact (sm_nb (h z hz)).mono (by decide)
  show F__law_row_times [.list ((N ++ [w]).map tq), .list (F.map tq)] _
  refine T_times6 (a := 1) (b := 1) (by decide) (by decide) tM tF (fun z hz => (six1 sM z hz).mono (by decide)) (fun z hz => (six1 sF z hz).mono (by decide)) (by omega) (by omega) ?_
  have np : ∀ z ∈ pmul (N ++ [w]) F, Nb (6 ^ 2) 300 z := fun z hz => by
    have := nb_pmul (six_ne 1) (six_ne 1) (six1 sM) (six1 sF) z hz
    rw [← Int.pow_add] at this
    exact this.mono (by omega)
  have tp' : ∀ z ∈ pmul (N ++ [w]) F, Ts 300 z := fun z hz => (np z hz).ts (pos_6pow 2) ((bd_6pow (by decide)).mono (by decide))
  have tRs : ∀ z ∈ R, Ts 300 z := fun z hz => (sR z hz).ts.mono (by decide)
  have lp : (pmul (N ++ [w]) F).length ≤ 8 := by
    unfold pmul
    split
    · simp
    · simp; omega
  show F__law_row_sum [.list ((pmul (N ++ [w]) F).map tq), .list (R.map tq)] _
  refine T_row_sum0 tp' tRs (by decide) (by decide) (by omega) (by omega) ?_
  generalize hL : tr (sum2 (pmul (N ++ [w]) F) R) = L
  have tL : tr L = L := by rw [← hL, tr_tr]
  have lL : L.length ≤ 8 := by
    rw [← hL]
    refine Nat.le_trans (tr_len _) ?_
    unfold sum2
    rw [List.length_map, List.length_range]
    omega
  have sL : ∀ z ∈ L, Ts 700 z := fun z hz => by
    rw [← hL] at hz
    have hz2 := tr_mem _ z hz
    unfold sum2 at hz2
    obtain ⟨k, _, rfl⟩ := List.mem_map.mp hz2
    exact ((cf_ts tp' (by decide) k).add (cf_ts tRs (by decide) k)).mono (by decide)
  have hv : ∀ x, Rim.hn L x = Rim.hn (N ++ [w]) x * Rim.hn F x + Rim.hn R x := fun x => by rw [← hL, hn_tr, hn_sum2, hn_pmul]
  show F__law_told_row [.list (F.map tq)] _
  refine T_told_row (n := 3) (by omega) (fun z hz => (sF z hz).ts) (by decide) ?_
  show F__law_told_row [.list (R.map tq)] _
  refine T_told_row (n := 3) (by omega) (fun z hz => (sR z hz).ts) (by decide) ?_
  show F__law_told_row [.list (L.map tq)] _
  refine T_told_row (by omega) sL (by decide) ?_
  show F__law_told_row [.list ((N ++ [w]).map tq)] _
  refine T_told_row (n := 3) (by omega) (fun z hz => (sM z hz).ts) (by decide) ?_
  rw [tF, tR, tL, tM]
  have nR : ∀ z ∈ R, Nb (6 ^ (1 + 1)) 290 z := fun z hz => by
    have := (six1 sR z hz).lift (six_ne 1) (six_ne 1) (bd_6pow (show 1 ≤ 20 by decide))
    rw [← Int.pow_add] at this
    exact this.mono (by decide)
  have kD : ∀ {Θ : PyData → Prop}, Θ (.tuple [.tuple (F.map nm), .tuple (R.map nm)]) → F_row_divided [.tuple (L.map nm), .tuple ((N ++ [w]).map nm)] Θ := fun hΘ =>
    T_row_dividedR (a := 1) (b := 1) (by decide) (by decide) (by decide) tL tF tR hw lR (by omega) (by omega) (six1 sF) (six1 sM) nR hv hΘ
  show F_row_divided [.tuple (L.map nm), .tuple ((N ++ [w]).map nm)] _
  refine kD ?_
  show F_row_divided [.tuple (L.map nm), .tuple ((N ++ [w]).map nm)] _
  refine kD ?_
  have okp := ok_pair (ok_row (L := F) (by omega) (fun z hz => (sF z hz).ts) (by decide)) (ok_row (L := R) (by omega) (fun z hz => (sR z hz).ts) (by decide))
  dsimp only [vNil]
  refine T_reprG (ok_l2 okp okp) fun s1 e1 => ?_
  dsimp only [vB, vOf, vTup, vCons, vVar, geE, vNil]
  refine T_reprG (ok_l2 okp okp) fun s2 e2 => ?_
  exact eq_str e1 e2 h
end


/-! QBP: what is common to two rows of roots. -/
def scl (L : List Cn) (u : Cn) : List Cn := L.map fun z => z * u
theorem hn_scl (L : List Cn) (u x : Cn) : Rim.hn (scl L u) x = Rim.hn L x * u := by
  have e : scl L u = L.map fun z => u * z := List.map_congr_left fun z _ => by grind
  rw [e, hn_smul]
  grind
theorem Mo.scl_last {f : List Cn} {k : Nat} {V : Cn → Cn} {u : Cn} (h : Mo f k V) : ∃ K : List Cn, scl f u = K ++ [u] ∧ K.length = k := by
  obtain ⟨K, rfl, e⟩ := h.sh
  refine ⟨K.map fun z => z * u, ?_, by simpa using e⟩
  unfold scl
  rw [List.map_append, List.map_singleton]
  congr 2
  grind
theorem Mo.scl_tr {f : List Cn} {k : Nat} {V : Cn → Cn} {u : Cn} (h : Mo f k V) (hu : u ≠ 0) : Rim.tr (scl f u) = scl f u := by
  obtain ⟨K, e, _⟩ := h.scl_last (u := u)
  rw [e, tr_fix hu]
theorem Mo.scl_nb {f : List Cn} {k : Nat} {V : Cn → Cn} {u : Cn} (h : Mo f k V) (su : Sm u) : ∀ z ∈ scl f u, Nb (6 ^ (k + 1)) (8 + 14 * k) z := fun z hz => by
  obtain ⟨w, hw, rfl⟩ := List.mem_map.mp hz
  have := (h.nb w hw).mul (six_ne k) (show (6 : Int) ≠ 0 by decide) (sm_nb su)
  rw [Int.pow_succ]
  exact this.mono (by omega)
theorem Mo.scl_len {f : List Cn} {k : Nat} {V : Cn → Cn} {u : Cn} (h : Mo f k V) : (scl f u).length = k + 1 := by
  unfold scl
  rw [List.length_map, h.len]
structure Bg (C LM RM : List Cn) (u v : Cn) (a b c : Nat) : Prop where
  c0 : ∃ V, Mo C a V
  l0 : ∃ V, Mo LM b V
  r0 : ∃ V, Mo RM c V
  cop : Cop (Rim.hn LM) (Rim.hn RM)
  root : a ≠ 0 → ∃ r, Rt r ∧ Rim.hn C r = 0
  su : Sm u
  nu : u ≠ 0
  sv : Sm v
  nv : v ≠ 0
  ab : a + b ≤ 6
  ac : a + c ≤ 6
variable {C LM RM : List Cn} {u v : Cn} {a b c : Nat}
theorem Bg.symm (t : Bg C LM RM u v a b c) : Bg C RM LM v u a c b := ⟨t.c0, t.r0, t.l0, t.cop.symm, t.root, t.sv, t.nv, t.su, t.nu, t.ac, t.ab⟩
def frs (C LM : List Cn) (u : Cn) : List Cn := pmul C (scl LM u)
theorem Bg.frs_nb (t : Bg C LM RM u v a b c) : ∀ z ∈ frs C LM u, Nb (6 ^ (a + b + 1)) 200 z := fun z hz => by
  obtain ⟨V, hC⟩ := t.c0
  obtain ⟨W, hL⟩ := t.l0
  have h1 := nb_pmul (six_ne a) (six_ne (b + 1)) hC.nb (hL.scl_nb t.su) z hz
  rw [← Int.pow_add] at h1
  have := hC.len
  have := t.ab
  exact h1.mono (by omega)
theorem Bg.frs_len (t : Bg C LM RM u v a b c) : (frs C LM u).length = a + b + 1 := by
  obtain ⟨V, hC⟩ := t.c0
  obtain ⟨W, hL⟩ := t.l0
  have h1 := hC.len
  have h2 := hL.scl_len (u := u)
  unfold frs pmul
  rw [if_neg (fun e => by rcases e with e | e <;> simp [e] at h1 h2), List.length_map, List.length_range]
  omega
theorem Bg.frs_tr (t : Bg C LM RM u v a b c) : tr (frs C LM u) = frs C LM u := by
  obtain ⟨V, hC⟩ := t.c0
  obtain ⟨W, hL⟩ := t.l0
  exact tr_pmul hC.tr (hL.scl_tr t.nu)
theorem Bg.frs_ts (t : Bg C LM RM u v a b c) : ∀ z ∈ frs C LM u, Ts 200 z := fun z hz => (t.frs_nb z hz).ts (pos_6pow _) ((bd_6pow (by have := t.ab; omega)).mono (by decide))
theorem Bg.frs_ov (t : Bg C LM RM u v a b c) : ∀ z ∈ frs C LM u, Ov (6 ^ 7) z := fun z hz => ((t.frs_nb z hz).ov (six_ne _)).mono ⟨6 ^ (7 - (a + b + 1)), by
  rw [← Int.pow_add]
  congr 1
  have := t.ab
  omega⟩
theorem Mo.ts {f : List Cn} {k : Nat} {V : Cn → Cn} (h : Mo f k V) (hk : k ≤ 6) : ∀ z ∈ f, Ts 200 z := fun z hz => ((h.nb z hz).mono (by omega)).ts (pos_6pow _) ((bd_6pow (by omega)).mono (by decide))
section
variable {Φ : PyData → Prop} {n m k : Nat} {A : Addr} {P : Post}
theorem T_rc (t : Bg C LM RM u v a b c) (h : Φ (.tuple (C.map nm))) : F_row_common [.tuple ((frs C LM u).map nm), .tuple ((frs C RM v).map nm)] Φ := by
  obtain ⟨V, hC⟩ := t.c0
  have l1 := t.frs_len
  have l2 := t.symm.frs_len
  have h1 := t.ab
  have h2 := t.ac
  have f1 := t.frs_nb
  have t1 := t.frs_ts
  have t2 := t.symm.frs_ts
  unfold F_row_common mkF b_row_common
  refine ⟨rfl, ?_⟩
  dsimp only [vSeqS, vDrop, vRet, vCall, vCons, vNil, vVar, ends, geE, List.map, List.replicate, List.cons_append, List.nil_append]
  refine T_need_row t.frs_tr (T_need_row t.symm.frs_tr ?_)
  obtain ⟨K, rfl, eK⟩ := hC.sh
  refine T_commonR (n := 200) (Dn := 6 ^ 7) (DG := 6 ^ a) (f := fun x => Rim.hn LM x * u) (g := fun x => Rim.hn RM x * v) (six_ne 7) (bd_6pow (by decide)) (by decide) (fun z hz => (t1 z hz).cs) (fun z hz => (t2 z hz).cs) t.frs_ov t.symm.frs_ov
    (by omega) (by omega) (by omega) ?_ (six_ne a) (bd_6pow (by omega)) (fun z hz => (hC.nb z hz).ov (six_ne a)) (fun x => ?_) (fun x => ?_) ((isp_row _).mul (isp_const _)) ((isp_row _).mul (isp_const _)) (t.cop.scale t.nu t.nv) (fun _ _ ne => ?_) h
  · have : 6 ^ (max (frs (K ++ [1]) LM u).length (frs (K ++ [1]) RM v).length) ≤ 6 ^ 7 := Nat.pow_le_pow_right (by decide) (by omega)
    refine Nat.le_trans (Nat.mul_le_mul_left _ this) (by decide)
  · unfold frs
    rw [hn_pmul, hn_scl]
  · unfold frs
    rw [hn_pmul, hn_scl]
  · exact t.root fun e => ne (List.eq_nil_of_length_eq_zero (by omega))
theorem T_rd (t : Bg C LM RM u v a b c) (h : Φ (.tuple [.tuple ((scl LM u).map nm), .tuple []])) : F_row_divided [.tuple ((frs C LM u).map nm), .tuple (C.map nm)] Φ := by
  obtain ⟨V, hC⟩ := t.c0
  obtain ⟨W, hL⟩ := t.l0
  have l1 := t.frs_len
  have h1 := t.ab
  have l2 := hL.scl_len (u := u)
  have ft := t.frs_tr
  obtain ⟨K, rfl, eK⟩ := hC.sh
  exact T_row_dividedR (R := []) (a := b + 1) (b := a) (by omega) (by omega) (by omega) ft (hL.scl_tr t.nu) rfl one_ne (Nat.zero_le _) (by omega) (by omega) (fun z hz => (hL.scl_nb t.su z hz).mono (by omega)) (fun z hz => (hC.nb z hz).mono (by omega)) (fun z hz => by cases hz) (fun x => by
    unfold frs
    rw [hn_pmul]
    show _ = _ + 0
    grind) h
/-- with a row that is nought -/
theorem T_rn1 (t : Bg C LM RM u v a b c) (h : Φ (.tuple ((pmul C LM).map nm))) : F_row_common [.tuple ((frs C LM u).map nm), .tuple []] Φ ∧ F_row_common [.tuple [], .tuple ((frs C LM u).map nm)] Φ := by
  obtain ⟨V, hC⟩ := t.c0
  obtain ⟨W, hL⟩ := t.l0
  have l1 := t.frs_len
  have h1 := t.ab
  have t1 := t.frs_ts
  have lC := hC.len
  have lL := hL.len
  have hG : ∃ K : List Cn, pmul C LM = K ++ [1] ∧ K.length = a + b := by
    obtain ⟨K, rfl, eK⟩ := hC.sh
    obtain ⟨M, rfl, eM⟩ := hL.sh
    refine ⟨(List.range (a + b)).map (cv (K ++ [1]) (M ++ [1])), ?_, by simp⟩
    have e2 := outC_last (fun z w => z * w) 1 1 M K 0
    unfold pmul
    rw [if_neg (by simp), show (K ++ [(1 : Cn)]).length + (M ++ [(1 : Cn)]).length - 1 = (a + b) + 1 by omega, List.range_succ, List.map_append, List.map_singleton]
    congr 2
    show outC (fun z w => z * w) (K ++ [1]) (M ++ [1]) 0 (a + b) = 1
    rw [show a + b = 0 + K.length + M.length by omega, e2]
    grind
  obtain ⟨K, eG, eK⟩ := hG
  have nG : ∀ z ∈ K ++ [1], Nb (6 ^ (a + b)) 200 z := fun z hz => by
    rw [← eG] at hz
    have h1 := nb_pmul (six_ne a) (six_ne b) hC.nb hL.nb z hz
    rw [← Int.pow_add] at h1
    exact h1.mono (by omega)
  have vG : ∀ x, Rim.hn (frs C LM u) x = Rim.hn (K ++ [1]) x * u := fun x => by
    rw [← eG]
    unfold frs
    rw [hn_pmul, hn_pmul, hn_scl]
    grind
  rw [eG] at h
  have sz1 : 4 * ((200 + 64 + (200 + 64) + 1) + 3) * 6 ^ (max (frs C LM u).length ([] : List Cn).length) ≤ kK := by
    have : 6 ^ (max (frs C LM u).length ([] : List Cn).length) ≤ 6 ^ 7 := Nat.pow_le_pow_right (by decide) (by rw [l1]; simp; omega)
    exact Nat.le_trans (Nat.mul_le_mul_left _ this) (by decide)
  have sz2 : 4 * ((200 + 64 + (200 + 64) + 1) + 3) * 6 ^ (max ([] : List Cn).length (frs C LM u).length) ≤ kK := by rw [Nat.max_comm]; exact sz1
  refine ⟨?_, ?_⟩
  · unfold F_row_common mkF b_row_common
    refine ⟨rfl, ?_⟩
    dsimp only [vSeqS, vDrop, vRet, vCall, vCons, vNil, vVar, ends, geE, List.map, List.replicate, List.cons_append, List.nil_append]
    refine T_need_row t.frs_tr (T_need_row (L := []) rfl ?_)
    exact T_commonR (M := []) (n := 200) (Dn := 6 ^ 7) (DG := 6 ^ (a + b)) (f := fun _ => u) (g := fun _ => 0) (six_ne 7) (bd_6pow (by decide)) (by decide) (fun z hz => (t1 z hz).cs) (fun z hz => by cases hz) t.frs_ov (fun z hz => by cases hz)
      (by omega) (by simp) (by omega) sz1 (six_ne _) (bd_6pow (by omega)) (fun z hz => (nG z hz).ov (six_ne _)) vG (fun x => by show 0 = _ * 0; grind) (isp_const _) (isp_const _) (cop_const t.nu _) (fun _ ne => absurd rfl ne) h
  · unfold F_row_common mkF b_row_common
    refine ⟨rfl, ?_⟩
    dsimp only [vSeqS, vDrop, vRet, vCall, vCons, vNil, vVar, ends, geE, List.map, List.replicate, List.cons_append, List.nil_append]
    refine T_need_row (L := []) rfl (T_need_row t.frs_tr ?_)
    exact T_commonR (L := []) (n := 200) (Dn := 6 ^ 7) (DG := 6 ^ (a + b)) (f := fun _ => 0) (g := fun _ => u) (six_ne 7) (bd_6pow (by decide)) (by decide) (fun z hz => by cases hz) (fun z hz => (t1 z hz).cs) (fun z hz => by cases hz) t.frs_ov
      (by simp) (by omega) (by omega) sz2 (six_ne _) (bd_6pow (by omega)) (fun z hz => (nG z hz).ov (six_ne _)) (fun x => by show 0 = _ * 0; grind) vG (isp_const _) (isp_const _) (cop_const t.nu _).symm (fun ne => absurd rfl ne) h
theorem T_rn0 (h : Φ (.tuple [])) : F_row_common [.tuple [], .tuple []] Φ := by
  unfold F_row_common mkF b_row_common
  refine ⟨rfl, ?_⟩
  dsimp only [vSeqS, vDrop, vRet, vCall, vCons, vNil, vVar, ends, geE, List.map, List.replicate, List.cons_append, List.nil_append]
  refine T_need_row (L := []) rfl (T_need_row (L := []) rfl ?_)
  exact T_commonR_none h
end


/-! QBQ: division and common divisors of rows: the law (k05). -/
theorem zip3_ex : ∀ (rs : List Cn) (es fs : List Nat), es.length = rs.length → fs.length = rs.length → ∃ Q : List Rq, Q.map Prod.fst = rs ∧ Q.map (fun q => q.2.1) = es ∧ Q.map (fun q => q.2.2) = fs
  | [], [], [], _, _ => ⟨[], rfl, rfl, rfl⟩
  | r :: rs, e :: es, f :: fs, h1, h2 => by
    obtain ⟨Q, q1, q2, q3⟩ := zip3_ex rs es fs (by simpa using h1) (by simpa using h2)
    exact ⟨(r, e, f) :: Q, by simp [q1], by simp [q2], by simp [q3]⟩
section
variable {Φ : PyData → Prop} {n m k : Nat} {A : Addr} {P : Post} {Ψ : List PyData → Prop} {R : WS}
theorem lc_genA {α : Type} {g : α → PyData} {turn : PyData → (Option PyData → Prop) → Prop} {T : α → Prop} : ∀ (xs : List PyData) (N : List α), (∀ z ∈ N, T z) → (∀ x ∈ xs, ∀ K : Option PyData → Prop, (∀ z, T z → K (some (g z))) → turn x K) → (∀ M : List α, M.length = N.length + xs.length → (∀ z ∈ M, T z) → Ψ (M.map g)) → lcW turn xs (N.map g) Ψ
  | [], N, hN, _, h => h N (by simp) hN
  | x :: xs, N, hN, ht, h => by
    refine ht x (List.mem_cons_self ..) _ fun z hz => ?_
    have e : N.map g ++ [g z] = (N ++ [z]).map g := by simp
    show lcW turn xs (N.map g ++ [g z]) Ψ
    rw [e]
    refine lc_genA xs (N ++ [z]) (fun w hw => ?_) (fun y hy => ht y (List.mem_cons_of_mem _ hy)) fun M h1 h2 => h M (by rw [h1]; simp; omega) h2
    rcases List.mem_append.mp hw with hw | hw
    · exact hN w hw
    · rw [List.mem_singleton.mp hw]; exact hz
theorem lc_idx {turn : PyData → (Option PyData → Prop) → Prop} {Q : List Rq} {h : Rq → PyData} (ht : ∀ (k : Nat) (q : Rq), Q[k]? = some q → ∀ K : Option PyData → Prop, K (some (h q)) → turn (.int (k : Int)) K) (hP : Ψ (Q.map h)) : lcW turn (rgD 0 Q.length) [] Ψ := by
  unfold rgD
  refine lc_map (f := fun k => match Q[k]? with | some q => h q | none => .none) (g := fun k : Nat => PyData.int (0 + (k : Int))) _ [] (fun k hk K hK => ?_) ?_
  · have hk2 := List.mem_range.mp hk
    rw [Int.zero_add]
    have e := List.getElem?_eq_getElem hk2
    refine ht k Q[k] e K ?_
    have hK : K (some (match Q[k]? with | some q => h q | none => .none)) := hK
    rw [e] at hK
    exact hK
  · rw [List.nil_append]
    have e : ((List.range Q.length).map fun k => match Q[k]? with | some q => h q | none => PyData.none) = Q.map h := by
      refine List.ext_getElem? fun k => ?_
      rw [List.getElem?_map, List.getElem?_map]
      by_cases hk : k < Q.length
      · rw [List.getElem?_range hk, List.getElem?_eq_getElem hk]
        show some (match Q[k]? with | some q => h q | none => PyData.none) = _
        rw [List.getElem?_eq_getElem hk]
        rfl
      · rw [List.getElem?_eq_none (by simp; omega), List.getElem?_eq_none (by omega)]
        rfl
    rw [e]
    exact hP
structure Qs (Q : List Rq) : Prop where
  l : Q.length ≤ 3
  s : ∀ q ∈ Q, Sm q.1
  e : ∀ q ∈ Q, q.2.1 ≤ 2 ∧ q.2.2 ≤ 2
  nd : (Q.map Prod.fst).Nodup
noncomputable def rsL (Q : List Rq) : PyData := .list ((Q.map Prod.fst).map tq)
def exL (Q : List Rq) (g : Nat → Nat → Nat) : PyData := .list (Q.map fun q => .int (g q.2.1 q.2.2 : Nat))
def gE (e _ : Nat) : Nat := e
def gF (_ f : Nat) : Nat := f
def gM (e f : Nat) : Nat := min e f
def gD1 (e f : Nat) : Nat := e - min e f
def gD2 (e f : Nat) : Nat := f - min e f
theorem T_q05A {a1 a2 a3 a4 a5 a6 a7 a8 a9 a10 a11 a12 a13 a14 a15 a16 a17 : Sl} (h : ∀ Q, Qs Q → R [.v (.ref A), .d (rsL Q), .d (exL Q gE), .d (exL Q gF), a4, a5, a6, a7, a8, a9, a10, a11, a12, a13, a14, a15, a16, a17] P) :
    (vSeqS (vIfS (vNot (vTru (vCallQ 0 A F__law_divided vNil))) (vRet (vC (.bool false))) vNext) (vSeqS (vAsg 1 (vCallQ 0 A F__law_roots vNil)) (vSeqS (vAsgG (vTup (vCons (vOf (vLc [16] (vSeq (vVar 1)) (vgN 16) vYes (vCallQ 0 A F__law_dip (vCons (vC (.int 3)) vNil)))) (vCons (vOf (vLc [16] (vSeq (vVar 1)) (vgN 16) vYes (vCallQ 0 A F__law_dip (vCons (vC (.int 3)) vNil)))) vNil))) (vgT 2 (vgCons (vgN 2) (vgCons (vgN 3) vgNil)))) R))) [.v (.ref A), a1, a2, a3, a4, a5, a6, a7, a8, a9, a10, a11, a12, a13, a14, a15, a16, a17] P := by
  show _ ∧ F__law_divided A [] _
  refine ⟨rfl, T_divided_law ?_⟩
  show _ ∧ F__law_roots A [] _
  refine ⟨rfl, T_roots fun rs lr hr => ?_⟩
  have dip : ∀ K : Option PyData → Prop, (∀ e : Nat, e ≤ 2 → K (some (.int (e : Nat)))) → F__law_dip A [.int 3] fun d => K (some d) := fun K hK => by
    refine T_dip (by decide) (by decide) fun r r0 r1 => ?_
    have e : r = ((r.toNat : Nat) : Int) := by omega
    rw [e]
    exact hK _ (by omega)
  show _ ∧ lcW _ (rs.map tq) (([] : List Nat).map fun e => .int (e : Nat)) _
  refine ⟨by rw [List.length_map, sizeLine_eq]; omega, ?_⟩
  refine lc_genA (T := fun e : Nat => e ≤ 2) _ [] (fun z hz => by cases hz) (fun x _ K hK => ?_) fun es l1 b1 => ?_
  · show _ ∧ F__law_dip A [.int 3] _
    exact ⟨rfl, dip K hK⟩
  show _ ∧ lcW _ (rs.map tq) (([] : List Nat).map fun e => .int (e : Nat)) _
  refine ⟨by rw [List.length_map, sizeLine_eq]; omega, ?_⟩
  refine lc_genA (T := fun e : Nat => e ≤ 2) _ [] (fun z hz => by cases hz) (fun x _ K hK => ?_) fun fs l2 b2 => ?_
  · show _ ∧ F__law_dip A [.int 3] _
    exact ⟨rfl, dip K hK⟩
  refine ⟨rfl, ?_⟩
  obtain ⟨Q, q1, q2, q3⟩ := zip3_ex rs es fs (by simpa using l1) (by simpa using l2)
  have t : Qs Q := by
    refine ⟨?_, fun q hq => ?_, fun q hq => ⟨?_, ?_⟩, by rw [q1]; exact hr.nd⟩
    · have := congrArg List.length q1
      rw [List.length_map] at this
      omega
    · exact hr.sm _ (by rw [← q1]; exact List.mem_map.mpr ⟨q, hq, rfl⟩)
    · exact b1 _ (by rw [← q2]; exact List.mem_map.mpr ⟨q, hq, rfl⟩)
    · exact b2 _ (by rw [← q3]; exact List.mem_map.mpr ⟨q, hq, rfl⟩)
  have z := h Q t
  have e1 : rsL Q = .list (rs.map tq) := by unfold rsL; rw [q1]
  have e2 : exL Q gE = .list (es.map fun e => .int (e : Nat)) := by unfold exL gE; rw [← q2, List.map_map]; rfl
  have e3 : exL Q gF = .list (fs.map fun e => .int (e : Nat)) := by unfold exL gF; rw [← q3, List.map_map]; rfl
  rw [e1, e2, e3] at z
  exact z
theorem ex_at {Q : List Rq} {g : Nat → Nat → Nat} {k : Nat} {q : Rq} (h : Q[k]? = some q) (hk : Φ (.int (g q.2.1 q.2.2 : Nat))) : oIx (exL Q g) (.int (k : Int)) Φ := by
  show oIx (.tuple (Q.map fun q => PyData.int (g q.2.1 q.2.2 : Nat))) (.int (k : Int)) Φ
  exact ix_nat (by rw [List.getElem?_map, h]; rfl) hk
theorem Qs.two {Q : List Rq} (t : Qs Q) (g : Nat → Nat → Nat) (hg : ∀ e f, g e f ≤ max e f) : (∀ q ∈ Q, g q.2.1 q.2.2 ≤ 2) := fun q hq => by
  have h1 := hg q.2.1 q.2.2
  have h2 := t.e q hq
  omega
theorem Qs.sm {Q : List Rq} (t : Qs Q) (g : Nat → Nat → Nat) : ∀ z ∈ spr g Q, Sm z := fun z hz => by
  obtain ⟨q, q1, q2, _⟩ := spr_mem hz
  rw [← q2]
  exact t.s q q1
theorem Qs.mo {Q : List Rq} (t : Qs Q) (g : Nat → Nat → Nat) (h : (spr g Q).length ≤ 6) : Mo (mon [1] (spr g Q)) (spr g Q).length (prd (spr g Q)) := by
  have := mo_mon (spr g Q) [1] 0 _ mo_one (t.sm g) (by omega)
  rw [Nat.zero_add] at this
  exact ⟨this.sh, this.nb, fun x => by rw [this.val]; grind⟩
theorem Qs.len {Q : List Rq} (t : Qs Q) {g h i : Nat → Nat → Nat} (e : ∀ a b, g a b + h a b = i a b) (hi : ∀ a b, i a b ≤ max a b) : (spr g Q).length + (spr h Q).length ≤ 6 := by
  rw [spr_len e Q]
  have := spr_two Q (t.two i hi)
  have := t.l
  omega
def CR (Q : List Rq) : List Cn := mon [1] (spr gM Q)
def LR (Q : List Rq) : List Cn := mon [1] (spr gD1 Q)
def RR (Q : List Rq) : List Cn := mon [1] (spr gD2 Q)
theorem Qs.bg {Q : List Rq} (t : Qs Q) {u v : Cn} (su : Sm u) (nu : u ≠ 0) (sv : Sm v) (nv : v ≠ 0) : Bg (CR Q) (LR Q) (RR Q) u v (spr gM Q).length (spr gD1 Q).length (spr gD2 Q).length := by
  have h1 := t.len (g := gM) (h := gD1) (i := gE) (fun a b => by unfold gM gD1 gE; omega) (fun a b => by unfold gE; omega)
  have h2 := t.len (g := gM) (h := gD2) (i := gF) (fun a b => by unfold gM gD2 gF; omega) (fun a b => by unfold gF; omega)
  have m0 := t.mo gM (by omega)
  have m1 := t.mo gD1 (by omega)
  have m2 := t.mo gD2 (by omega)
  refine ⟨⟨_, m0⟩, ⟨_, m1⟩, ⟨_, m2⟩, ?_, fun ne => ?_, su, nu, sv, nv, h1, h2⟩
  · have e1 : Rim.hn (LR Q) = prd (spr gD1 Q) := funext m1.val
    have e2 : Rim.hn (RR Q) = prd (spr gD2 Q) := funext m2.val
    rw [e1, e2]
    exact cop_prd (spr_apart (fun a b => by unfold gD1 gD2; omega) t.nd)
  · cases q : spr gM Q with
    | nil => rw [q] at ne; exact absurd rfl ne
    | cons r rs =>
      refine ⟨r, sm_rt (t.sm gM r (by rw [q]; exact List.mem_cons_self ..)), ?_⟩
      have := m0.val r
      rw [show CR Q = mon [1] (spr gM Q) from rfl, this]
      exact prd_root (by rw [q]; exact List.mem_cons_self ..)
theorem T_mon {Q : List Rq} (t : Qs Q) {g : Nat → Nat → Nat} (hg : ∀ e f, g e f ≤ max e f) (h : Φ (.list ((mon [1] (spr g Q)).map tq))) : F__law_spread [rsL Q, exL Q g] fun d => F__law_monic [d] Φ := by
  have h3 := t.l
  have h2 := spr_two Q (t.two g hg)
  refine T_spread (g := g) (fun q hq => Nat.le_trans (t.two g hg q hq) (by decide)) (by omega) ?_
  exact T_monic (t.sm g) (by omega) h
theorem T_q05B {a5 a6 a7 a8 a9 a10 a11 a12 a13 a14 a15 a16 a17 a4 : Sl} {Q : List Rq} (t : Qs Q) (h : ∀ u v, Sm u → u ≠ 0 → Sm v → v ≠ 0 → R [.v (.ref A), .d (rsL Q), .d (exL Q gE), .d (exL Q gF), .d (exL Q gM), .d (.list ((CR Q).map tq)), .d (tq u), .d (tq v), .d (.list ((scl (LR Q) u).map tq)), .d (.list ((scl (RR Q) v).map tq)), a10, a11, a12, a13, a14, a15, a16, a17] P) :
    (vSeqS (vAsg 4 (vOf (vLc [17] (vR1 (vCons (vB oLen (vCons (vVar 1) vNil)) vNil)) (vgN 17) vYes (vB oMin (vCons (vOp oIx (vVar 2) (vVar 17)) (vCons (vOp oIx (vVar 3) (vVar 17)) vNil)))))) (vSeqS (vAsg 5 (vCall F__law_monic (vCons (vCall F__law_spread (vCons (vVar 1) (vCons (vVar 4) vNil))) vNil))) (vSeqS (vPar 6 7 (vCons (vCallQ 0 A F__law_many vNil) (vCons (vCallQ 0 A F__law_many vNil) vNil))) (vSeqS (vAsg 8 (vCall F__law_scaled (vCons (vCall F__law_monic (vCons (vCall F__law_spread (vCons (vVar 1) (vCons (vOf (vLc [17] (vR1 (vCons (vB oLen (vCons (vVar 1) vNil)) vNil)) (vgN 17) vYes (vOp oSub (vOp oIx (vVar 2) (vVar 17)) (vOp oIx (vVar 4) (vVar 17))))) vNil))) vNil)) (vCons (vVar 6) vNil)))) (vSeqS (vAsg 9 (vCall F__law_scaled (vCons (vCall F__law_monic (vCons (vCall F__law_spread (vCons (vVar 1) (vCons (vOf (vLc [17] (vR1 (vCons (vB oLen (vCons (vVar 1) vNil)) vNil)) (vgN 17) vYes (vOp oSub (vOp oIx (vVar 3) (vVar 17)) (vOp oIx (vVar 4) (vVar 17))))) vNil))) vNil)) (vCons (vVar 7) vNil)))) R))))) [.v (.ref A), .d (rsL Q), .d (exL Q gE), .d (exL Q gF), a4, a5, a6, a7, a8, a9, a10, a11, a12, a13, a14, a15, a16, a17] P := by
  have l3 := t.l
  have ll : ((((Q.map Prod.fst).map tq).length : Nat) : Int).toNat = Q.length := by rw [List.length_map, List.length_map, Int.toNat_natCast]
  have lb : -(2 ^ 62) ≤ ((((Q.map Prod.fst).map tq).length : Nat) : Int) ∧ ((((Q.map Prod.fst).map tq).length : Nat) : Int) < 2 ^ 62 := by rw [List.length_map, List.length_map]; omega
  have rl : (rgD 0 Q.length).length ≤ sizeLine := by rw [show (rgD 0 Q.length).length = Q.length by simp [rgD], sizeLine_eq]; omega
  show (_ ∧ _) ∧ _ ∧ lcW _ (rgD 0 ((((Q.map Prod.fst).map tq).length : Nat) : Int).toNat) [] _
  rw [ll]
  refine ⟨lb, rl, ?_⟩
  refine lc_idx (Q := Q) (h := fun q => .int (gM q.2.1 q.2.2 : Nat)) (fun k q hk K hK => ?_) ?_
  · show oIx (exL Q gE) (.int (k : Int)) _
    refine ex_at hk ?_
    show oIx (exL Q gF) (.int (k : Int)) _
    refine ex_at hk ?_
    have e : ∀ z : Int, z = (if ((gF q.2.1 q.2.2 : Nat) : Int) < ((gE q.2.1 q.2.2 : Nat) : Int) then ((gF q.2.1 q.2.2 : Nat) : Int) else ((gE q.2.1 q.2.2 : Nat) : Int)) → K (some (.int z)) := fun z hz => by
      have : z = ((gM q.2.1 q.2.2 : Nat) : Int) := by
        rw [hz]
        unfold gE gF gM
        split <;> omega
      rw [this]
      exact hK
    exact e _ rfl
  show F__law_spread [rsL Q, exL Q gM] fun d => F__law_monic [d] _
  refine T_mon t (fun e f => by unfold gM; omega) ?_
  show _ ∧ F__law_many A [] _
  refine ⟨rfl, T_many fun u su nu => ?_⟩
  show _ ∧ F__law_many A [] _
  refine ⟨rfl, T_many fun v sv nv => ?_⟩
  have g := t.bg su nu sv nv
  obtain ⟨V1, m1⟩ := g.l0
  obtain ⟨V2, m2⟩ := g.r0
  have ab := g.ab
  have ac := g.ac
  show (_ ∧ _) ∧ _ ∧ lcW _ (rgD 0 ((((Q.map Prod.fst).map tq).length : Nat) : Int).toNat) [] _
  rw [ll]
  refine ⟨lb, rl, ?_⟩
  refine lc_idx (Q := Q) (h := fun q => .int (gD1 q.2.1 q.2.2 : Nat)) (fun k q hk K hK => ?_) ?_
  · show oIx (exL Q gE) (.int (k : Int)) _
    refine ex_at hk ?_
    show oIx (exL Q gM) (.int (k : Int)) _
    refine ex_at hk ?_
    have e : ((gE q.2.1 q.2.2 : Nat) : Int) - ((gM q.2.1 q.2.2 : Nat) : Int) = ((gD1 q.2.1 q.2.2 : Nat) : Int) := by unfold gE gM gD1; omega
    show K (some (.int (((gE q.2.1 q.2.2 : Nat) : Int) - ((gM q.2.1 q.2.2 : Nat) : Int))))
    rw [e]
    exact hK
  show F__law_spread [rsL Q, exL Q gD1] fun d => F__law_monic [d] _
  refine T_mon t (fun e f => by unfold gD1; omega) ?_
  show F__law_scaled [.list ((LR Q).map tq), tq u] _
  refine T_scaled0 (n := 200) (m := 3) (m1.ts (by omega)) su.ts (by decide) (by rw [m1.len]; omega) ?_
  show (_ ∧ _) ∧ _ ∧ lcW _ (rgD 0 ((((Q.map Prod.fst).map tq).length : Nat) : Int).toNat) [] _
  rw [ll]
  refine ⟨lb, rl, ?_⟩
  refine lc_idx (Q := Q) (h := fun q => .int (gD2 q.2.1 q.2.2 : Nat)) (fun k q hk K hK => ?_) ?_
  · show oIx (exL Q gF) (.int (k : Int)) _
    refine ex_at hk ?_
    show oIx (exL Q gM) (.int (k : Int)) _
    refine ex_at hk ?_
    have e : ((gF q.2.1 q.2.2 : Nat) : Int) - ((gM q.2.1 q.2.2 : Nat) : Int) = ((gD2 q.2.1 q.2.2 : Nat) : Int) := by unfold gF gM gD2; omega
    show K (some (.int (((gF q.2.1 q.2.2 : Nat) : Int) - ((gM q.2.1 q.2.2 : Nat) : Int))))
    rw [e]
    exact hK
  show F__law_spread [rsL Q, exL Q gD2] fun d => F__law_monic [d] _
  refine T_mon t (fun e f => by unfold gD2; omega) ?_
  show F__law_scaled [.list ((RR Q).map tq), tq v] _
  refine T_scaled0 (n := 200) (m := 3) (m2.ts (by omega)) sv.ts (by decide) (by rw [m2.len]; omega) ?_
  exact h u v su nu sv nv
theorem T_frs {C LM RM : List Cn} {u v : Cn} {a b c : Nat} (t : Bg C LM RM u v a b c) (h : Φ (.list ((frs C LM u).map tq))) : F__law_row_times [.list (C.map tq), .list ((scl LM u).map tq)] Φ := by
  obtain ⟨V, hC⟩ := t.c0
  obtain ⟨W, hL⟩ := t.l0
  have ab := t.ab
  exact T_times6 (a := a) (b := b + 1) (by omega) (by omega) hC.tr (hL.scl_tr t.nu) (fun z hz => (hC.nb z hz).mono (by omega)) (fun z hz => (hL.scl_nb t.su z hz).mono (by omega)) (by rw [hC.len]; omega) (by rw [hL.scl_len]; omega) h
theorem T_told_nb {L : List Cn} {n : Nat} (hn : n ≤ 9000) (hl : L.length ≤ 1000) (tL : tr L = L) (hs : ∀ z ∈ L, Ts n z) (h : Φ (.tuple (L.map nm))) : F__law_told_row [.list (L.map tq)] Φ := by
  refine T_told_row hl hs hn ?_
  rw [tL]
  exact h
theorem Mo.scl_ts {f : List Cn} {k : Nat} {V : Cn → Cn} {u : Cn} (h : Mo f k V) (su : Sm u) (hk : k ≤ 6) : ∀ z ∈ scl f u, Ts 200 z := fun z hz => ((h.scl_nb su z hz).mono (by omega)).ts (pos_6pow _) ((bd_6pow (by omega)).mono (by decide))
theorem T_q05C {C LM RM : List Cn} {u v : Cn} {a b c : Nat} (t : Bg C LM RM u v a b c) {a0 a1 a2 a3 a4 a10 a11 a12 a13 a14 a15 a16 a17 : Sl} (h : R [a0, a1, a2, a3, a4, .d (.list (C.map tq)), .d (tq u), .d (tq v), .d (.list ((scl LM u).map tq)), .d (.list ((scl RM v).map tq)), .d (.list ((frs C LM u).map tq)), .d (.list ((frs C RM v).map tq)), .d (.tuple ((frs C LM u).map nm)), .d (.tuple ((frs C RM v).map nm)), .d (.tuple (C.map nm)), a15, a16, a17] P) :
    (vSeqS (vPar 10 11 (vCons (vCall F__law_row_times (vCons (vVar 5) (vCons (vVar 8) vNil))) (vCons (vCall F__law_row_times (vCons (vVar 5) (vCons (vVar 9) vNil))) vNil))) (vSeqS (vPar3 12 13 14 (vCons (vCall F__law_told_row (vCons (vVar 10) vNil)) (vCons (vCall F__law_told_row (vCons (vVar 11) vNil)) (vCons (vCall F__law_told_row (vCons (vVar 5) vNil)) vNil)))) R)) [a0, a1, a2, a3, a4, .d (.list (C.map tq)), .d (tq u), .d (tq v), .d (.list ((scl LM u).map tq)), .d (.list ((scl RM v).map tq)), a10, a11, a12, a13, a14, a15, a16, a17] P := by
  obtain ⟨V, hC⟩ := t.c0
  have ab := t.ab
  have ac := t.ac
  show F__law_row_times [.list (C.map tq), .list ((scl LM u).map tq)] _
  refine T_frs t ?_
  show F__law_row_times [.list (C.map tq), .list ((scl RM v).map tq)] _
  refine T_frs t.symm ?_
  show F__law_told_row [.list ((frs C LM u).map tq)] _
  refine T_told_nb (by decide) (by rw [t.frs_len]; omega) t.frs_tr t.frs_ts ?_
  show F__law_told_row [.list ((frs C RM v).map tq)] _
  refine T_told_nb (by decide) (by rw [t.symm.frs_len]; omega) t.symm.frs_tr t.symm.frs_ts ?_
  show F__law_told_row [.list (C.map tq)] _
  exact T_told_nb (by decide) (by rw [hC.len]; omega) hC.tr (hC.ts (by omega)) h
theorem T_q05D {C LM RM : List Cn} {u v : Cn} {a b c : Nat} (t : Bg C LM RM u v a b c) {a0 a1 a2 a3 a4 a15 a16 a17 : Sl} (h : R [a0, a1, a2, a3, a4, .d (.list (C.map tq)), .d (tq u), .d (tq v), .d (.list ((scl LM u).map tq)), .d (.list ((scl RM v).map tq)), .d (.list ((frs C LM u).map tq)), .d (.list ((frs C RM v).map tq)), .d (.tuple ((frs C LM u).map nm)), .d (.tuple ((frs C RM v).map nm)), .d (.tuple (C.map nm)), a15, a16, a17] P) :
    (vSeqS (vIfS (vTest (vOp oNe (vB oRepr (vCons (vOf (vCons (vCall F_row_common (vCons (vVar 12) (vCons (vVar 13) vNil))) (vCons (vCallK F_row_common kp_2_10 (vCons (vVar 12) (vCons (vVar 13) vNil))) (vCons (vCall F_row_divided (vCons (vVar 12) (vCons (vVar 14) vNil))) vNil)))) vNil)) (vB oRepr (vCons (vOf (vCons (vVar 14) (vCons (vVar 14) (vCons (vTup (vCons (vCall F__law_told_row (vCons (vVar 8) vNil)) (vCons (vTup vNil) vNil))) vNil)))) vNil)))) (vRet (vC (.bool false))) vNext) (vSeqS (vIfS (vTest (vOp oNe (vB oRepr (vCons (vCall F_row_divided (vCons (vVar 13) (vCons (vCall F_row_common (vCons (vVar 12) (vCons (vVar 13) vNil))) vNil))) vNil)) (vB oRepr (vCons (vTup (vCons (vCall F__law_told_row (vCons (vVar 9) vNil)) (vCons (vTup vNil) vNil))) vNil)))) (vRet (vC (.bool false))) vNext) R)) [a0, a1, a2, a3, a4, .d (.list (C.map tq)), .d (tq u), .d (tq v), .d (.list ((scl LM u).map tq)), .d (.list ((scl RM v).map tq)), .d (.list ((frs C LM u).map tq)), .d (.list ((frs C RM v).map tq)), .d (.tuple ((frs C LM u).map nm)), .d (.tuple ((frs C RM v).map nm)), .d (.tuple (C.map nm)), a15, a16, a17] P := by
  obtain ⟨V, hC⟩ := t.c0
  obtain ⟨W1, hL⟩ := t.l0
  obtain ⟨W2, hR⟩ := t.r0
  have ab := t.ab
  have ac := t.ac
  have okC := ok_row (L := C) (by rw [hC.len]; omega) (hC.ts (by omega)) (by decide)
  have okL := ok_row (L := scl LM u) (by rw [hL.scl_len]; omega) (hL.scl_ts t.su (by omega)) (by decide)
  have okR := ok_row (L := scl RM v) (by rw [hR.scl_len]; omega) (hR.scl_ts t.sv (by omega)) (by decide)
  have ok0 := ok_row (L := []) (n := 1) (by simp) (fun z hz => by cases hz) (by decide)
  have k1 := ok_l3 (okC.mono (by decide) (by decide)) (okC.mono (by decide) (by decide)) (ok_pair okL ok0)
  have k2 := ok_one (ok_pair okR ok0)
  show F_row_common [.tuple ((frs C LM u).map nm), .tuple ((frs C RM v).map nm)] _
  refine T_rc t ?_
  show F_row_common [.tuple ((frs C RM v).map nm), .tuple ((frs C LM u).map nm)] _
  refine T_rc t.symm ?_
  show F_row_divided [.tuple ((frs C LM u).map nm), .tuple (C.map nm)] _
  refine T_rd t ?_
  dsimp only [vNil]
  refine T_reprG k1 fun s1 e1 => ?_
  show F__law_told_row [.list ((scl LM u).map tq)] _
  refine T_told_nb (by decide) (by rw [hL.scl_len]; omega) (hL.scl_tr t.nu) (hL.scl_ts t.su (by omega)) ?_
  dsimp only [vB, vOf, vTup, vCons, vVar, geE, vNil]
  refine T_reprG k1 fun s2 e2 => ?_
  refine ne_str e1 e2 ?_
  show F_row_common [.tuple ((frs C LM u).map nm), .tuple ((frs C RM v).map nm)] _
  refine T_rc t ?_
  show F_row_divided [.tuple ((frs C RM v).map nm), .tuple (C.map nm)] _
  refine T_rd t.symm ?_
  dsimp only [vNil]
  refine T_reprG k2 fun s3 e3 => ?_
  show F__law_told_row [.list ((scl RM v).map tq)] _
  refine T_told_nb (by decide) (by rw [hR.scl_len]; omega) (hR.scl_tr t.nv) (hR.scl_ts t.sv (by omega)) ?_
  dsimp only [vB, vOf, vTup, vCons, vVar, geE, vNil]
  refine T_reprG k2 fun s4 e4 => ?_
  refine ne_str e3 e4 ?_
  exact h
def q05E : WS := (vSeqS (vAsg 15 (vCall F__law_told_row (vCons (vCall F__law_scaled (vCons (vVar 10) (vCons (vCall F__law_over (vCons (vTup (vCons (vC (.int 1)) (vCons (vC (.int 0)) (vCons (vC (.int 1)) vNil)))) (vCons (vVar 6) vNil))) vNil))) vNil))) (vRet (vOp oEq (vB oRepr (vCons (vOf (vCons (vCall F_row_common (vCons (vVar 12) (vCons (vTup vNil) vNil))) (vCons (vCall F_row_common (vCons (vTup vNil) (vCons (vVar 12) vNil))) (vCons (vCall F_row_common (vCons (vTup vNil) (vCons (vTup vNil) vNil))) vNil)))) vNil)) (vB oRepr (vCons (vOf (vCons (vVar 15) (vCons (vVar 15) (vCons (vTup vNil) vNil)))) vNil)))))
theorem T_q05E {C LM RM : List Cn} {u v : Cn} {a b c : Nat} (t : Bg C LM RM u v a b c) {a0 a1 a2 a3 a4 a15 a16 a17 : Sl} (h : Φ (.bool true)) :
    q05E [a0, a1, a2, a3, a4, .d (.list (C.map tq)), .d (tq u), .d (tq v), .d (.list ((scl LM u).map tq)), .d (.list ((scl RM v).map tq)), .d (.list ((frs C LM u).map tq)), .d (.list ((frs C RM v).map tq)), .d (.tuple ((frs C LM u).map nm)), .d (.tuple ((frs C RM v).map nm)), .d (.tuple (C.map nm)), a15, a16, a17] ⟨fun _ => Φ .none, Φ, Nev, Nev⟩ := by
  obtain ⟨V, hC⟩ := t.c0
  obtain ⟨W, hL⟩ := t.l0
  have ab := t.ab
  have t1 : Ts 8 (1 / u) := ts_one.div t.su.ts t.nu
  have hs : ∀ z ∈ (frs C LM u).map (fun z => z * (1 / u)), Ts 209 z := fun z hz => by
    obtain ⟨w, hw, rfl⟩ := List.mem_map.mp hz
    exact (t.frs_ts w hw).mul t1
  have eG : tr ((frs C LM u).map fun z => z * (1 / u)) = pmul C LM := by
    rw [← tr_pmul hC.tr hL.tr]
    refine row_ext fun x => ?_
    have e : ((frs C LM u).map fun z => z * (1 / u)) = scl (frs C LM u) (1 / u) := rfl
    rw [e, hn_scl, hn_pmul]
    unfold frs
    rw [hn_pmul, hn_scl]
    have := t.nu
    generalize Rim.hn C x = p
    generalize Rim.hn LM x = q
    grind
  show F__law_over [.tuple [.int 1, .int 0, .int 1], tq u] _
  rw [tq_one3]
  refine T_over0 ts_one t.su.ts t.nu (by decide) ?_
  show F__law_scaled [.list ((frs C LM u).map tq), tq (1 / u)] _
  refine T_scaled0 (n := 200) (m := 8) t.frs_ts t1 (by decide) (by rw [t.frs_len]; omega) ?_
  show F__law_told_row [.list (((frs C LM u).map fun z => z * (1 / u)).map tq)] _
  refine T_told_row (n := 209) (by rw [List.length_map, t.frs_len]; omega) hs (by decide) ?_
  rw [eG]
  have lG : (pmul C LM).length ≤ 12 := by
    rw [← eG]
    refine Nat.le_trans (tr_len _) ?_
    rw [List.length_map, t.frs_len]
    omega
  have okG := ok_row (L := pmul C LM) (n := 209) lG (fun z hz => hs z (by rw [← eG] at hz; exact tr_mem _ z hz)) (by decide)
  have ok0 := ok_row (L := []) (n := 1) (by simp) (fun z hz => by cases hz) (by decide)
  have k := ok_l3 (okG.mono (by decide) (by decide)) (okG.mono (by decide) (by decide)) (ok0.mono (by decide) (by decide))
  show F_row_common [.tuple ((frs C LM u).map nm), .tuple []] _
  refine (T_rn1 t ?_).1
  show F_row_common [.tuple [], .tuple ((frs C LM u).map nm)] _
  refine (T_rn1 t ?_).2
  show F_row_common [.tuple [], .tuple []] _
  refine T_rn0 ?_
  dsimp only [vNil]
  refine T_reprG k fun s1 e1 => ?_
  dsimp only [vB, vOf, vTup, vCons, vVar, geE, vNil]
  refine T_reprG k fun s2 e2 => ?_
  exact eq_str e1 e2 h
theorem T_right_05 (h : Φ (.bool true)) : F__law_right_6 A [] Φ := by
  unfold F__law_right_6 mkQ b__law_right_6
  refine ⟨rfl, ?_⟩
  have kE := fun {a0 a1 a2 a3 a4 a15 a16 a17 : Sl} {C LM RM : List Cn} {u v : Cn} {a b c : Nat} (t : Bg C LM RM u v a b c) => T_q05E (Φ := Φ) (a0 := a0) (a1 := a1) (a2 := a2) (a3 := a3) (a4 := a4) (a15 := a15) (a16 := a16) (a17 := a17) t h
  refine T_q05A (A := A) fun Q t => ?_
  refine T_q05B (A := A) t fun u v su nu sv nv => ?_
  have g := t.bg su nu sv nv
  refine T_q05C g ?_
  refine T_q05D g ?_
  exact kE g
end
theorem law_true_k05 (ns : List Int) (hn : ns.length ≤ 63) : b_law_6 (ends [.list (ns.map .int)] 1) ⟨fun _ => False, fun d => d = .bool true, Nev, Nev⟩ := by
  unfold b_law_6
  generalize hl : ((ns.map PyData.int).length : Int) = l
  have hl2 : l ≤ 63 := by rw [← hl, List.length_map]; omega
  have hl0 : 0 ≤ l := by omega
  have key : ∃ n : Int, (if (if (3 : Int) < l then (3 : Int) else l) > 2 then (if (3 : Int) < l then (3 : Int) else l) else 2) = n ∧ 0 ≤ n ∧ n ≤ 63 := ⟨_, rfl, by split <;> split <;> omega, by split <;> split <;> omega⟩
  obtain ⟨n, e, n1, n2⟩ := key
  show (_ ∧ _) ∧ _ ∧ lcW _ (rgD 0 _) [] _
  rw [hl, e]
  refine ⟨⟨by omega, by omega⟩, by rw [show (rgD 0 n.toNat).length = n.toNat by simp [rgD], sizeLine_eq]; omega, ?_⟩
  unfold rgD
  refine lc_map (f := fun _ => PyData.bool true) (g := fun k : Nat => PyData.int (0 + (k : Int))) _ [] (fun k hk K hK => ?_) ?_
  · show _ ∧ _ ∧ _
    refine ⟨⟨ns, rfl⟩, by omega, fun a => ?_⟩
    exact T_right_05 hK
  · have e2 : ([] : List PyData) ++ (List.range n.toNat).map (fun _ => PyData.bool true) = List.replicate n.toNat (.bool true) := by
      rw [List.nil_append, List.map_const', List.length_range]
    rw [e2]
    show match allB (List.replicate n.toNat (PyData.bool true)) with | some b => PyData.bool b = .bool true | none => False
    rw [allB_true]


end Rim

namespace Rim
open PySem PySem.Spec PyProof.Rows L2
structure Txt (K : PySem.W.Frag) (mg : Str → Option Value) : Prop where
  g_reduced : mg "reduced" = some (.ref (He.ga K "reduced"))
  f_reduced : ∃ fd, FunD K "reduced" "reduced" (defArgs s_reduced) (defBody s_reduced) (defScope s_reduced) [] [] (He.ga K "reduced") fd
  g_fraction_less : mg "fraction_less" = some (.ref (He.ga K "fraction_less"))
  f_fraction_less : ∃ fd, FunD K "fraction_less" "fraction_less" (defArgs s_fraction_less) (defBody s_fraction_less) (defScope s_fraction_less) [] [] (He.ga K "fraction_less") fd
  g_fraction_times : mg "fraction_times" = some (.ref (He.ga K "fraction_times"))
  f_fraction_times : ∃ fd, FunD K "fraction_times" "fraction_times" (defArgs s_fraction_times) (defBody s_fraction_times) (defScope s_fraction_times) [] [] (He.ga K "fraction_times") fd
  g_number_from : mg "number_from" = some (.ref (He.ga K "number_from"))
  f_number_from : ∃ fd, FunD K "number_from" "number_from" (defArgs s_number_from) (defBody s_number_from) (defScope s_number_from) [] [] (He.ga K "number_from") fd
  g_less : mg "less" = some (.ref (He.ga K "less"))
  f_less : ∃ fd, FunD K "less" "less" (defArgs s_less) (defBody s_less) (defScope s_less) [] [] (He.ga K "less") fd
  g_times : mg "times" = some (.ref (He.ga K "times"))
  f_times : ∃ fd, FunD K "times" "times" (defArgs s_times) (defBody s_times) (defScope s_times) [] [] (He.ga K "times") fd
  g_mirror : mg "mirror" = some (.ref (He.ga K "mirror"))
  f_mirror : ∃ fd, FunD K "mirror" "mirror" (defArgs s_mirror) (defBody s_mirror) (defScope s_mirror) [] [] (He.ga K "mirror") fd
  g_size_of : mg "size_of" = some (.ref (He.ga K "size_of"))
  f_size_of : ∃ fd, FunD K "size_of" "size_of" (defArgs s_size_of) (defBody s_size_of) (defScope s_size_of) [] [] (He.ga K "size_of") fd
  g_scaled : mg "scaled" = some (.ref (He.ga K "scaled"))
  f_scaled : ∃ fd, FunD K "scaled" "scaled" (defArgs s_scaled) (defBody s_scaled) (defScope s_scaled) [] [] (He.ga K "scaled") fd
  g_over : mg "over" = some (.ref (He.ga K "over"))
  f_over : ∃ fd, FunD K "over" "over" (defArgs s_over) (defBody s_over) (defScope s_over) [] [] (He.ga K "over") fd
  g_trimmed : mg "trimmed" = some (.ref (He.ga K "trimmed"))
  f_trimmed : ∃ fd, FunD K "trimmed" "trimmed" (defArgs s_trimmed) (defBody s_trimmed) (defScope s_trimmed) [] [] (He.ga K "trimmed") fd
  g_whole_parts : mg "whole_parts" = some (.ref (He.ga K "whole_parts"))
  f_whole_parts : ∃ fd, FunD K "whole_parts" "whole_parts" (defArgs s_whole_parts) (defBody s_whole_parts) (defScope s_whole_parts) [] [] (He.ga K "whole_parts") fd
  g_is_whole : mg "is_whole" = some (.ref (He.ga K "is_whole"))
  f_is_whole : ∃ fd, FunD K "is_whole" "is_whole" (defArgs s_is_whole) (defBody s_is_whole) (defScope s_is_whole) [] [] (He.ga K "is_whole") fd
  g_is_fraction : mg "is_fraction" = some (.ref (He.ga K "is_fraction"))
  f_is_fraction : ∃ fd, FunD K "is_fraction" "is_fraction" (defArgs s_is_fraction) (defBody s_is_fraction) (defScope s_is_fraction) [] [] (He.ga K "is_fraction") fd
  g_is_number : mg "is_number" = some (.ref (He.ga K "is_number"))
  f_is_number : ∃ fd, FunD K "is_number" "is_number" (defArgs s_is_number) (defBody s_is_number) (defScope s_is_number) [] [] (He.ga K "is_number") fd
  g_is_row : mg "is_row" = some (.ref (He.ga K "is_row"))
  f_is_row : ∃ fd, FunD K "is_row" "is_row" (defArgs s_is_row) (defBody s_is_row) (defScope s_is_row) [] [] (He.ga K "is_row") fd
  g_need_row : mg "need_row" = some (.ref (He.ga K "need_row"))
  f_need_row : ∃ fd, FunD K "need_row" "need_row" (defArgs s_need_row) (defBody s_need_row) (defScope s_need_row) [] [] (He.ga K "need_row") fd
  g_divided : mg "divided" = some (.ref (He.ga K "divided"))
  f_divided : ∃ fd, FunD K "divided" "divided" (defArgs s_divided) (defBody s_divided) (defScope s_divided) [] [] (He.ga K "divided") fd
  g_normed : mg "normed" = some (.ref (He.ga K "normed"))
  f_normed : ∃ fd, FunD K "normed" "normed" (defArgs s_normed) (defBody s_normed) (defScope s_normed) [] [] (He.ga K "normed") fd
  g_normed_rest : mg "normed_rest" = some (.ref (He.ga K "normed_rest"))
  f_normed_rest : ∃ fd, FunD K "normed_rest" "normed_rest" (defArgs s_normed_rest) (defBody s_normed_rest) (defScope s_normed_rest) [] [] (He.ga K "normed_rest") fd
  g_by_prime : mg "by_prime" = some (.ref (He.ga K "by_prime"))
  f_by_prime : ∃ fd, FunD K "by_prime" "by_prime" (defArgs s_by_prime) (defBody s_by_prime) (defScope s_by_prime) [] [] (He.ga K "by_prime") fd
  g_prime_rest : mg "prime_rest" = some (.ref (He.ga K "prime_rest"))
  f_prime_rest : ∃ fd, FunD K "prime_rest" "prime_rest" (defArgs s_prime_rest) (defBody s_prime_rest) (defScope s_prime_rest) [] [] (He.ga K "prime_rest") fd
  g_surely_apart : mg "surely_apart" = some (.ref (He.ga K "surely_apart"))
  f_surely_apart : ∃ fd, FunD K "surely_apart" "surely_apart" (defArgs s_surely_apart) (defBody s_surely_apart) (defScope s_surely_apart) [] [] (He.ga K "surely_apart") fd
  g_common : mg "common" = some (.ref (He.ga K "common"))
  f_common : ∃ fd, FunD K "common" "common" (defArgs s_common) (defBody s_common) (defScope s_common) [] [] (He.ga K "common") fd
  g_row_divided : mg "row_divided" = some (.ref (He.ga K "row_divided"))
  f_row_divided : ∃ fd, FunD K "row_divided" "row_divided" (defArgs s_row_divided) (defBody s_row_divided) (defScope s_row_divided) [] [] (He.ga K "row_divided") fd
  g_row_common : mg "row_common" = some (.ref (He.ga K "row_common"))
  f_row_common : ∃ fd, FunD K "row_common" "row_common" (defArgs s_row_common) (defBody s_row_common) (defScope s_row_common) [] [] (He.ga K "row_common") fd
  g__law_pail : mg "_law_pail" = some (.ref (He.ga K "_law_pail"))
  f__law_pail : ∃ fd, FunD K "_law_pail" "_law_pail" (defArgs s__law_pail) (defBody s__law_pail) (defScope s__law_pail) [] [] (He.ga K "_law_pail") fd
  g__law_dip : mg "_law_dip" = some (.ref (He.ga K "_law_dip"))
  f__law_dip : ∃ fd, FunD K "_law_dip" "_law_dip" (defArgs s__law_dip) (defBody s__law_dip) (defScope s__law_dip) [] [] (He.ga K "_law_dip") fd
  g__law_gcd : mg "_law_gcd" = some (.ref (He.ga K "_law_gcd"))
  f__law_gcd : ∃ fd, FunD K "_law_gcd" "_law_gcd" (defArgs s__law_gcd) (defBody s__law_gcd) (defScope s__law_gcd) [] [] (He.ga K "_law_gcd") fd
  g__law_cut : mg "_law_cut" = some (.ref (He.ga K "_law_cut"))
  f__law_cut : ∃ fd, FunD K "_law_cut" "_law_cut" (defArgs s__law_cut) (defBody s__law_cut) (defScope s__law_cut) [] [] (He.ga K "_law_cut") fd
  g__law_drawn : mg "_law_drawn" = some (.ref (He.ga K "_law_drawn"))
  f__law_drawn : ∃ fd, FunD K "_law_drawn" "_law_drawn" (defArgs s__law_drawn) (defBody s__law_drawn) (defScope s__law_drawn) [] [] (He.ga K "_law_drawn") fd
  g__law_trim : mg "_law_trim" = some (.ref (He.ga K "_law_trim"))
  f__law_trim : ∃ fd, FunD K "_law_trim" "_law_trim" (defArgs s__law_trim) (defBody s__law_trim) (defScope s__law_trim) [] [] (He.ga K "_law_trim") fd
  g__law_row : mg "_law_row" = some (.ref (He.ga K "_law_row"))
  f__law_row : ∃ fd, FunD K "_law_row" "_law_row" (defArgs s__law_row) (defBody s__law_row) (defScope s__law_row) [] [] (He.ga K "_law_row") fd
  g__law_add : mg "_law_add" = some (.ref (He.ga K "_law_add"))
  f__law_add : ∃ fd, FunD K "_law_add" "_law_add" (defArgs s__law_add) (defBody s__law_add) (defScope s__law_add) [] [] (He.ga K "_law_add") fd
  g__law_row_sum : mg "_law_row_sum" = some (.ref (He.ga K "_law_row_sum"))
  f__law_row_sum : ∃ fd, FunD K "_law_row_sum" "_law_row_sum" (defArgs s__law_row_sum) (defBody s__law_row_sum) (defScope s__law_row_sum) [] [] (He.ga K "_law_row_sum") fd
  g__law_times : mg "_law_times" = some (.ref (He.ga K "_law_times"))
  f__law_times : ∃ fd, FunD K "_law_times" "_law_times" (defArgs s__law_times) (defBody s__law_times) (defScope s__law_times) [] [] (He.ga K "_law_times") fd
  g__law_row_times : mg "_law_row_times" = some (.ref (He.ga K "_law_row_times"))
  f__law_row_times : ∃ fd, FunD K "_law_row_times" "_law_row_times" (defArgs s__law_row_times) (defBody s__law_row_times) (defScope s__law_row_times) [] [] (He.ga K "_law_row_times") fd
  g__law_fraction : mg "_law_fraction" = some (.ref (He.ga K "_law_fraction"))
  f__law_fraction : ∃ fd, FunD K "_law_fraction" "_law_fraction" (defArgs s__law_fraction) (defBody s__law_fraction) (defScope s__law_fraction) [] [] (He.ga K "_law_fraction") fd
  g__law_told : mg "_law_told" = some (.ref (He.ga K "_law_told"))
  f__law_told : ∃ fd, FunD K "_law_told" "_law_told" (defArgs s__law_told) (defBody s__law_told) (defScope s__law_told) [] [] (He.ga K "_law_told") fd
  g__law_told_row : mg "_law_told_row" = some (.ref (He.ga K "_law_told_row"))
  f__law_told_row : ∃ fd, FunD K "_law_told_row" "_law_told_row" (defArgs s__law_told_row) (defBody s__law_told_row) (defScope s__law_told_row) [] [] (He.ga K "_law_told_row") fd
  g__law_monic : mg "_law_monic" = some (.ref (He.ga K "_law_monic"))
  f__law_monic : ∃ fd, FunD K "_law_monic" "_law_monic" (defArgs s__law_monic) (defBody s__law_monic) (defScope s__law_monic) [] [] (He.ga K "_law_monic") fd
  g__law_over : mg "_law_over" = some (.ref (He.ga K "_law_over"))
  f__law_over : ∃ fd, FunD K "_law_over" "_law_over" (defArgs s__law_over) (defBody s__law_over) (defScope s__law_over) [] [] (He.ga K "_law_over") fd
  g__law_scaled : mg "_law_scaled" = some (.ref (He.ga K "_law_scaled"))
  f__law_scaled : ∃ fd, FunD K "_law_scaled" "_law_scaled" (defArgs s__law_scaled) (defBody s__law_scaled) (defScope s__law_scaled) [] [] (He.ga K "_law_scaled") fd
  g__law_many : mg "_law_many" = some (.ref (He.ga K "_law_many"))
  f__law_many : ∃ fd, FunD K "_law_many" "_law_many" (defArgs s__law_many) (defBody s__law_many) (defScope s__law_many) [] [] (He.ga K "_law_many") fd
  g__law_roots : mg "_law_roots" = some (.ref (He.ga K "_law_roots"))
  f__law_roots : ∃ fd, FunD K "_law_roots" "_law_roots" (defArgs s__law_roots) (defBody s__law_roots) (defScope s__law_roots) [] [] (He.ga K "_law_roots") fd
  g__law_spread : mg "_law_spread" = some (.ref (He.ga K "_law_spread"))
  f__law_spread : ∃ fd, FunD K "_law_spread" "_law_spread" (defArgs s__law_spread) (defBody s__law_spread) (defScope s__law_spread) [] [] (He.ga K "_law_spread") fd
  g__law_divided : mg "_law_divided" = some (.ref (He.ga K "_law_divided"))
  f__law_divided : ∃ fd, FunD K "_law_divided" "_law_divided" (defArgs s__law_divided) (defBody s__law_divided) (defScope s__law_divided) [] [] (He.ga K "_law_divided") fd
  g__law_right : mg "_law_right" = some (.ref (He.ga K "_law_right"))
  f__law_right : ∃ fd, FunD K "_law_right" "_law_right" (defArgs s__law_right) (defBody s__law_right) (defScope s__law_right) [] [] (He.ga K "_law_right") fd
  g_law : mg "law" = some (.ref (He.ga K "law"))
  f_law : ∃ fd, FunD K "law" "law" (defArgs s_law) (defBody s_law) (defScope s_law) [] [] (He.ga K "law") fd
  b_abs : mg "abs" = none
  b_all : mg "all" = none
  b_bool : mg "bool" = none
  b_divmod : mg "divmod" = none
  b_enumerate : mg "enumerate" = none
  b_int : mg "int" = none
  b_isinstance : mg "isinstance" = none
  b_len : mg "len" = none
  b_list : mg "list" = none
  b_max : mg "max" = none
  b_min : mg "min" = none
  b_range : mg "range" = none
  b_repr : mg "repr" = none
  b_reversed : mg "reversed" = none
  b_tuple : mg "tuple" = none
  b_zip : mg "zip" = none
  c_NOUGHT : Rim.Con K mg "NOUGHT" c_NOUGHT
  c_UNIT : Rim.Con K mg "UNIT" c_UNIT
  c_PRIME : Rim.Con K mg "PRIME" c_PRIME
  c_TURN : Rim.Con K mg "TURN" c_TURN
  i_gcd : mg "gcd" = some (.builtin "math.gcd")
  i_lcm : mg "lcm" = some (.builtin "math.lcm")
theorem txt_of {w : World} {K : PySem.W.Frag} {h : Heap} {mg : Str → Option Value} (X : K.In h) (G : h.Ns mainGlobals mg) (c : He.SaysX fas fns [] tfs (exB2 cons imps dfts) w h K) : Txt K mg where
  g_reduced := He.glo_ok X G (c.t.d.fact 0 (f := .glo "reduced") rfl)
  f_reduced := c.t.d.def_ 0 (d := d_reduced) rfl
  g_fraction_less := He.glo_ok X G (c.t.d.fact 1 (f := .glo "fraction_less") rfl)
  f_fraction_less := c.t.d.def_ 1 (d := d_fraction_less) rfl
  g_fraction_times := He.glo_ok X G (c.t.d.fact 2 (f := .glo "fraction_times") rfl)
  f_fraction_times := c.t.d.def_ 2 (d := d_fraction_times) rfl
  g_number_from := He.glo_ok X G (c.t.d.fact 3 (f := .glo "number_from") rfl)
  f_number_from := c.t.d.def_ 3 (d := d_number_from) rfl
  g_less := He.glo_ok X G (c.t.d.fact 4 (f := .glo "less") rfl)
  f_less := c.t.d.def_ 4 (d := d_less) rfl
  g_times := He.glo_ok X G (c.t.d.fact 5 (f := .glo "times") rfl)
  f_times := c.t.d.def_ 5 (d := d_times) rfl
  g_mirror := He.glo_ok X G (c.t.d.fact 6 (f := .glo "mirror") rfl)
  f_mirror := c.t.d.def_ 6 (d := d_mirror) rfl
  g_size_of := He.glo_ok X G (c.t.d.fact 7 (f := .glo "size_of") rfl)
  f_size_of := c.t.d.def_ 7 (d := d_size_of) rfl
  g_scaled := He.glo_ok X G (c.t.d.fact 8 (f := .glo "scaled") rfl)
  f_scaled := c.t.d.def_ 8 (d := d_scaled) rfl
  g_over := He.glo_ok X G (c.t.d.fact 9 (f := .glo "over") rfl)
  f_over := c.t.d.def_ 9 (d := d_over) rfl
  g_trimmed := He.glo_ok X G (c.t.d.fact 10 (f := .glo "trimmed") rfl)
  f_trimmed := c.t.d.def_ 10 (d := d_trimmed) rfl
  g_whole_parts := He.glo_ok X G (c.t.d.fact 11 (f := .glo "whole_parts") rfl)
  f_whole_parts := c.t.d.def_ 11 (d := d_whole_parts) rfl
  g_is_whole := He.glo_ok X G (c.t.d.fact 12 (f := .glo "is_whole") rfl)
  f_is_whole := c.t.d.def_ 12 (d := d_is_whole) rfl
  g_is_fraction := He.glo_ok X G (c.t.d.fact 13 (f := .glo "is_fraction") rfl)
  f_is_fraction := c.t.d.def_ 13 (d := d_is_fraction) rfl
  g_is_number := He.glo_ok X G (c.t.d.fact 14 (f := .glo "is_number") rfl)
  f_is_number := c.t.d.def_ 14 (d := d_is_number) rfl
  g_is_row := He.glo_ok X G (c.t.d.fact 15 (f := .glo "is_row") rfl)
  f_is_row := c.t.d.def_ 15 (d := d_is_row) rfl
  g_need_row := He.glo_ok X G (c.t.d.fact 16 (f := .glo "need_row") rfl)
  f_need_row := c.t.d.def_ 16 (d := d_need_row) rfl
  g_divided := He.glo_ok X G (c.t.d.fact 17 (f := .glo "divided") rfl)
  f_divided := c.t.d.def_ 17 (d := d_divided) rfl
  g_normed := He.glo_ok X G (c.t.d.fact 18 (f := .glo "normed") rfl)
  f_normed := c.t.d.def_ 18 (d := d_normed) rfl
  g_normed_rest := He.glo_ok X G (c.t.d.fact 19 (f := .glo "normed_rest") rfl)
  f_normed_rest := c.t.d.def_ 19 (d := d_normed_rest) rfl
  g_by_prime := He.glo_ok X G (c.t.d.fact 20 (f := .glo "by_prime") rfl)
  f_by_prime := c.t.d.def_ 20 (d := d_by_prime) rfl
  g_prime_rest := He.glo_ok X G (c.t.d.fact 21 (f := .glo "prime_rest") rfl)
  f_prime_rest := c.t.d.def_ 21 (d := d_prime_rest) rfl
  g_surely_apart := He.glo_ok X G (c.t.d.fact 22 (f := .glo "surely_apart") rfl)
  f_surely_apart := c.t.d.def_ 22 (d := d_surely_apart) rfl
  g_common := He.glo_ok X G (c.t.d.fact 23 (f := .glo "common") rfl)
  f_common := c.t.d.def_ 23 (d := d_common) rfl
  g_row_divided := He.glo_ok X G (c.t.d.fact 24 (f := .glo "row_divided") rfl)
  f_row_divided := c.t.d.def_ 24 (d := d_row_divided) rfl
  g_row_common := He.glo_ok X G (c.t.d.fact 25 (f := .glo "row_common") rfl)
  f_row_common := c.t.d.def_ 25 (d := d_row_common) rfl
  g__law_pail := He.glo_ok X G (c.t.d.fact 26 (f := .glo "_law_pail") rfl)
  f__law_pail := c.t.d.def_ 26 (d := d__law_pail) rfl
  g__law_dip := He.glo_ok X G (c.t.d.fact 27 (f := .glo "_law_dip") rfl)
  f__law_dip := c.t.d.def_ 27 (d := d__law_dip) rfl
  g__law_gcd := He.glo_ok X G (c.t.d.fact 28 (f := .glo "_law_gcd") rfl)
  f__law_gcd := c.t.d.def_ 28 (d := d__law_gcd) rfl
  g__law_cut := He.glo_ok X G (c.t.d.fact 29 (f := .glo "_law_cut") rfl)
  f__law_cut := c.t.d.def_ 29 (d := d__law_cut) rfl
  g__law_drawn := He.glo_ok X G (c.t.d.fact 30 (f := .glo "_law_drawn") rfl)
  f__law_drawn := c.t.d.def_ 30 (d := d__law_drawn) rfl
  g__law_trim := He.glo_ok X G (c.t.d.fact 31 (f := .glo "_law_trim") rfl)
  f__law_trim := c.t.d.def_ 31 (d := d__law_trim) rfl
  g__law_row := He.glo_ok X G (c.t.d.fact 32 (f := .glo "_law_row") rfl)
  f__law_row := c.t.d.def_ 32 (d := d__law_row) rfl
  g__law_add := He.glo_ok X G (c.t.d.fact 33 (f := .glo "_law_add") rfl)
  f__law_add := c.t.d.def_ 33 (d := d__law_add) rfl
  g__law_row_sum := He.glo_ok X G (c.t.d.fact 34 (f := .glo "_law_row_sum") rfl)
  f__law_row_sum := c.t.d.def_ 34 (d := d__law_row_sum) rfl
  g__law_times := He.glo_ok X G (c.t.d.fact 35 (f := .glo "_law_times") rfl)
  f__law_times := c.t.d.def_ 35 (d := d__law_times) rfl
  g__law_row_times := He.glo_ok X G (c.t.d.fact 36 (f := .glo "_law_row_times") rfl)
  f__law_row_times := c.t.d.def_ 36 (d := d__law_row_times) rfl
  g__law_fraction := He.glo_ok X G (c.t.d.fact 37 (f := .glo "_law_fraction") rfl)
  f__law_fraction := c.t.d.def_ 37 (d := d__law_fraction) rfl
  g__law_told := He.glo_ok X G (c.t.d.fact 38 (f := .glo "_law_told") rfl)
  f__law_told := c.t.d.def_ 38 (d := d__law_told) rfl
  g__law_told_row := He.glo_ok X G (c.t.d.fact 39 (f := .glo "_law_told_row") rfl)
  f__law_told_row := c.t.d.def_ 39 (d := d__law_told_row) rfl
  g__law_monic := He.glo_ok X G (c.t.d.fact 40 (f := .glo "_law_monic") rfl)
  f__law_monic := c.t.d.def_ 40 (d := d__law_monic) rfl
  g__law_over := He.glo_ok X G (c.t.d.fact 41 (f := .glo "_law_over") rfl)
  f__law_over := c.t.d.def_ 41 (d := d__law_over) rfl
  g__law_scaled := He.glo_ok X G (c.t.d.fact 42 (f := .glo "_law_scaled") rfl)
  f__law_scaled := c.t.d.def_ 42 (d := d__law_scaled) rfl
  g__law_many := He.glo_ok X G (c.t.d.fact 43 (f := .glo "_law_many") rfl)
  f__law_many := c.t.d.def_ 43 (d := d__law_many) rfl
  g__law_roots := He.glo_ok X G (c.t.d.fact 44 (f := .glo "_law_roots") rfl)
  f__law_roots := c.t.d.def_ 44 (d := d__law_roots) rfl
  g__law_spread := He.glo_ok X G (c.t.d.fact 45 (f := .glo "_law_spread") rfl)
  f__law_spread := c.t.d.def_ 45 (d := d__law_spread) rfl
  g__law_divided := He.glo_ok X G (c.t.d.fact 46 (f := .glo "_law_divided") rfl)
  f__law_divided := c.t.d.def_ 46 (d := d__law_divided) rfl
  g__law_right := He.glo_ok X G (c.t.d.fact 47 (f := .glo "_law_right") rfl)
  f__law_right := c.t.d.def_ 47 (d := d__law_right) rfl
  g_law := He.glo_ok X G (c.t.d.fact 48 (f := .glo "law") rfl)
  f_law := c.t.d.def_ 48 (d := d_law) rfl
  b_abs := He.free_ok X G (c.t.d.fact 49 (f := .free "abs") rfl)
  b_all := He.free_ok X G (c.t.d.fact 50 (f := .free "all") rfl)
  b_bool := He.free_ok X G (c.t.d.fact 51 (f := .free "bool") rfl)
  b_divmod := He.free_ok X G (c.t.d.fact 52 (f := .free "divmod") rfl)
  b_enumerate := He.free_ok X G (c.t.d.fact 53 (f := .free "enumerate") rfl)
  b_int := He.free_ok X G (c.t.d.fact 54 (f := .free "int") rfl)
  b_isinstance := He.free_ok X G (c.t.d.fact 55 (f := .free "isinstance") rfl)
  b_len := He.free_ok X G (c.t.d.fact 56 (f := .free "len") rfl)
  b_list := He.free_ok X G (c.t.d.fact 57 (f := .free "list") rfl)
  b_max := He.free_ok X G (c.t.d.fact 58 (f := .free "max") rfl)
  b_min := He.free_ok X G (c.t.d.fact 59 (f := .free "min") rfl)
  b_range := He.free_ok X G (c.t.d.fact 60 (f := .free "range") rfl)
  b_repr := He.free_ok X G (c.t.d.fact 61 (f := .free "repr") rfl)
  b_reversed := He.free_ok X G (c.t.d.fact 62 (f := .free "reversed") rfl)
  b_tuple := He.free_ok X G (c.t.d.fact 63 (f := .free "tuple") rfl)
  b_zip := He.free_ok X G (c.t.d.fact 64 (f := .free "zip") rfl)
  c_NOUGHT := con_ok X G (exB2_1 c.more) 0 (q := ("NOUGHT", c_NOUGHT)) rfl
  c_UNIT := con_ok X G (exB2_1 c.more) 1 (q := ("UNIT", c_UNIT)) rfl
  c_PRIME := con_ok X G (exB2_1 c.more) 2 (q := ("PRIME", c_PRIME)) rfl
  c_TURN := con_ok X G (exB2_1 c.more) 3 (q := ("TURN", c_TURN)) rfl
  i_gcd := imp_ok X G (exB2_1 c.more) 0 (q := ("gcd", "math.gcd")) rfl
  i_lcm := imp_ok X G (exB2_1 c.more) 1 (q := ("lcm", "math.lcm")) rfl
theorem kp_2_10_rel {zs : List V} {ws : List Value} (r : Vals zs ws) : Vals (kp_2_10 zs) (kp_2_10 ws) := by
  cases r with
  | nil => exact .nil
  | cons r0 r =>
    cases r with
    | nil => exact .cons r0 (.nil)
    | cons r1 r =>
      cases r with
      | nil => exact .cons r1 (.cons r0 (.nil))
      | cons rn r => exact .cons r0 (.cons r1 (.cons rn r))
theorem kp_2_10_dat {K : PySem.W.Frag} (G : Hp) (vs : List V) (ds : List PyData) (h : DpAll K G vs ds) (hn : ds.length = 2) : DpAll K G (kp_2_10 vs) (kp_2_10 ds) := by
  cases h with
  | nil => cases hn
  | cons h0 h =>
    cases h with
    | nil => cases hn
    | cons h1 h =>
      cases h with
      | nil => exact .cons h1 (.cons h0 (.nil))
      | cons _ _ => exact absurd hn (by simp)
variable [Tabs]
theorem sc_reduced : FnScope ["n", "m", "shared"] ["n", "m"] (defScope s_reduced) := ⟨rfl, rfl, rfl, by decide +kernel, rfl, by decide +kernel, by decide +kernel⟩
theorem ok_reduced {P : Program} {w : World} {K : PySem.W.Frag} {mg : Str → Option Value} {base : Heap} (T : Txt K mg) (TT : TabsOk tfs K mg base) (BB : BigOk P base) :
    ∃ fd, FnG P w K mg base CX0 35 (He.ga K "reduced") fd ["n", "m"] (spF K 2 F_reduced) ∧ FunD K "reduced" "reduced" (defArgs s_reduced) (defBody s_reduced) (defScope s_reduced) [] [] (He.ga K "reduced") fd := by
  obtain ⟨fd, F⟩ := T.f_reduced
  refine ⟨fd, fn_F F sc_reduced rfl rfl fun cdv A outer s H E p hr hg => ⟨_, (dss_cons (ds_set (i := 2) sc_reduced.nd rfl (Or.inl rfl) (de_fun db_gcd rfl T.i_gcd (da_cons (dn 0) (da_cons (dn 1) da_nil)))) (dss_cons (ds_if (dt_cmp do_lt (dn 1) de_int (nomark _)) (dss_one (ds_set (i := 2) sc_reduced.nd rfl (Or.inl rfl) (de_neg (dn 2)))) dss_nil) (dss_one (ds_ret (de_tup (da_cons (de_op do_div (dn 0) (dn 2)) (da_cons (de_op do_div (dn 1) (dn 2)) da_nil)))))))⟩, F⟩
theorem sc_mirror : FnScope ["x", "n", "m"] ["x"] (defScope s_mirror) := ⟨rfl, rfl, rfl, by decide +kernel, rfl, by decide +kernel, by decide +kernel⟩
theorem ok_mirror {P : Program} {w : World} {K : PySem.W.Frag} {mg : Str → Option Value} {base : Heap} (T : Txt K mg) (TT : TabsOk tfs K mg base) (BB : BigOk P base) :
    ∃ fd, FnG P w K mg base CX0 35 (He.ga K "mirror") fd ["x"] (spF K 1 F_mirror) ∧ FunD K "mirror" "mirror" (defArgs s_mirror) (defBody s_mirror) (defScope s_mirror) [] [] (He.ga K "mirror") fd := by
  obtain ⟨fd, F⟩ := T.f_mirror
  refine ⟨fd, fn_F F sc_mirror rfl rfl fun cdv A outer s H E p hr hg => ⟨_, (dss_cons (ds_asg (de_ix do_ix (dn 0) de_int (fun _ _ => rfl)) (dv_tup rfl (dvs_cons (dv_name (i := 1) sc_mirror.nd rfl (Or.inl rfl)) (dvs_cons (dv_name (i := 2) sc_mirror.nd rfl (Or.inl rfl)) dvs_nil)))) (dss_one (ds_ret (de_tup (da_cons (de_ix do_ix (dn 0) de_int (fun _ _ => rfl)) (da_cons (de_tup (da_cons (de_neg (dn 1)) (da_cons (dn 2) da_nil))) da_nil))))))⟩, F⟩
theorem sc_trimmed : FnScope ["numbers", "last"] ["numbers"] (defScope s_trimmed) := ⟨rfl, rfl, rfl, by decide +kernel, rfl, by decide +kernel, by decide +kernel⟩
theorem ok_trimmed {P : Program} {w : World} {K : PySem.W.Frag} {mg : Str → Option Value} {base : Heap} (T : Txt K mg) (TT : TabsOk tfs K mg base) (BB : BigOk P base) :
    ∃ fd, FnG P w K mg base CX0 35 (He.ga K "trimmed") fd ["numbers"] (spF K 1 F_trimmed) ∧ FunD K "trimmed" "trimmed" (defArgs s_trimmed) (defBody s_trimmed) (defScope s_trimmed) [] [] (He.ga K "trimmed") fd := by
  obtain ⟨fd, F⟩ := T.f_trimmed
  obtain ⟨⟨v_NOUGHT, u_NOUGHT, m_NOUGHT, r_NOUGHT, d_NOUGHT⟩⟩ := T.c_NOUGHT
  refine ⟨fd, fn_F F sc_trimmed rfl rfl fun cdv A outer s H E p hr hg => ⟨_, (dss_cons (ds_set (i := 1) sc_trimmed.nd rfl (Or.inl rfl) (de_cb db_len rfl T.b_len (by decide +kernel) (da_cons (dn 0) da_nil))) (dss_cons (ds_while PassesOwn.never (dt_w (dw_and (dt_cmp do_gt (dn 1) de_int (nomark _)) (dw_and1 (dt_cmp (do_eq hr.units) (de_ix do_ix (dn 0) (de_op do_sub (dn 1) de_int) (fun _ _ => rfl)) (de_con rfl m_NOUGHT r_NOUGHT d_NOUGHT) (nomark _))))) (dss_one (ds_aug (i := 1) sc_trimmed.nd rfl (Or.inl rfl) de_int ip_sub))) (dss_one (ds_ret (de_cty db_tup rfl T.b_tuple (by decide +kernel) (da_cons (de_sl (dn 0) do_none (do_some (dn 1))) da_nil))))))⟩, F⟩
theorem sc_whole_parts : FnScope ["row", "bottom", "_", "p", "q", "real", "turned", "n", "m"] ["row"] (defScope s_whole_parts) := ⟨rfl, rfl, rfl, by decide +kernel, rfl, by decide +kernel, by decide +kernel⟩
theorem ok_whole_parts {P : Program} {w : World} {K : PySem.W.Frag} {mg : Str → Option Value} {base : Heap} (T : Txt K mg) (TT : TabsOk tfs K mg base) (BB : BigOk P base) :
    ∃ fd, FnG P w K mg base CX0 35 (He.ga K "whole_parts") fd ["row"] (spF K 1 F_whole_parts) ∧ FunD K "whole_parts" "whole_parts" (defArgs s_whole_parts) (defBody s_whole_parts) (defScope s_whole_parts) [] [] (He.ga K "whole_parts") fd := by
  obtain ⟨fd, F⟩ := T.f_whole_parts
  refine ⟨fd, fn_F F sc_whole_parts rfl rfl fun cdv A outer s H E p hr hg => ⟨_, (dss_cons (ds_set (i := 1) sc_whole_parts.nd rfl (Or.inr rfl) de_int) (dss_cons (ds_for PassesOwn.never rfl (di_seq (dn 0)) (dv_tup rfl (dvs_cons (dv_tup rfl (dvs_cons (dv_name (i := 2) sc_whole_parts.nd rfl (Or.inl rfl)) (dvs_cons (dv_name (i := 3) sc_whole_parts.nd rfl (Or.inl rfl)) dvs_nil))) (dvs_cons (dv_tup rfl (dvs_cons (dv_name (i := 2) sc_whole_parts.nd rfl (Or.inl rfl)) (dvs_cons (dv_name (i := 4) sc_whole_parts.nd rfl (Or.inl rfl)) dvs_nil))) dvs_nil))) (dss_one (ds_set (i := 1) sc_whole_parts.nd rfl (Or.inr rfl) (de_fun db_lcm rfl T.i_lcm (da_cons (dn 1) (da_cons (de_fun db_lcm rfl T.i_lcm (da_cons (dn 3) (da_cons (dn 4) da_nil))) da_nil)))))) (dss_cons (ds_lcA (te := (tOp (rOr rMul rMulS) (tVar 7) (tOp rDiv (tVar 1) (tVar 8)))) (tt := tYes) (g := (gBoth K 2 (gCons (gBoth K 2 (gCons (gName 7) (gCons (gName 8) gNil))) (gCons (gName 2) gNil)))) s (i := 5) (own := [("n", 7), ("m", 8), ("_", 2)]) rfl sc_whole_parts.nd rfl rfl (sw_true rfl rfl rfl (by decide +kernel)) (DI.x (di_seq (dn 0))) (blkOk_by (own := [("n", 7), ("m", 8), ("_", 2)]) (N := ["row", "bottom", "_", "p", "q", "real", "turned", "n", "m"]) (sc := defScope s_whole_parts) (by decide +kernel)) rfl (fun _ _ _ _ _ => (dv_tup rfl (dvs_cons (dv_tup rfl (dvs_cons (dv_name (i := 7) sc_whole_parts.nd rfl (Or.inl rfl)) (dvs_cons (dv_name (i := 8) sc_whole_parts.nd rfl (Or.inl rfl)) dvs_nil))) (dvs_cons (dv_name (i := 2) sc_whole_parts.nd rfl (Or.inl rfl)) dvs_nil)))) (fun _ _ _ _ _ => dts_nil) (fun _ _ _ _ _ => (de_op do_mul (dn 7) (de_op do_div (dn 1) (dn 8))))) (dss_cons (ds_lcA (te := (tOp (rOr rMul rMulS) (tVar 7) (tOp rDiv (tVar 1) (tVar 8)))) (tt := tYes) (g := (gBoth K 2 (gCons (gName 2) (gCons (gBoth K 2 (gCons (gName 7) (gCons (gName 8) gNil))) gNil)))) s (i := 6) (own := [("_", 2), ("n", 7), ("m", 8)]) rfl sc_whole_parts.nd rfl rfl (sw_true rfl rfl rfl (by decide +kernel)) (DI.x (di_seq (dn 0))) (blkOk_by (own := [("_", 2), ("n", 7), ("m", 8)]) (N := ["row", "bottom", "_", "p", "q", "real", "turned", "n", "m"]) (sc := defScope s_whole_parts) (by decide +kernel)) rfl (fun _ _ _ _ _ => (dv_tup rfl (dvs_cons (dv_name (i := 2) sc_whole_parts.nd rfl (Or.inl rfl)) (dvs_cons (dv_tup rfl (dvs_cons (dv_name (i := 7) sc_whole_parts.nd rfl (Or.inl rfl)) (dvs_cons (dv_name (i := 8) sc_whole_parts.nd rfl (Or.inl rfl)) dvs_nil))) dvs_nil)))) (fun _ _ _ _ _ => dts_nil) (fun _ _ _ _ _ => (de_op do_mul (dn 7) (de_op do_div (dn 1) (dn 8))))) (dss_one (ds_ret (de_tup (da_cons (dn 5) (da_cons (dn 6) (da_cons (dn 1) da_nil))))))))))⟩, F⟩
theorem sc_is_whole : FnScope ["value"] ["value"] (defScope s_is_whole) := ⟨rfl, rfl, rfl, by decide +kernel, rfl, by decide +kernel, by decide +kernel⟩
theorem ok_is_whole {P : Program} {w : World} {K : PySem.W.Frag} {mg : Str → Option Value} {base : Heap} (T : Txt K mg) (TT : TabsOk tfs K mg base) (BB : BigOk P base) :
    ∃ fd, FnG P w K mg base CX0 35 (He.ga K "is_whole") fd ["value"] (spF K 1 F_is_whole) ∧ FunD K "is_whole" "is_whole" (defArgs s_is_whole) (defBody s_is_whole) (defScope s_is_whole) [] [] (He.ga K "is_whole") fd := by
  obtain ⟨fd, F⟩ := T.f_is_whole
  refine ⟨fd, fn_F F sc_is_whole rfl rfl fun cdv A outer s H E p hr hg => ⟨_, (dss_one (ds_ret (de_and (de_isi kit_int rfl T.b_isinstance (by decide +kernel) (dn 0) (pe_bltn (v := .ty "int") rfl T.b_int (by decide +kernel) rfl)) (de_one (de_not (de_isi kit_bool rfl T.b_isinstance (by decide +kernel) (dn 0) (pe_bltn (v := .ty "bool") rfl T.b_bool (by decide +kernel) rfl)))))))⟩, F⟩
theorem sc_normed : FnScope ["real", "turned", "x", "y", "straight", "crossed", "shared", "each", "a", "b"] ["real", "turned"] (defScope s_normed) := ⟨rfl, rfl, rfl, by decide +kernel, rfl, by decide +kernel, by decide +kernel⟩
theorem ok_normed {P : Program} {w : World} {K : PySem.W.Frag} {mg : Str → Option Value} {base : Heap} (T : Txt K mg) (TT : TabsOk tfs K mg base) (BB : BigOk P base) :
    ∃ fd, FnG P w K mg base CX0 35 (He.ga K "normed") fd ["real", "turned"] (spF K 2 F_normed) ∧ FunD K "normed" "normed" (defArgs s_normed) (defBody s_normed) (defScope s_normed) [] [] (He.ga K "normed") fd := by
  obtain ⟨fd, F⟩ := T.f_normed
  refine ⟨fd, fn_FB F sc_normed BB (by decide) rfl rfl fun cdv A outer s H E p hr hg hbd => ⟨_, (dss_cons (ds_while PassesOwn.never (dt_w (dw_and (dt_tru (dn 0)) (dw_and (dt_cmp (do_eq hr.units) (de_ix do_ix (dn 0) (de_neg de_int) (fun _ _ => rfl)) de_int (nomark _)) (dw_and1 (dt_cmp (do_eq hr.units) (de_ix do_ix (dn 1) (de_neg de_int) (fun _ _ => rfl)) de_int (nomark _)))))) (dss_one (ds_par (i := 0) (j := 1) rfl sc_normed.nd rfl rfl (by decide) rfl rfl (da_cons (de_sl (dn 0) do_none (do_some (de_neg de_int))) (da_cons (de_sl (dn 1) do_none (do_some (de_neg de_int))) da_nil)) rfl))) (dss_cons (ds_if (dt_not (dt_tru (dn 0))) (dss_one (ds_ret (de_tup (da_cons (de_of (dm_lst da_nil)) (da_cons (de_of (dm_lst da_nil)) da_nil))))) dss_nil) (dss_cons (ds_asg (de_tup (da_cons (de_ix do_ix (dn 0) (de_neg de_int) (fun _ _ => rfl)) (da_cons (de_ix do_ix (dn 1) (de_neg de_int) (fun _ _ => rfl)) da_nil))) (dv_tup rfl (dvs_cons (dv_name (i := 2) sc_normed.nd rfl (Or.inr rfl)) (dvs_cons (dv_name (i := 3) sc_normed.nd rfl (Or.inr rfl)) dvs_nil)))) (dss_cons (ds_lcA (te := (tOp (rOr rAdd (rOr rAddS (rOr (rCatA K) (rCatS K)))) (tOp (rOr rMul rMulS) (tVar 8) (tVar 2)) (tOp (rOr rMul rMulS) (tVar 9) (tVar 3)))) (tt := tYes) (g := (gBoth K 2 (gCons (gName 8) (gCons (gName 9) gNil)))) s (i := 4) (own := [("a", 8), ("b", 9)]) rfl sc_normed.nd rfl rfl (sw_true rfl rfl rfl (by decide +kernel)) (DI.x (di_zip rfl T.b_zip (da_cons (dn 0) (da_cons (dn 1) da_nil)))) (blkOk_by (own := [("a", 8), ("b", 9)]) (N := ["real", "turned", "x", "y", "straight", "crossed", "shared", "each", "a", "b"]) (sc := defScope s_normed) (by decide +kernel)) rfl (fun _ _ _ _ _ => (dv_tup rfl (dvs_cons (dv_name (i := 8) sc_normed.nd rfl (Or.inl rfl)) (dvs_cons (dv_name (i := 9) sc_normed.nd rfl (Or.inl rfl)) dvs_nil)))) (fun _ _ _ _ _ => dts_nil) (fun _ _ _ _ _ => (de_op do_add (de_op do_mul (dn 8) (dn 2)) (de_op do_mul (dn 9) (dn 3))))) (dss_cons (ds_lcA (te := (tOp rSub (tOp (rOr rMul rMulS) (tVar 9) (tVar 2)) (tOp (rOr rMul rMulS) (tVar 8) (tVar 3)))) (tt := tYes) (g := (gBoth K 2 (gCons (gName 8) (gCons (gName 9) gNil)))) s (i := 5) (own := [("a", 8), ("b", 9)]) rfl sc_normed.nd rfl rfl (sw_true rfl rfl rfl (by decide +kernel)) (DI.x (di_zip rfl T.b_zip (da_cons (dn 0) (da_cons (dn 1) da_nil)))) (blkOk_by (own := [("a", 8), ("b", 9)]) (N := ["real", "turned", "x", "y", "straight", "crossed", "shared", "each", "a", "b"]) (sc := defScope s_normed) (by decide +kernel)) rfl (fun _ _ _ _ _ => (dv_tup rfl (dvs_cons (dv_name (i := 8) sc_normed.nd rfl (Or.inl rfl)) (dvs_cons (dv_name (i := 9) sc_normed.nd rfl (Or.inl rfl)) dvs_nil)))) (fun _ _ _ _ _ => dts_nil) (fun _ _ _ _ _ => (de_op do_sub (de_op do_mul (dn 9) (dn 2)) (de_op do_mul (dn 8) (dn 3))))) (dss_cons (ds_set (i := 6) sc_normed.nd rfl (Or.inr rfl) de_int) (dss_cons (ds_for PassesOwn.never rfl (di_seq (de_op do_add (dn 4) (dn 5))) (dv_name (i := 7) sc_normed.nd rfl (Or.inl rfl)) (dss_one (ds_set (i := 6) sc_normed.nd rfl (Or.inr rfl) (de_fun db_gcd rfl T.i_gcd (da_cons (dn 6) (da_cons (dn 7) da_nil)))))) (dss_one (ds_ret (de_tup (da_cons (de_of (dm_lc (te := (tOp rDivL (tVar 7) (tVar 6))) (tt := tYes) (g := (gName 7)) s (own := [("each", 7)]) rfl sc_normed.nd (DI.x (di_seq (dn 4))) (blkOk_by (own := [("each", 7)]) (N := ["real", "turned", "x", "y", "straight", "crossed", "shared", "each", "a", "b"]) (sc := defScope s_normed) (by decide +kernel)) rfl (fun _ _ _ _ _ => (dv_name (i := 7) sc_normed.nd rfl (Or.inl rfl))) (fun _ _ _ _ _ => dts_nil) (fun _ _ _ _ _ => (de_op (do_divL hbd) (dn 7) (dn 6))))) (da_cons (de_of (dm_lc (te := (tOp rDivL (tVar 7) (tVar 6))) (tt := tYes) (g := (gName 7)) s (own := [("each", 7)]) rfl sc_normed.nd (DI.x (di_seq (dn 5))) (blkOk_by (own := [("each", 7)]) (N := ["real", "turned", "x", "y", "straight", "crossed", "shared", "each", "a", "b"]) (sc := defScope s_normed) (by decide +kernel)) rfl (fun _ _ _ _ _ => (dv_name (i := 7) sc_normed.nd rfl (Or.inl rfl))) (fun _ _ _ _ _ => dts_nil) (fun _ _ _ _ _ => (de_op (do_divL hbd) (dn 7) (dn 6))))) da_nil))))))))))))⟩, F⟩
theorem sc_by_prime : FnScope ["normed_row", "x", "y"] ["normed_row"] (defScope s_by_prime) := ⟨rfl, rfl, rfl, by decide +kernel, rfl, by decide +kernel, by decide +kernel⟩
theorem ok_by_prime {P : Program} {w : World} {K : PySem.W.Frag} {mg : Str → Option Value} {base : Heap} (T : Txt K mg) (TT : TabsOk tfs K mg base) (BB : BigOk P base) :
    ∃ fd, FnG P w K mg base CX0 35 (He.ga K "by_prime") fd ["normed_row"] (spF K 1 F_by_prime) ∧ FunD K "by_prime" "by_prime" (defArgs s_by_prime) (defBody s_by_prime) (defScope s_by_prime) [] [] (He.ga K "by_prime") fd := by
  obtain ⟨fd, F⟩ := T.f_by_prime
  obtain ⟨⟨v_PRIME, u_PRIME, m_PRIME, r_PRIME, d_PRIME⟩⟩ := T.c_PRIME
  obtain ⟨⟨v_TURN, u_TURN, m_TURN, r_TURN, d_TURN⟩⟩ := T.c_TURN
  refine ⟨fd, fn_F F sc_by_prime rfl rfl fun cdv A outer s H E p hr hg => ⟨_, (dss_one (ds_ret (de_of (dm_lc (te := (tOp rMod (tOp (rOr rAdd (rOr rAddS (rOr (rCatA K) (rCatS K)))) (tVar 1) (tOp (rOr rMul rMulS) (tVar 2) (tC v_TURN))) (tC v_PRIME))) (tt := tYes) (g := (gBoth K 2 (gCons (gName 1) (gCons (gName 2) gNil)))) s (own := [("x", 1), ("y", 2)]) rfl sc_by_prime.nd (DI.x (di_zip rfl T.b_zip (da_cons (de_ix do_ix (dn 0) de_int (fun _ _ => rfl)) (da_cons (de_ix do_ix (dn 0) de_int (fun _ _ => rfl)) da_nil)))) (blkOk_by (own := [("x", 1), ("y", 2)]) (N := ["normed_row", "x", "y"]) (sc := defScope s_by_prime) (by decide +kernel)) rfl (fun _ _ _ _ _ => (dv_tup rfl (dvs_cons (dv_name (i := 1) sc_by_prime.nd rfl (Or.inl rfl)) (dvs_cons (dv_name (i := 2) sc_by_prime.nd rfl (Or.inl rfl)) dvs_nil)))) (fun _ _ _ _ _ => dts_nil) (fun _ _ _ _ _ => (de_op do_mod (de_op do_add (dn 1) (de_op do_mul (dn 2) (de_con rfl m_TURN r_TURN d_TURN))) (de_con rfl m_PRIME r_PRIME d_PRIME)))))))⟩, F⟩
theorem sc_prime_rest : FnScope ["p", "q", "rest", "top", "ahead", "k", "each"] ["p", "q"] (defScope s_prime_rest) := ⟨rfl, rfl, rfl, by decide +kernel, rfl, by decide +kernel, by decide +kernel⟩
theorem ok_prime_rest {P : Program} {w : World} {K : PySem.W.Frag} {mg : Str → Option Value} {base : Heap} (T : Txt K mg) (TT : TabsOk tfs K mg base) (BB : BigOk P base) :
    ∃ fd, FnG P w K mg base CX0 35 (He.ga K "prime_rest") fd ["p", "q"] (spF K 2 F_prime_rest) ∧ FunD K "prime_rest" "prime_rest" (defArgs s_prime_rest) (defBody s_prime_rest) (defScope s_prime_rest) [] [] (He.ga K "prime_rest") fd := by
  obtain ⟨fd, F⟩ := T.f_prime_rest
  obtain ⟨⟨v_PRIME, u_PRIME, m_PRIME, r_PRIME, d_PRIME⟩⟩ := T.c_PRIME
  refine ⟨fd, fn_F F sc_prime_rest rfl rfl fun cdv A outer s H E p hr hg => ⟨_, (dss_cons (ds_setM (i := 2) sc_prime_rest.nd rfl (Or.inl rfl) (dm_list (dn 0) rfl T.b_list (by decide +kernel))) (dss_cons (ds_while PassesOwn.never (dt_view 2 (dt_cmp do_ge (de_view 2 (de_cb db_len rfl T.b_len (by decide +kernel) (da_cons (dn 2) da_nil))) (de_cb db_len rfl T.b_len (by decide +kernel) (da_cons (dn 1) da_nil)) (nomark _))) (dss_cons (ds_popA (i := 2) (k := 3) sc_prime_rest.nd rfl (by first | exact Or.inl rfl | exact Or.inr (Or.inl rfl)) rfl (Or.inl rfl)) (dss_cons (ds_set (i := 4) sc_prime_rest.nd rfl (Or.inl rfl) (de_op do_sub (de_op do_add (de_view 2 (de_cb db_len rfl T.b_len (by decide +kernel) (da_cons (dn 2) da_nil))) de_int) (de_cb db_len rfl T.b_len (by decide +kernel) (da_cons (dn 1) da_nil)))) (dss_cons (ds_lcB (te := (tOp rMod (tOp (rOr rMul rMulS) (tVar 6) (tOp (rIx2 K) (tVar 1) (tUn (rU fun i => .int (-i)) (tC (.int 1))))) (tC v_PRIME))) (tt := tYes) (g := (gName 6)) s (i := 2) (own := [("each", 6)]) rfl sc_prime_rest.nd rfl rfl (sw_true rfl rfl rfl (by decide +kernel)) (dix_var (i := 2) rfl (by first | exact Or.inl rfl | exact Or.inr (Or.inl rfl) | exact Or.inr (Or.inr rfl))) (blkOk_by (own := [("each", 6)]) (N := ["p", "q", "rest", "top", "ahead", "k", "each"]) (sc := defScope s_prime_rest) (by decide +kernel)) rfl (fun _ _ _ _ _ => (dv_name (i := 6) sc_prime_rest.nd rfl (Or.inl rfl))) (fun _ _ _ _ _ => dts_nil) (fun _ _ _ _ _ => (de_op do_mod (de_op do_mul (dn 6) (de_ix do_ix (dn 1) (de_neg de_int) (fun _ _ => rfl))) (de_con rfl m_PRIME r_PRIME d_PRIME)))) (dss_one (ds_for PassesOwn.never rfl (di_enumA rfl T.b_enumerate (da_cons (de_sl (dn 1) do_none (do_some (de_neg de_int))) da_nil)) (dv_tup rfl (dvs_cons (dv_name (i := 5) sc_prime_rest.nd rfl (Or.inl rfl)) (dvs_cons (dv_name (i := 6) sc_prime_rest.nd rfl (Or.inl rfl)) dvs_nil))) (dss_one (ds_setI (i := 2) rfl (by first | exact Or.inl rfl | exact Or.inr (Or.inl rfl)) (de_op do_mod (de_op do_sub (de_ixV (i := 2) rfl (by first | exact Or.inl rfl | exact Or.inr (Or.inl rfl) | exact Or.inr (Or.inr rfl)) (de_op do_add (dn 4) (dn 5)) (fun _ _ => rfl)) (de_op do_mul (dn 3) (dn 6))) (de_con rfl m_PRIME r_PRIME d_PRIME)) (de_op do_add (dn 4) (dn 5)))))))))) (dss_cons (ds_while PassesOwn.never (dt_w (dw_and (dt_truV (i := 2) rfl (by first | exact Or.inl rfl | exact Or.inr (Or.inl rfl) | exact Or.inr (Or.inr rfl))) (dw_and1 (dt_cmp (do_eq hr.units) (de_ixV (i := 2) rfl (by first | exact Or.inl rfl | exact Or.inr (Or.inl rfl) | exact Or.inr (Or.inr rfl)) (de_neg de_int) (fun _ _ => rfl)) de_int (nomark _))))) (dss_one (ds_pop (i := 2) rfl (by first | exact Or.inl rfl | exact Or.inr (Or.inl rfl))))) (dss_froze 2 (dss_one (ds_ret (dn 2)))))))⟩, F⟩
theorem sc__law_pail : FnScope ["script", "turn", "cell", "mixed", "each", "rich"] ["script", "turn"] (defScope s__law_pail) := ⟨rfl, rfl, rfl, by decide +kernel, rfl, by decide +kernel, by decide +kernel⟩
theorem ok__law_pail {P : Program} {w : World} {K : PySem.W.Frag} {mg : Str → Option Value} {base : Heap} (T : Txt K mg) (TT : TabsOk tfs K mg base) (BB : BigOk P base) :
    ∃ fd, FnG P w K mg base CX0 35 (He.ga K "_law_pail") fd ["script", "turn"] (spPail K) ∧ FunD K "_law_pail" "_law_pail" (defArgs s__law_pail) (defBody s__law_pail) (defScope s__law_pail) [] [] (He.ga K "_law_pail") fd := by
  obtain ⟨fd, F⟩ := T.f__law_pail
  refine ⟨fd, fn_M F sc__law_pail rfl rfl F__law_pail_ok fun cdv A outer s H E p hr hg => ⟨_, (dsm_cons (ds_set (i := 2) sc__law_pail.nd rfl (Or.inl rfl) (de_if (dt_cmp do_lt (dn 1) (de_cb db_len rfl T.b_len (by decide +kernel) (da_cons (dn 0) da_nil)) (nomark _)) (de_cty db_int rfl T.b_int (by decide +kernel) (da_cons (de_ix do_ix (dn 0) (dn 1) (fun _ _ => rfl)) da_nil)) (de_op do_add (de_op do_mul de_int (dn 1)) de_int))) (dsm_cons (ds_set (i := 3) sc__law_pail.nd rfl (Or.inl rfl) (de_op do_add de_int (de_op do_mul de_int (dn 1)))) (dsm_cons (ds_for PassesOwn.never rfl (di_seq (de_sl (dn 0) do_none (do_some de_int))) (dv_name (i := 4) sc__law_pail.nd rfl (Or.inl rfl)) (dss_one (ds_set (i := 3) sc__law_pail.nd rfl (Or.inl rfl) (de_op do_mod (de_cty db_int rfl T.b_int (by decide +kernel) (da_cons (de_op do_add (de_op do_add (de_op do_mul (dn 3) de_int) (de_op do_mul (de_op do_mod (de_cty db_int rfl T.b_int (by decide +kernel) (da_cons (dn 4) da_nil)) de_int) de_int)) de_int) da_nil)) de_int)))) (dsm_cons (ds_set (i := 5) sc__law_pail.nd rfl (Or.inl rfl) (de_or (de_cmp do_lt (dn 2) de_int (nomark _)) (de_one (de_cmp do_ge (dn 2) (de_op do_pow de_int de_int) (nomark _))))) (dsm_ret (dm_lst (da_cons (de_if (dt_tru (dn 5)) (de_cb db_abs rfl T.b_abs (by decide +kernel) (da_cons (dn 2) da_nil)) de_int) (da_cons (de_op do_mod (de_cty db_int rfl T.b_int (by decide +kernel) (da_cons (de_op do_add (de_op do_add (de_op do_mul (dn 3) de_int) (de_op do_mul (de_op do_mod (de_cty db_int rfl T.b_int (by decide +kernel) (da_cons (dn 2) da_nil)) de_int) de_int)) de_int) da_nil)) de_int) (da_cons de_int da_nil)))))))))⟩, F⟩
theorem sc__law_dip : FnScope ["pail", "many", "figure", "one"] ["pail", "many"] (defScope s__law_dip) := ⟨rfl, rfl, rfl, by decide +kernel, rfl, by decide +kernel, by decide +kernel⟩
theorem ok__law_dip {P : Program} {w : World} {K : PySem.W.Frag} {mg : Str → Option Value} {base : Heap} (T : Txt K mg) (TT : TabsOk tfs K mg base) (BB : BigOk P base) :
    ∃ fd, FnG P w K mg base CX0 35 (He.ga K "_law_dip") fd ["pail", "many"] (spQ K 2 F__law_dip) ∧ FunD K "_law_dip" "_law_dip" (defArgs s__law_dip) (defBody s__law_dip) (defScope s__law_dip) [] [] (He.ga K "_law_dip") fd := by
  obtain ⟨fd, F⟩ := T.f__law_dip
  refine ⟨fd, fn_Q F sc__law_dip rfl rfl fun cdv A outer s H E a hr hg => ⟨_, (dss_cons (ds_if (dt_cmp do_gt (de_pix (i := 0) (by decide) rfl (Or.inl rfl)) de_int (nomark _)) (dss_cons (ds_ppar (i := 0) (m := 2) (by decide) sc__law_dip.nd rfl (Or.inl rfl) rfl (Or.inl rfl) rfl (de_cb db_divmod rfl T.b_divmod (by decide +kernel) (da_cons (de_pix (i := 0) (by decide) rfl (Or.inl rfl)) (da_cons (dn 1) da_nil)))) (dss_one (ds_ret (dn 2)))) dss_nil) (dss_cons (ds_pset (i := 2) (by decide) rfl (Or.inl rfl) (de_op do_add (de_pix (i := 2) (by decide) rfl (Or.inl rfl)) de_int)) (dss_cons (ds_set (i := 3) sc__law_dip.nd rfl (Or.inl rfl) (de_op do_mod (de_cty db_int rfl T.b_int (by decide +kernel) (da_cons (de_op do_add (de_op do_mul (de_pix (i := 1) (by decide) rfl (Or.inl rfl)) de_int) (de_op do_mul (de_pix (i := 2) (by decide) rfl (Or.inl rfl)) de_int)) da_nil)) de_int)) (dss_cons (ds_pset (i := 1) (by decide) rfl (Or.inl rfl) (de_op do_mod (de_cty db_int rfl T.b_int (by decide +kernel) (da_cons (de_op do_add (de_op do_mul (dn 3) (de_op do_add (de_op do_div (dn 3) de_int) (de_op do_mul de_int (de_pix (i := 2) (by decide) rfl (Or.inl rfl))))) de_int) da_nil)) de_int)) (dss_one (ds_ret (de_op do_mod (de_cty db_int rfl T.b_int (by decide +kernel) (da_cons (de_op do_div (de_pix (i := 1) (by decide) rfl (Or.inl rfl)) de_int) da_nil)) (dn 1))))))))⟩, F⟩
theorem sc__law_gcd : FnScope ["a", "b"] ["a", "b"] (defScope s__law_gcd) := ⟨rfl, rfl, rfl, by decide +kernel, rfl, by decide +kernel, by decide +kernel⟩
theorem ok__law_gcd {P : Program} {w : World} {K : PySem.W.Frag} {mg : Str → Option Value} {base : Heap} (T : Txt K mg) (TT : TabsOk tfs K mg base) (BB : BigOk P base) :
    ∃ fd, FnG P w K mg base CX0 35 (He.ga K "_law_gcd") fd ["a", "b"] (spF K 2 F__law_gcd) ∧ FunD K "_law_gcd" "_law_gcd" (defArgs s__law_gcd) (defBody s__law_gcd) (defScope s__law_gcd) [] [] (He.ga K "_law_gcd") fd := by
  obtain ⟨fd, F⟩ := T.f__law_gcd
  refine ⟨fd, fn_F F sc__law_gcd rfl rfl fun cdv A outer s H E p hr hg => ⟨_, (dss_cons (ds_par (i := 0) (j := 1) rfl sc__law_gcd.nd rfl rfl (by decide) rfl rfl (da_cons (de_cb db_abs rfl T.b_abs (by decide +kernel) (da_cons (dn 0) da_nil)) (da_cons (de_cb db_abs rfl T.b_abs (by decide +kernel) (da_cons (dn 1) da_nil)) da_nil)) rfl) (dss_cons (ds_while PassesOwn.never (dt_cmp do_gt (dn 1) de_int (nomark _)) (dss_one (ds_par (i := 0) (j := 1) rfl sc__law_gcd.nd rfl rfl (by decide) rfl rfl (da_cons (dn 1) (da_cons (de_op do_mod (de_cty db_int rfl T.b_int (by decide +kernel) (da_cons (dn 0) da_nil)) (dn 1)) da_nil)) rfl))) (dss_one (ds_ret (dn 0)))))⟩, F⟩
theorem sc__law_trim : FnScope ["row", "many", "at"] ["row"] (defScope s__law_trim) := ⟨rfl, rfl, rfl, by decide +kernel, rfl, by decide +kernel, by decide +kernel⟩
theorem ok__law_trim {P : Program} {w : World} {K : PySem.W.Frag} {mg : Str → Option Value} {base : Heap} (T : Txt K mg) (TT : TabsOk tfs K mg base) (BB : BigOk P base) :
    ∃ fd, FnG P w K mg base CX0 35 (He.ga K "_law_trim") fd ["row"] (spF K 1 F__law_trim) ∧ FunD K "_law_trim" "_law_trim" (defArgs s__law_trim) (defBody s__law_trim) (defScope s__law_trim) [] [] (He.ga K "_law_trim") fd := by
  obtain ⟨fd, F⟩ := T.f__law_trim
  refine ⟨fd, fn_F F sc__law_trim rfl rfl fun cdv A outer s H E p hr hg => ⟨_, (dss_cons (ds_set (i := 1) sc__law_trim.nd rfl (Or.inl rfl) (de_cb db_len rfl T.b_len (by decide +kernel) (da_cons (dn 0) da_nil))) (dss_cons (ds_for PassesOwn.never rfl (di_range1 rfl T.b_range (da_cons (de_cb db_len rfl T.b_len (by decide +kernel) (da_cons (dn 0) da_nil)) da_nil)) (dv_name (i := 2) sc__law_trim.nd rfl (Or.inl rfl)) (dss_one (ds_if (dt_w (dw_and (dt_cmp (do_eq hr.units) (dn 1) (de_op do_sub (de_cb db_len rfl T.b_len (by decide +kernel) (da_cons (dn 0) da_nil)) (dn 2)) (nomark _)) (dw_and1 (dt_cmp (do_eq hr.units) (de_sl (de_ix do_ix (dn 0) (de_op do_sub (dn 1) de_int) (fun _ _ => rfl)) do_none (do_some de_int)) (de_tup (da_cons de_int (da_cons de_int da_nil))) (nomark _))))) (dss_one (ds_set (i := 1) sc__law_trim.nd rfl (Or.inl rfl) (de_op do_sub (dn 1) de_int))) dss_nil))) (dss_one (ds_ret (de_of (dm_list (de_sl (dn 0) do_none (do_some (dn 1))) rfl T.b_list (by decide +kernel)))))))⟩, F⟩
theorem sc__law_spread : FnScope ["roots", "times_v", "found", "k"] ["roots", "times_v"] (defScope s__law_spread) := ⟨rfl, rfl, rfl, by decide +kernel, rfl, by decide +kernel, by decide +kernel⟩
theorem ok__law_spread {P : Program} {w : World} {K : PySem.W.Frag} {mg : Str → Option Value} {base : Heap} (T : Txt K mg) (TT : TabsOk tfs K mg base) (BB : BigOk P base) :
    ∃ fd, FnG P w K mg base CX0 35 (He.ga K "_law_spread") fd ["roots", "times_v"] (spF K 2 F__law_spread) ∧ FunD K "_law_spread" "_law_spread" (defArgs s__law_spread) (defBody s__law_spread) (defScope s__law_spread) [] [] (He.ga K "_law_spread") fd := by
  obtain ⟨fd, F⟩ := T.f__law_spread
  refine ⟨fd, fn_F F sc__law_spread rfl rfl fun cdv A outer s H E p hr hg => ⟨_, (dss_cons (ds_set (i := 2) sc__law_spread.nd rfl (Or.inl rfl) (de_of (dm_lst da_nil))) (dss_cons (ds_for PassesOwn.never rfl (di_range1 rfl T.b_range (da_cons (de_cb db_len rfl T.b_len (by decide +kernel) (da_cons (dn 0) da_nil)) da_nil)) (dv_name (i := 3) sc__law_spread.nd rfl (Or.inl rfl)) (dss_one (ds_set (i := 2) sc__law_spread.nd rfl (Or.inl rfl) (de_op do_add (dn 2) (de_of (dm_rep (dm_lst (da_cons (de_ix do_ix (dn 0) (dn 3) (fun _ _ => rfl)) da_nil)) (de_ix do_ix (dn 1) (dn 3) (fun _ _ => rfl)))))))) (dss_one (ds_ret (dn 2)))))⟩, F⟩
theorem sc_fraction_less : FnScope ["x", "y"] ["x", "y"] (defScope s_fraction_less) := ⟨rfl, rfl, rfl, by decide +kernel, rfl, by decide +kernel, by decide +kernel⟩
theorem ok_fraction_less {P : Program} {w : World} {K : PySem.W.Frag} {mg : Str → Option Value} {base : Heap} (T : Txt K mg) (TT : TabsOk tfs K mg base) (BB : BigOk P base) :
    ∃ fd, FnG P w K mg base CX0 36 (He.ga K "fraction_less") fd ["x", "y"] (spF K 2 F_fraction_less) ∧ FunD K "fraction_less" "fraction_less" (defArgs s_fraction_less) (defBody s_fraction_less) (defScope s_fraction_less) [] [] (He.ga K "fraction_less") fd := by
  obtain ⟨fd, F⟩ := T.f_fraction_less
  obtain ⟨fd_reduced, G_reduced, K_reduced⟩ := ok_reduced (P := P) (w := w) (base := base) T TT BB
  have B_reduced := K_reduced.bindsN (ps := ["n", "m"]) fun _ _ _ _ _ _ us hl => match us, hl with | [_, _], _ => rfl
  refine ⟨fd, fn_F F sc_fraction_less rfl rfl fun cdv A outer s H E p hr hg => ⟨_, (dss_one (ds_ret (de_call G_reduced mkF_ari (hr.mono (by decide)) hg rfl T.g_reduced K_reduced.kp B_reduced pass0 (da_cons (de_op do_sub (de_op do_mul (de_ix do_ix (dn 0) de_int (fun _ _ => rfl)) (de_ix do_ix (dn 1) de_int (fun _ _ => rfl))) (de_op do_mul (de_ix do_ix (dn 1) de_int (fun _ _ => rfl)) (de_ix do_ix (dn 0) de_int (fun _ _ => rfl)))) (da_cons (de_op do_mul (de_ix do_ix (dn 0) de_int (fun _ _ => rfl)) (de_ix do_ix (dn 1) de_int (fun _ _ => rfl))) da_nil)))))⟩, F⟩
theorem sc_fraction_times : FnScope ["x", "y"] ["x", "y"] (defScope s_fraction_times) := ⟨rfl, rfl, rfl, by decide +kernel, rfl, by decide +kernel, by decide +kernel⟩
theorem ok_fraction_times {P : Program} {w : World} {K : PySem.W.Frag} {mg : Str → Option Value} {base : Heap} (T : Txt K mg) (TT : TabsOk tfs K mg base) (BB : BigOk P base) :
    ∃ fd, FnG P w K mg base CX0 36 (He.ga K "fraction_times") fd ["x", "y"] (spF K 2 F_fraction_times) ∧ FunD K "fraction_times" "fraction_times" (defArgs s_fraction_times) (defBody s_fraction_times) (defScope s_fraction_times) [] [] (He.ga K "fraction_times") fd := by
  obtain ⟨fd, F⟩ := T.f_fraction_times
  obtain ⟨fd_reduced, G_reduced, K_reduced⟩ := ok_reduced (P := P) (w := w) (base := base) T TT BB
  have B_reduced := K_reduced.bindsN (ps := ["n", "m"]) fun _ _ _ _ _ _ us hl => match us, hl with | [_, _], _ => rfl
  refine ⟨fd, fn_F F sc_fraction_times rfl rfl fun cdv A outer s H E p hr hg => ⟨_, (dss_one (ds_ret (de_call G_reduced mkF_ari (hr.mono (by decide)) hg rfl T.g_reduced K_reduced.kp B_reduced pass0 (da_cons (de_op do_mul (de_ix do_ix (dn 0) de_int (fun _ _ => rfl)) (de_ix do_ix (dn 1) de_int (fun _ _ => rfl))) (da_cons (de_op do_mul (de_ix do_ix (dn 0) de_int (fun _ _ => rfl)) (de_ix do_ix (dn 1) de_int (fun _ _ => rfl))) da_nil)))))⟩, F⟩
theorem sc_number_from : FnScope ["x", "y", "m"] ["x", "y", "m"] (defScope s_number_from) := ⟨rfl, rfl, rfl, by decide +kernel, rfl, by decide +kernel, by decide +kernel⟩
theorem ok_number_from {P : Program} {w : World} {K : PySem.W.Frag} {mg : Str → Option Value} {base : Heap} (T : Txt K mg) (TT : TabsOk tfs K mg base) (BB : BigOk P base) :
    ∃ fd, FnG P w K mg base CX0 36 (He.ga K "number_from") fd ["x", "y", "m"] (spF K 3 F_number_from) ∧ FunD K "number_from" "number_from" (defArgs s_number_from) (defBody s_number_from) (defScope s_number_from) [] [] (He.ga K "number_from") fd := by
  obtain ⟨fd, F⟩ := T.f_number_from
  obtain ⟨fd_reduced, G_reduced, K_reduced⟩ := ok_reduced (P := P) (w := w) (base := base) T TT BB
  have B_reduced := K_reduced.bindsN (ps := ["n", "m"]) fun _ _ _ _ _ _ us hl => match us, hl with | [_, _], _ => rfl
  refine ⟨fd, fn_F F sc_number_from rfl rfl fun cdv A outer s H E p hr hg => ⟨_, (dss_one (ds_ret (de_tup (da_cons (de_call G_reduced mkF_ari (hr.mono (by decide)) hg rfl T.g_reduced K_reduced.kp B_reduced pass0 (da_cons (dn 0) (da_cons (dn 2) da_nil))) (da_cons (de_call G_reduced mkF_ari (hr.mono (by decide)) hg rfl T.g_reduced K_reduced.kp B_reduced pass0 (da_cons (dn 1) (da_cons (dn 2) da_nil))) da_nil)))))⟩, F⟩
theorem sc_size_of : FnScope ["x", "a", "p", "b", "q"] ["x"] (defScope s_size_of) := ⟨rfl, rfl, rfl, by decide +kernel, rfl, by decide +kernel, by decide +kernel⟩
theorem ok_size_of {P : Program} {w : World} {K : PySem.W.Frag} {mg : Str → Option Value} {base : Heap} (T : Txt K mg) (TT : TabsOk tfs K mg base) (BB : BigOk P base) :
    ∃ fd, FnG P w K mg base CX0 36 (He.ga K "size_of") fd ["x"] (spF K 1 F_size_of) ∧ FunD K "size_of" "size_of" (defArgs s_size_of) (defBody s_size_of) (defScope s_size_of) [] [] (He.ga K "size_of") fd := by
  obtain ⟨fd, F⟩ := T.f_size_of
  obtain ⟨fd_reduced, G_reduced, K_reduced⟩ := ok_reduced (P := P) (w := w) (base := base) T TT BB
  have B_reduced := K_reduced.bindsN (ps := ["n", "m"]) fun _ _ _ _ _ _ us hl => match us, hl with | [_, _], _ => rfl
  refine ⟨fd, fn_F F sc_size_of rfl rfl fun cdv A outer s H E p hr hg => ⟨_, (dss_cons (ds_asg (dn 0) (dv_tup rfl (dvs_cons (dv_tup rfl (dvs_cons (dv_name (i := 1) sc_size_of.nd rfl (Or.inl rfl)) (dvs_cons (dv_name (i := 2) sc_size_of.nd rfl (Or.inl rfl)) dvs_nil))) (dvs_cons (dv_tup rfl (dvs_cons (dv_name (i := 3) sc_size_of.nd rfl (Or.inl rfl)) (dvs_cons (dv_name (i := 4) sc_size_of.nd rfl (Or.inl rfl)) dvs_nil))) dvs_nil)))) (dss_cons (ds_par (i := 1) (j := 3) rfl sc_size_of.nd rfl rfl (by decide) rfl rfl (da_cons (de_op do_mul (dn 1) (dn 4)) (da_cons (de_op do_mul (dn 3) (dn 2)) da_nil)) rfl) (dss_one (ds_ret (de_call G_reduced mkF_ari (hr.mono (by decide)) hg rfl T.g_reduced K_reduced.kp B_reduced pass0 (da_cons (de_op do_add (de_op do_mul (dn 1) (dn 1)) (de_op do_mul (dn 3) (dn 3))) (da_cons (de_op do_mul (de_op do_mul (de_op do_mul (dn 2) (dn 2)) (dn 4)) (dn 4)) da_nil)))))))⟩, F⟩
theorem sc_is_fraction : FnScope ["value", "n", "m"] ["value"] (defScope s_is_fraction) := ⟨rfl, rfl, rfl, by decide +kernel, rfl, by decide +kernel, by decide +kernel⟩
theorem ok_is_fraction {P : Program} {w : World} {K : PySem.W.Frag} {mg : Str → Option Value} {base : Heap} (T : Txt K mg) (TT : TabsOk tfs K mg base) (BB : BigOk P base) :
    ∃ fd, FnG P w K mg base CX0 36 (He.ga K "is_fraction") fd ["value"] (spF K 1 F_is_fraction) ∧ FunD K "is_fraction" "is_fraction" (defArgs s_is_fraction) (defBody s_is_fraction) (defScope s_is_fraction) [] [] (He.ga K "is_fraction") fd := by
  obtain ⟨fd, F⟩ := T.f_is_fraction
  obtain ⟨fd_is_whole, G_is_whole, K_is_whole⟩ := ok_is_whole (P := P) (w := w) (base := base) T TT BB
  have B_is_whole := K_is_whole.bindsN (ps := ["value"]) fun _ _ _ _ _ _ us hl => match us, hl with | [_], _ => rfl
  refine ⟨fd, fn_F F sc_is_fraction rfl rfl fun cdv A outer s H E p hr hg => ⟨_, (dss_cons (ds_if (dt_w (dw_or (dt_not (dt_tru (de_isi kit_tuple rfl T.b_isinstance (by decide +kernel) (dn 0) (pe_bltn (v := .ty "tuple") rfl T.b_tuple (by decide +kernel) rfl)))) (dw_or1 (dt_cmp (do_ne hr.units) (de_cb db_len rfl T.b_len (by decide +kernel) (da_cons (dn 0) da_nil)) de_int (nomark _))))) (dss_one (ds_ret de_bl)) dss_nil) (dss_cons (ds_asg (dn 0) (dv_tup rfl (dvs_cons (dv_name (i := 1) sc_is_fraction.nd rfl (Or.inl rfl)) (dvs_cons (dv_name (i := 2) sc_is_fraction.nd rfl (Or.inl rfl)) dvs_nil)))) (dss_one (ds_ret (de_and (de_call G_is_whole mkF_ari (hr.mono (by decide)) hg rfl T.g_is_whole K_is_whole.kp B_is_whole pass0 (da_cons (dn 1) da_nil)) (de_and (de_call G_is_whole mkF_ari (hr.mono (by decide)) hg rfl T.g_is_whole K_is_whole.kp B_is_whole pass0 (da_cons (dn 2) da_nil)) (de_and (de_cmp do_gt (dn 2) de_int (nomark _)) (de_one (de_cmp (do_eq hr.units) (de_fun db_gcd rfl T.i_gcd (da_cons (dn 1) (da_cons (dn 2) da_nil))) de_int (nomark _))))))))))⟩, F⟩
theorem sc_normed_rest : FnScope ["first", "second", "real", "turned", "straight", "crossed", "last", "x", "y", "shared", "scale", "ahead", "k", "c", "d", "each"] ["first", "second"] (defScope s_normed_rest) := ⟨rfl, rfl, rfl, by decide +kernel, rfl, by decide +kernel, by decide +kernel⟩
theorem ok_normed_rest {P : Program} {w : World} {K : PySem.W.Frag} {mg : Str → Option Value} {base : Heap} (T : Txt K mg) (TT : TabsOk tfs K mg base) (BB : BigOk P base) :
    ∃ fd, FnG P w K mg base CX0 36 (He.ga K "normed_rest") fd ["first", "second"] (spF K 2 F_normed_rest) ∧ FunD K "normed_rest" "normed_rest" (defArgs s_normed_rest) (defBody s_normed_rest) (defScope s_normed_rest) [] [] (He.ga K "normed_rest") fd := by
  obtain ⟨fd, F⟩ := T.f_normed_rest
  obtain ⟨fd_normed, G_normed, K_normed⟩ := ok_normed (P := P) (w := w) (base := base) T TT BB
  have B_normed := K_normed.bindsN (ps := ["real", "turned"]) fun _ _ _ _ _ _ us hl => match us, hl with | [_, _], _ => rfl
  refine ⟨fd, fn_FB F sc_normed_rest BB (by decide) rfl rfl fun cdv A outer s H E p hr hg hbd => ⟨_, (dss_cons (ds_asg (dn 0) (dv_tup rfl (dvs_cons (dv_name (i := 2) sc_normed_rest.nd rfl (Or.inl rfl)) (dvs_cons (dv_name (i := 3) sc_normed_rest.nd rfl (Or.inl rfl)) dvs_nil)))) (dss_cons (ds_asg (dn 1) (dv_tup rfl (dvs_cons (dv_name (i := 4) sc_normed_rest.nd rfl (Or.inl rfl)) (dvs_cons (dv_name (i := 5) sc_normed_rest.nd rfl (Or.inl rfl)) dvs_nil)))) (dss_cons (ds_set (i := 6) sc_normed_rest.nd rfl (Or.inl rfl) (de_ix do_ix (dn 4) (de_neg de_int) (fun _ _ => rfl))) (dss_cons (ds_while PassesOwn.never (dt_view 2 (dt_cmp do_ge (de_view 2 (de_cb db_len rfl T.b_len (by decide +kernel) (da_cons (dn 2) da_nil))) (de_cb db_len rfl T.b_len (by decide +kernel) (da_cons (dn 4) da_nil)) (nomark _))) (dss_cons (ds_par (i := 7) (j := 8) rfl sc_normed_rest.nd rfl rfl (by decide) rfl rfl (da_cons (de_ixV (i := 2) rfl (by first | exact Or.inl rfl | exact Or.inr (Or.inl rfl) | exact Or.inr (Or.inr rfl)) (de_neg de_int) (fun _ _ => rfl)) (da_cons (de_ixV (i := 3) rfl (by first | exact Or.inl rfl | exact Or.inr (Or.inl rfl) | exact Or.inr (Or.inr rfl)) (de_neg de_int) (fun _ _ => rfl)) da_nil)) rfl) (dss_cons (ds_set (i := 9) sc_normed_rest.nd rfl (Or.inl rfl) (de_fun db_gcd rfl T.i_gcd (da_cons (de_fun db_gcd rfl T.i_gcd (da_cons (dn 7) (da_cons (dn 8) da_nil))) (da_cons (dn 6) da_nil)))) (dss_cons (ds_asg (de_tup (da_cons (de_op (do_divL hbd) (dn 7) (dn 9)) (da_cons (de_op (do_divL hbd) (dn 8) (dn 9)) (da_cons (de_op (do_divL hbd) (dn 6) (dn 9)) da_nil)))) (dv_tup rfl (dvs_cons (dv_name (i := 7) sc_normed_rest.nd rfl (Or.inl rfl)) (dvs_cons (dv_name (i := 8) sc_normed_rest.nd rfl (Or.inl rfl)) (dvs_cons (dv_name (i := 10) sc_normed_rest.nd rfl (Or.inr rfl)) dvs_nil))))) (dss_cons (ds_set (i := 11) sc_normed_rest.nd rfl (Or.inl rfl) (de_op do_sub (de_view 2 (de_cb db_len rfl T.b_len (by decide +kernel) (da_cons (dn 2) da_nil))) (de_cb db_len rfl T.b_len (by decide +kernel) (da_cons (dn 4) da_nil)))) (dss_cons (ds_lcB (te := (tOp (rOr rMul rMulS) (tVar 10) (tVar 15))) (tt := tYes) (g := (gName 15)) s (i := 2) (own := [("each", 15)]) rfl sc_normed_rest.nd rfl rfl (sw_true rfl rfl rfl (by decide +kernel)) (dix_var (i := 2) rfl (by first | exact Or.inl rfl | exact Or.inr (Or.inl rfl) | exact Or.inr (Or.inr rfl))) (blkOk_by (own := [("each", 15)]) (N := ["first", "second", "real", "turned", "straight", "crossed", "last", "x", "y", "shared", "scale", "ahead", "k", "c", "d", "each"]) (sc := defScope s_normed_rest) (by decide +kernel)) rfl (fun _ _ _ _ _ => (dv_name (i := 15) sc_normed_rest.nd rfl (Or.inl rfl))) (fun _ _ _ _ _ => dts_nil) (fun _ _ _ _ _ => (de_op do_mul (dn 10) (dn 15)))) (dss_cons (ds_lcB (te := (tOp (rOr rMul rMulS) (tVar 10) (tVar 15))) (tt := tYes) (g := (gName 15)) s (i := 3) (own := [("each", 15)]) rfl sc_normed_rest.nd rfl rfl (sw_true rfl rfl rfl (by decide +kernel)) (dix_var (i := 3) rfl (by first | exact Or.inl rfl | exact Or.inr (Or.inl rfl) | exact Or.inr (Or.inr rfl))) (blkOk_by (own := [("each", 15)]) (N := ["first", "second", "real", "turned", "straight", "crossed", "last", "x", "y", "shared", "scale", "ahead", "k", "c", "d", "each"]) (sc := defScope s_normed_rest) (by decide +kernel)) rfl (fun _ _ _ _ _ => (dv_name (i := 15) sc_normed_rest.nd rfl (Or.inl rfl))) (fun _ _ _ _ _ => dts_nil) (fun _ _ _ _ _ => (de_op do_mul (dn 10) (dn 15)))) (dss_cons (ds_for PassesOwn.never rfl (di_ez rfl T.b_enumerate rfl T.b_zip (da_cons (dn 4) (da_cons (dn 5) da_nil))) (dv_tup rfl (dvs_cons (dv_name (i := 12) sc_normed_rest.nd rfl (Or.inl rfl)) (dvs_cons (dv_tup rfl (dvs_cons (dv_name (i := 13) sc_normed_rest.nd rfl (Or.inl rfl)) (dvs_cons (dv_name (i := 14) sc_normed_rest.nd rfl (Or.inl rfl)) dvs_nil))) dvs_nil))) (dss_cons (ds_augI (i := 2) rfl (by first | exact Or.inl rfl | exact Or.inr (Or.inl rfl)) (de_op do_sub (de_op do_mul (dn 7) (dn 13)) (de_op do_mul (dn 8) (dn 14))) (de_op do_add (dn 11) (dn 12)) ip_sub) (dss_one (ds_augI (i := 3) rfl (by first | exact Or.inl rfl | exact Or.inr (Or.inl rfl)) (de_op do_add (de_op do_mul (dn 7) (dn 14)) (de_op do_mul (dn 8) (dn 13))) (de_op do_add (dn 11) (dn 12)) ip_sub)))) (dss_cons (ds_pop (i := 2) rfl (by first | exact Or.inl rfl | exact Or.inr (Or.inl rfl))) (dss_one (ds_pop (i := 3) rfl (by first | exact Or.inl rfl | exact Or.inr (Or.inl rfl))))))))))))) (dss_froze 3 (dss_froze 2 (dss_one (ds_ret (de_call G_normed mkF_ari (hr.mono (by decide)) hg rfl T.g_normed K_normed.kp B_normed pass0 (da_cons (dn 2) (da_cons (dn 3) da_nil)))))))))))⟩, F⟩
theorem sc_surely_apart : FnScope ["first", "second", "p", "q"] ["first", "second"] (defScope s_surely_apart) := ⟨rfl, rfl, rfl, by decide +kernel, rfl, by decide +kernel, by decide +kernel⟩
theorem ok_surely_apart {P : Program} {w : World} {K : PySem.W.Frag} {mg : Str → Option Value} {base : Heap} (T : Txt K mg) (TT : TabsOk tfs K mg base) (BB : BigOk P base) :
    ∃ fd, FnG P w K mg base CX0 36 (He.ga K "surely_apart") fd ["first", "second"] (spF K 2 F_surely_apart) ∧ FunD K "surely_apart" "surely_apart" (defArgs s_surely_apart) (defBody s_surely_apart) (defScope s_surely_apart) [] [] (He.ga K "surely_apart") fd := by
  obtain ⟨fd, F⟩ := T.f_surely_apart
  obtain ⟨fd_by_prime, G_by_prime, K_by_prime⟩ := ok_by_prime (P := P) (w := w) (base := base) T TT BB
  obtain ⟨fd_prime_rest, G_prime_rest, K_prime_rest⟩ := ok_prime_rest (P := P) (w := w) (base := base) T TT BB
  have B_by_prime := K_by_prime.bindsN (ps := ["normed_row"]) fun _ _ _ _ _ _ us hl => match us, hl with | [_], _ => rfl
  have B_prime_rest := K_prime_rest.bindsN (ps := ["p", "q"]) fun _ _ _ _ _ _ us hl => match us, hl with | [_, _], _ => rfl
  refine ⟨fd, fn_F F sc_surely_apart rfl rfl fun cdv A outer s H E p hr hg => ⟨_, (dss_cons (ds_par (i := 2) (j := 3) rfl sc_surely_apart.nd rfl rfl (by decide) rfl rfl (da_cons (de_call G_by_prime mkF_ari (hr.mono (by decide)) hg rfl T.g_by_prime K_by_prime.kp B_by_prime pass0 (da_cons (dn 0) da_nil)) (da_cons (de_call G_by_prime mkF_ari (hr.mono (by decide)) hg rfl T.g_by_prime K_by_prime.kp B_by_prime pass0 (da_cons (dn 1) da_nil)) da_nil)) rfl) (dss_cons (ds_if (dt_w (dw_or (dt_cmp (do_eq hr.units) (de_ix do_ix (dn 2) (de_neg de_int) (fun _ _ => rfl)) de_int (nomark _)) (dw_or1 (dt_cmp (do_eq hr.units) (de_ix do_ix (dn 3) (de_neg de_int) (fun _ _ => rfl)) de_int (nomark _))))) (dss_one (ds_ret de_bl)) dss_nil) (dss_cons (ds_while PassesOwn.never (dt_cmp do_gt (de_cb db_len rfl T.b_len (by decide +kernel) (da_cons (dn 3) da_nil)) de_int (nomark _)) (dss_one (ds_par (i := 2) (j := 3) rfl sc_surely_apart.nd rfl rfl (by decide) rfl rfl (da_cons (dn 3) (da_cons (de_call G_prime_rest mkF_ari (hr.mono (by decide)) hg rfl T.g_prime_rest K_prime_rest.kp B_prime_rest pass0 (da_cons (dn 2) (da_cons (dn 3) da_nil))) da_nil)) rfl))) (dss_one (ds_ret (de_cmp (do_eq hr.units) (de_cb db_len rfl T.b_len (by decide +kernel) (da_cons (dn 3) da_nil)) de_int (nomark _)))))))⟩, F⟩
theorem sc__law_cut : FnScope ["a", "b", "d", "g"] ["a", "b", "d"] (defScope s__law_cut) := ⟨rfl, rfl, rfl, by decide +kernel, rfl, by decide +kernel, by decide +kernel⟩
theorem ok__law_cut {P : Program} {w : World} {K : PySem.W.Frag} {mg : Str → Option Value} {base : Heap} (T : Txt K mg) (TT : TabsOk tfs K mg base) (BB : BigOk P base) :
    ∃ fd, FnG P w K mg base CX0 36 (He.ga K "_law_cut") fd ["a", "b", "d"] (spF K 3 F__law_cut) ∧ FunD K "_law_cut" "_law_cut" (defArgs s__law_cut) (defBody s__law_cut) (defScope s__law_cut) [] [] (He.ga K "_law_cut") fd := by
  obtain ⟨fd, F⟩ := T.f__law_cut
  obtain ⟨fd__law_gcd, G__law_gcd, K__law_gcd⟩ := ok__law_gcd (P := P) (w := w) (base := base) T TT BB
  have B__law_gcd := K__law_gcd.bindsN (ps := ["a", "b"]) fun _ _ _ _ _ _ us hl => match us, hl with | [_, _], _ => rfl
  refine ⟨fd, fn_F F sc__law_cut rfl rfl fun cdv A outer s H E p hr hg => ⟨_, (dss_cons (ds_set (i := 3) sc__law_cut.nd rfl (Or.inl rfl) (de_call G__law_gcd mkF_ari (hr.mono (by decide)) hg rfl T.g__law_gcd K__law_gcd.kp B__law_gcd pass0 (da_cons (de_call G__law_gcd mkF_ari (hr.mono (by decide)) hg rfl T.g__law_gcd K__law_gcd.kp B__law_gcd pass0 (da_cons (dn 0) (da_cons (dn 1) da_nil))) (da_cons (dn 2) da_nil)))) (dss_cons (ds_if (dt_cmp do_lt (dn 2) de_int (nomark _)) (dss_one (ds_set (i := 3) sc__law_cut.nd rfl (Or.inl rfl) (de_op do_sub de_int (dn 3)))) dss_nil) (dss_one (ds_ret (de_tup (da_cons (de_op do_div (dn 0) (dn 3)) (da_cons (de_op do_div (dn 1) (dn 3)) (da_cons (de_op do_div (dn 2) (dn 3)) da_nil))))))))⟩, F⟩
theorem sc__law_fraction : FnScope ["n", "m", "g"] ["n", "m"] (defScope s__law_fraction) := ⟨rfl, rfl, rfl, by decide +kernel, rfl, by decide +kernel, by decide +kernel⟩
theorem ok__law_fraction {P : Program} {w : World} {K : PySem.W.Frag} {mg : Str → Option Value} {base : Heap} (T : Txt K mg) (TT : TabsOk tfs K mg base) (BB : BigOk P base) :
    ∃ fd, FnG P w K mg base CX0 36 (He.ga K "_law_fraction") fd ["n", "m"] (spF K 2 F__law_fraction) ∧ FunD K "_law_fraction" "_law_fraction" (defArgs s__law_fraction) (defBody s__law_fraction) (defScope s__law_fraction) [] [] (He.ga K "_law_fraction") fd := by
  obtain ⟨fd, F⟩ := T.f__law_fraction
  obtain ⟨fd__law_gcd, G__law_gcd, K__law_gcd⟩ := ok__law_gcd (P := P) (w := w) (base := base) T TT BB
  have B__law_gcd := K__law_gcd.bindsN (ps := ["a", "b"]) fun _ _ _ _ _ _ us hl => match us, hl with | [_, _], _ => rfl
  refine ⟨fd, fn_F F sc__law_fraction rfl rfl fun cdv A outer s H E p hr hg => ⟨_, (dss_cons (ds_set (i := 2) sc__law_fraction.nd rfl (Or.inl rfl) (de_call G__law_gcd mkF_ari (hr.mono (by decide)) hg rfl T.g__law_gcd K__law_gcd.kp B__law_gcd pass0 (da_cons (dn 0) (da_cons (dn 1) da_nil)))) (dss_cons (ds_if (dt_cmp do_lt (dn 1) de_int (nomark _)) (dss_one (ds_set (i := 2) sc__law_fraction.nd rfl (Or.inl rfl) (de_op do_sub de_int (dn 2)))) dss_nil) (dss_one (ds_ret (de_tup (da_cons (de_op do_div (dn 0) (dn 2)) (da_cons (de_op do_div (dn 1) (dn 2)) da_nil)))))))⟩, F⟩
theorem sc_less : FnScope ["x", "y"] ["x", "y"] (defScope s_less) := ⟨rfl, rfl, rfl, by decide +kernel, rfl, by decide +kernel, by decide +kernel⟩
theorem ok_less {P : Program} {w : World} {K : PySem.W.Frag} {mg : Str → Option Value} {base : Heap} (T : Txt K mg) (TT : TabsOk tfs K mg base) (BB : BigOk P base) :
    ∃ fd, FnG P w K mg base CX0 37 (He.ga K "less") fd ["x", "y"] (spF K 2 F_less) ∧ FunD K "less" "less" (defArgs s_less) (defBody s_less) (defScope s_less) [] [] (He.ga K "less") fd := by
  obtain ⟨fd, F⟩ := T.f_less
  obtain ⟨fd_fraction_less, G_fraction_less, K_fraction_less⟩ := ok_fraction_less (P := P) (w := w) (base := base) T TT BB
  have B_fraction_less := K_fraction_less.bindsN (ps := ["x", "y"]) fun _ _ _ _ _ _ us hl => match us, hl with | [_, _], _ => rfl
  refine ⟨fd, fn_F F sc_less rfl rfl fun cdv A outer s H E p hr hg => ⟨_, (dss_one (ds_ret (de_tup (da_cons (de_call G_fraction_less mkF_ari (hr.mono (by decide)) hg rfl T.g_fraction_less K_fraction_less.kp B_fraction_less pass0 (da_cons (de_ix do_ix (dn 0) de_int (fun _ _ => rfl)) (da_cons (de_ix do_ix (dn 1) de_int (fun _ _ => rfl)) da_nil))) (da_cons (de_call G_fraction_less mkF_ari (hr.mono (by decide)) hg rfl T.g_fraction_less K_fraction_less.kp B_fraction_less pass0 (da_cons (de_ix do_ix (dn 0) de_int (fun _ _ => rfl)) (da_cons (de_ix do_ix (dn 1) de_int (fun _ _ => rfl)) da_nil))) da_nil)))))⟩, F⟩
theorem sc_times : FnScope ["x", "y", "a", "p", "b", "q", "c", "r", "d", "s"] ["x", "y"] (defScope s_times) := ⟨rfl, rfl, rfl, by decide +kernel, rfl, by decide +kernel, by decide +kernel⟩
theorem ok_times {P : Program} {w : World} {K : PySem.W.Frag} {mg : Str → Option Value} {base : Heap} (T : Txt K mg) (TT : TabsOk tfs K mg base) (BB : BigOk P base) :
    ∃ fd, FnG P w K mg base CX0 37 (He.ga K "times") fd ["x", "y"] (spF K 2 F_times) ∧ FunD K "times" "times" (defArgs s_times) (defBody s_times) (defScope s_times) [] [] (He.ga K "times") fd := by
  obtain ⟨fd, F⟩ := T.f_times
  obtain ⟨fd_number_from, G_number_from, K_number_from⟩ := ok_number_from (P := P) (w := w) (base := base) T TT BB
  have B_number_from := K_number_from.bindsN (ps := ["x", "y", "m"]) fun _ _ _ _ _ _ us hl => match us, hl with | [_, _, _], _ => rfl
  refine ⟨fd, fn_F F sc_times rfl rfl fun cdv A outer s H E p hr hg => ⟨_, (dss_cons (ds_asg (dn 0) (dv_tup rfl (dvs_cons (dv_tup rfl (dvs_cons (dv_name (i := 2) sc_times.nd rfl (Or.inl rfl)) (dvs_cons (dv_name (i := 3) sc_times.nd rfl (Or.inl rfl)) dvs_nil))) (dvs_cons (dv_tup rfl (dvs_cons (dv_name (i := 4) sc_times.nd rfl (Or.inl rfl)) (dvs_cons (dv_name (i := 5) sc_times.nd rfl (Or.inl rfl)) dvs_nil))) dvs_nil)))) (dss_cons (ds_asg (dn 1) (dv_tup rfl (dvs_cons (dv_tup rfl (dvs_cons (dv_name (i := 6) sc_times.nd rfl (Or.inl rfl)) (dvs_cons (dv_name (i := 7) sc_times.nd rfl (Or.inl rfl)) dvs_nil))) (dvs_cons (dv_tup rfl (dvs_cons (dv_name (i := 8) sc_times.nd rfl (Or.inl rfl)) (dvs_cons (dv_name (i := 9) sc_times.nd rfl (Or.inl rfl)) dvs_nil))) dvs_nil)))) (dss_cons (ds_asg (de_tup (da_cons (de_op do_mul (dn 2) (dn 5)) (da_cons (de_op do_mul (dn 4) (dn 3)) (da_cons (de_op do_mul (dn 6) (dn 9)) (da_cons (de_op do_mul (dn 8) (dn 7)) da_nil))))) (dv_tup rfl (dvs_cons (dv_name (i := 2) sc_times.nd rfl (Or.inl rfl)) (dvs_cons (dv_name (i := 4) sc_times.nd rfl (Or.inl rfl)) (dvs_cons (dv_name (i := 6) sc_times.nd rfl (Or.inl rfl)) (dvs_cons (dv_name (i := 8) sc_times.nd rfl (Or.inl rfl)) dvs_nil)))))) (dss_one (ds_ret (de_call G_number_from mkF_ari (hr.mono (by decide)) hg rfl T.g_number_from K_number_from.kp B_number_from pass0 (da_cons (de_op do_sub (de_op do_mul (dn 2) (dn 6)) (de_op do_mul (dn 4) (dn 8))) (da_cons (de_op do_add (de_op do_mul (dn 2) (dn 8)) (de_op do_mul (dn 4) (dn 6))) (da_cons (de_op do_mul (de_op do_mul (de_op do_mul (dn 3) (dn 5)) (dn 7)) (dn 9)) da_nil)))))))))⟩, F⟩
theorem sc_scaled : FnScope ["x", "fraction"] ["x", "fraction"] (defScope s_scaled) := ⟨rfl, rfl, rfl, by decide +kernel, rfl, by decide +kernel, by decide +kernel⟩
theorem ok_scaled {P : Program} {w : World} {K : PySem.W.Frag} {mg : Str → Option Value} {base : Heap} (T : Txt K mg) (TT : TabsOk tfs K mg base) (BB : BigOk P base) :
    ∃ fd, FnG P w K mg base CX0 37 (He.ga K "scaled") fd ["x", "fraction"] (spF K 2 F_scaled) ∧ FunD K "scaled" "scaled" (defArgs s_scaled) (defBody s_scaled) (defScope s_scaled) [] [] (He.ga K "scaled") fd := by
  obtain ⟨fd, F⟩ := T.f_scaled
  obtain ⟨fd_fraction_times, G_fraction_times, K_fraction_times⟩ := ok_fraction_times (P := P) (w := w) (base := base) T TT BB
  have B_fraction_times := K_fraction_times.bindsN (ps := ["x", "y"]) fun _ _ _ _ _ _ us hl => match us, hl with | [_, _], _ => rfl
  refine ⟨fd, fn_F F sc_scaled rfl rfl fun cdv A outer s H E p hr hg => ⟨_, (dss_one (ds_ret (de_tup (da_cons (de_call G_fraction_times mkF_ari (hr.mono (by decide)) hg rfl T.g_fraction_times K_fraction_times.kp B_fraction_times pass0 (da_cons (de_ix do_ix (dn 0) de_int (fun _ _ => rfl)) (da_cons (dn 1) da_nil))) (da_cons (de_call G_fraction_times mkF_ari (hr.mono (by decide)) hg rfl T.g_fraction_times K_fraction_times.kp B_fraction_times pass0 (da_cons (de_ix do_ix (dn 0) de_int (fun _ _ => rfl)) (da_cons (dn 1) da_nil))) da_nil)))))⟩, F⟩
theorem sc_is_number : FnScope ["value"] ["value"] (defScope s_is_number) := ⟨rfl, rfl, rfl, by decide +kernel, rfl, by decide +kernel, by decide +kernel⟩
theorem ok_is_number {P : Program} {w : World} {K : PySem.W.Frag} {mg : Str → Option Value} {base : Heap} (T : Txt K mg) (TT : TabsOk tfs K mg base) (BB : BigOk P base) :
    ∃ fd, FnG P w K mg base CX0 37 (He.ga K "is_number") fd ["value"] (spF K 1 F_is_number) ∧ FunD K "is_number" "is_number" (defArgs s_is_number) (defBody s_is_number) (defScope s_is_number) [] [] (He.ga K "is_number") fd := by
  obtain ⟨fd, F⟩ := T.f_is_number
  obtain ⟨fd_is_fraction, G_is_fraction, K_is_fraction⟩ := ok_is_fraction (P := P) (w := w) (base := base) T TT BB
  have B_is_fraction := K_is_fraction.bindsN (ps := ["value"]) fun _ _ _ _ _ _ us hl => match us, hl with | [_], _ => rfl
  refine ⟨fd, fn_F F sc_is_number rfl rfl fun cdv A outer s H E p hr hg => ⟨_, (dss_one (ds_ret (de_and (de_isi kit_tuple rfl T.b_isinstance (by decide +kernel) (dn 0) (pe_bltn (v := .ty "tuple") rfl T.b_tuple (by decide +kernel) rfl)) (de_and (de_cmp (do_eq hr.units) (de_cb db_len rfl T.b_len (by decide +kernel) (da_cons (dn 0) da_nil)) de_int (nomark _)) (de_and (de_call G_is_fraction mkF_ari (hr.mono (by decide)) hg rfl T.g_is_fraction K_is_fraction.kp B_is_fraction pass0 (da_cons (de_ix do_ix (dn 0) de_int (fun _ _ => rfl)) da_nil)) (de_one (de_call G_is_fraction mkF_ari (hr.mono (by decide)) hg rfl T.g_is_fraction K_is_fraction.kp B_is_fraction pass0 (da_cons (de_ix do_ix (dn 0) de_int (fun _ _ => rfl)) da_nil))))))))⟩, F⟩
theorem sc__law_drawn : FnScope ["pail", "top", "low", "a", "b"] ["pail", "top", "low"] (defScope s__law_drawn) := ⟨rfl, rfl, rfl, by decide +kernel, rfl, by decide +kernel, by decide +kernel⟩
theorem ok__law_drawn {P : Program} {w : World} {K : PySem.W.Frag} {mg : Str → Option Value} {base : Heap} (T : Txt K mg) (TT : TabsOk tfs K mg base) (BB : BigOk P base) :
    ∃ fd, FnG P w K mg base CX0 37 (He.ga K "_law_drawn") fd ["pail", "top", "low"] (spQ K 3 F__law_drawn) ∧ FunD K "_law_drawn" "_law_drawn" (defArgs s__law_drawn) (defBody s__law_drawn) (defScope s__law_drawn) [] [] (He.ga K "_law_drawn") fd := by
  obtain ⟨fd, F⟩ := T.f__law_drawn
  obtain ⟨fd__law_cut, G__law_cut, K__law_cut⟩ := ok__law_cut (P := P) (w := w) (base := base) T TT BB
  obtain ⟨fd__law_dip, G__law_dip, K__law_dip⟩ := ok__law_dip (P := P) (w := w) (base := base) T TT BB
  have B__law_cut := K__law_cut.bindsN (ps := ["a", "b", "d"]) fun _ _ _ _ _ _ us hl => match us, hl with | [_, _, _], _ => rfl
  have B__law_dip := K__law_dip.bindsN (ps := ["pail", "many"]) fun _ _ _ _ _ _ us hl => match us, hl with | [_, _], _ => rfl
  refine ⟨fd, fn_Q F sc__law_drawn rfl rfl fun cdv A outer s H E a hr hg => ⟨_, (dss_cons (ds_par (i := 3) (j := 4) rfl sc__law_drawn.nd rfl rfl (by decide) rfl rfl (da_cons (de_op do_sub (de_callQ G__law_dip mkQ_ari (hr.mono (by decide)) hg rfl T.g__law_dip K__law_dip.kp B__law_dip pass0 (pv 0) (da_cons (de_op do_add (de_op do_mul de_int (dn 1)) de_int) da_nil)) (dn 1)) (da_cons (de_op do_sub (de_callQ G__law_dip mkQ_ari (hr.mono (by decide)) hg rfl T.g__law_dip K__law_dip.kp B__law_dip pass0 (pv 0) (da_cons (de_op do_add (de_op do_mul de_int (dn 1)) de_int) da_nil)) (dn 1)) da_nil)) rfl) (dss_cons (ds_if (dt_cmp (do_eq hr.units) (de_callQ G__law_dip mkQ_ari (hr.mono (by decide)) hg rfl T.g__law_dip K__law_dip.kp B__law_dip pass0 (pv 0) (da_cons de_int da_nil)) de_int (nomark _)) (dss_one (ds_set (i := 4) sc__law_drawn.nd rfl (Or.inl rfl) de_int)) dss_nil) (dss_one (ds_ret (de_call G__law_cut mkF_ari (hr.mono (by decide)) hg rfl T.g__law_cut K__law_cut.kp B__law_cut pass0 (da_cons (dn 3) (da_cons (dn 4) (da_cons (de_op do_add de_int (de_callQ G__law_dip mkQ_ari (hr.mono (by decide)) hg rfl T.g__law_dip K__law_dip.kp B__law_dip pass0 (pv 0) (da_cons (dn 2) da_nil))) da_nil))))))))⟩, F⟩
theorem sc__law_add : FnScope ["x", "y"] ["x", "y"] (defScope s__law_add) := ⟨rfl, rfl, rfl, by decide +kernel, rfl, by decide +kernel, by decide +kernel⟩
theorem ok__law_add {P : Program} {w : World} {K : PySem.W.Frag} {mg : Str → Option Value} {base : Heap} (T : Txt K mg) (TT : TabsOk tfs K mg base) (BB : BigOk P base) :
    ∃ fd, FnG P w K mg base CX0 37 (He.ga K "_law_add") fd ["x", "y"] (spF K 2 F__law_add) ∧ FunD K "_law_add" "_law_add" (defArgs s__law_add) (defBody s__law_add) (defScope s__law_add) [] [] (He.ga K "_law_add") fd := by
  obtain ⟨fd, F⟩ := T.f__law_add
  obtain ⟨fd__law_cut, G__law_cut, K__law_cut⟩ := ok__law_cut (P := P) (w := w) (base := base) T TT BB
  have B__law_cut := K__law_cut.bindsN (ps := ["a", "b", "d"]) fun _ _ _ _ _ _ us hl => match us, hl with | [_, _, _], _ => rfl
  refine ⟨fd, fn_F F sc__law_add rfl rfl fun cdv A outer s H E p hr hg => ⟨_, (dss_one (ds_ret (de_call G__law_cut mkF_ari (hr.mono (by decide)) hg rfl T.g__law_cut K__law_cut.kp B__law_cut pass0 (da_cons (de_op do_add (de_op do_mul (de_ix do_ix (dn 0) de_int (fun _ _ => rfl)) (de_ix do_ix (dn 1) de_int (fun _ _ => rfl))) (de_op do_mul (de_ix do_ix (dn 1) de_int (fun _ _ => rfl)) (de_ix do_ix (dn 0) de_int (fun _ _ => rfl)))) (da_cons (de_op do_add (de_op do_mul (de_ix do_ix (dn 0) de_int (fun _ _ => rfl)) (de_ix do_ix (dn 1) de_int (fun _ _ => rfl))) (de_op do_mul (de_ix do_ix (dn 1) de_int (fun _ _ => rfl)) (de_ix do_ix (dn 0) de_int (fun _ _ => rfl)))) (da_cons (de_op do_mul (de_ix do_ix (dn 0) de_int (fun _ _ => rfl)) (de_ix do_ix (dn 1) de_int (fun _ _ => rfl))) da_nil))))))⟩, F⟩
theorem sc__law_times : FnScope ["x", "y"] ["x", "y"] (defScope s__law_times) := ⟨rfl, rfl, rfl, by decide +kernel, rfl, by decide +kernel, by decide +kernel⟩
theorem ok__law_times {P : Program} {w : World} {K : PySem.W.Frag} {mg : Str → Option Value} {base : Heap} (T : Txt K mg) (TT : TabsOk tfs K mg base) (BB : BigOk P base) :
    ∃ fd, FnG P w K mg base CX0 37 (He.ga K "_law_times") fd ["x", "y"] (spF K 2 F__law_times) ∧ FunD K "_law_times" "_law_times" (defArgs s__law_times) (defBody s__law_times) (defScope s__law_times) [] [] (He.ga K "_law_times") fd := by
  obtain ⟨fd, F⟩ := T.f__law_times
  obtain ⟨fd__law_cut, G__law_cut, K__law_cut⟩ := ok__law_cut (P := P) (w := w) (base := base) T TT BB
  have B__law_cut := K__law_cut.bindsN (ps := ["a", "b", "d"]) fun _ _ _ _ _ _ us hl => match us, hl with | [_, _, _], _ => rfl
  refine ⟨fd, fn_F F sc__law_times rfl rfl fun cdv A outer s H E p hr hg => ⟨_, (dss_one (ds_ret (de_call G__law_cut mkF_ari (hr.mono (by decide)) hg rfl T.g__law_cut K__law_cut.kp B__law_cut pass0 (da_cons (de_op do_sub (de_op do_mul (de_ix do_ix (dn 0) de_int (fun _ _ => rfl)) (de_ix do_ix (dn 1) de_int (fun _ _ => rfl))) (de_op do_mul (de_ix do_ix (dn 0) de_int (fun _ _ => rfl)) (de_ix do_ix (dn 1) de_int (fun _ _ => rfl)))) (da_cons (de_op do_add (de_op do_mul (de_ix do_ix (dn 0) de_int (fun _ _ => rfl)) (de_ix do_ix (dn 1) de_int (fun _ _ => rfl))) (de_op do_mul (de_ix do_ix (dn 0) de_int (fun _ _ => rfl)) (de_ix do_ix (dn 1) de_int (fun _ _ => rfl)))) (da_cons (de_op do_mul (de_ix do_ix (dn 0) de_int (fun _ _ => rfl)) (de_ix do_ix (dn 1) de_int (fun _ _ => rfl))) da_nil))))))⟩, F⟩
theorem sc__law_row_times : FnScope ["one", "two", "whole", "down", "row", "low", "each", "many", "left", "right", "j", "k", "a", "b", "c", "d"] ["one", "two"] (defScope s__law_row_times) := ⟨rfl, rfl, rfl, by decide +kernel, rfl, by decide +kernel, by decide +kernel⟩
theorem ok__law_row_times {P : Program} {w : World} {K : PySem.W.Frag} {mg : Str → Option Value} {base : Heap} (T : Txt K mg) (TT : TabsOk tfs K mg base) (BB : BigOk P base) :
    ∃ fd, FnG P w K mg base CX0 37 (He.ga K "_law_row_times") fd ["one", "two"] (spF K 2 F__law_row_times) ∧ FunD K "_law_row_times" "_law_row_times" (defArgs s__law_row_times) (defBody s__law_row_times) (defScope s__law_row_times) [] [] (He.ga K "_law_row_times") fd := by
  obtain ⟨fd, F⟩ := T.f__law_row_times
  obtain ⟨fd__law_trim, G__law_trim, K__law_trim⟩ := ok__law_trim (P := P) (w := w) (base := base) T TT BB
  obtain ⟨fd__law_cut, G__law_cut, K__law_cut⟩ := ok__law_cut (P := P) (w := w) (base := base) T TT BB
  obtain ⟨fd__law_gcd, G__law_gcd, K__law_gcd⟩ := ok__law_gcd (P := P) (w := w) (base := base) T TT BB
  have B__law_trim := K__law_trim.bindsN (ps := ["row"]) fun _ _ _ _ _ _ us hl => match us, hl with | [_], _ => rfl
  have B__law_cut := K__law_cut.bindsN (ps := ["a", "b", "d"]) fun _ _ _ _ _ _ us hl => match us, hl with | [_, _, _], _ => rfl
  have B__law_gcd := K__law_gcd.bindsN (ps := ["a", "b"]) fun _ _ _ _ _ _ us hl => match us, hl with | [_, _], _ => rfl
  refine ⟨fd, fn_F F sc__law_row_times rfl rfl fun cdv A outer s H E p hr hg => ⟨_, (dss_cons (ds_asgM (i := 2) (k := 3) (by decide) (dx_m (dm_lst da_nil)) (dx_d de_int) (dv_tup rfl (dvs_cons (dv_name (i := 2) sc__law_row_times.nd rfl (Or.inl rfl)) (dvs_cons (dv_name (i := 3) sc__law_row_times.nd rfl (Or.inr rfl)) dvs_nil)))) (dss_cons (ds_for PassesOwn.never rfl (di_seq (de_of (dm_lst (da_cons (dn 0) (da_cons (dn 1) da_nil))))) (dv_name (i := 4) sc__law_row_times.nd rfl (Or.inl rfl)) (dss_cons (ds_set (i := 5) sc__law_row_times.nd rfl (Or.inr rfl) de_int) (dss_cons (ds_for PassesOwn.never rfl (di_seq (dn 4)) (dv_name (i := 6) sc__law_row_times.nd rfl (Or.inl rfl)) (dss_one (ds_set (i := 5) sc__law_row_times.nd rfl (Or.inr rfl) (de_op do_mul (de_op do_div (dn 5) (de_call G__law_gcd mkF_ari (hr.mono (by decide)) hg rfl T.g__law_gcd K__law_gcd.kp B__law_gcd pass0 (da_cons (dn 5) (da_cons (de_ix do_ix (dn 6) de_int (fun _ _ => rfl)) da_nil)))) (de_ix do_ix (dn 6) de_int (fun _ _ => rfl)))))) (dss_cons (ds_app (i := 2) rfl (by first | exact Or.inl rfl | exact Or.inr (Or.inl rfl)) (de_of (dm_lc (te := (tTup (tCons (tOp (rOr rMul rMulS) (tOp (rIx2 K) (tVar 6) (tC (.int 0))) (tOp rDiv (tVar 5) (tOp (rIx2 K) (tVar 6) (tC (.int 2))))) (tCons (tOp (rOr rMul rMulS) (tOp (rIx2 K) (tVar 6) (tC (.int 1))) (tOp rDiv (tVar 5) (tOp (rIx2 K) (tVar 6) (tC (.int 2))))) tNil)))) (tt := tYes) (g := (gName 6)) s (own := [("each", 6)]) rfl sc__law_row_times.nd (DI.x (di_seq (dn 4))) (blkOk_by (own := [("each", 6)]) (N := ["one", "two", "whole", "down", "row", "low", "each", "many", "left", "right", "j", "k", "a", "b", "c", "d"]) (sc := defScope s__law_row_times) (by decide +kernel)) rfl (fun _ _ _ _ _ => (dv_name (i := 6) sc__law_row_times.nd rfl (Or.inl rfl))) (fun _ _ _ _ _ => dts_nil) (fun _ _ _ _ _ => (de_tup (da_cons (de_op do_mul (de_ix do_ix (dn 6) de_int (fun _ _ => rfl)) (de_op do_div (dn 5) (de_ix do_ix (dn 6) de_int (fun _ _ => rfl)))) (da_cons (de_op do_mul (de_ix do_ix (dn 6) de_int (fun _ _ => rfl)) (de_op do_div (dn 5) (de_ix do_ix (dn 6) de_int (fun _ _ => rfl)))) da_nil))))))) (dss_one (ds_set (i := 3) sc__law_row_times.nd rfl (Or.inr rfl) (de_op do_mul (dn 3) (dn 5)))))))) (dss_cons (ds_set (i := 7) sc__law_row_times.nd rfl (Or.inl rfl) (de_cb (db_max rfl) rfl T.b_max (by decide +kernel) (da_cons de_int (da_cons (de_op do_sub (de_op do_add (de_cb db_len rfl T.b_len (by decide +kernel) (da_cons (dn 0) da_nil)) (de_cb db_len rfl T.b_len (by decide +kernel) (da_cons (dn 1) da_nil))) de_int) da_nil)))) (dss_cons (ds_asgM (i := 8) (k := 9) (by decide) (dx_m (dm_rep (dm_lst (da_cons de_int da_nil)) (dn 7))) (dx_m (dm_rep (dm_lst (da_cons de_int da_nil)) (dn 7))) (dv_tup rfl (dvs_cons (dv_name (i := 8) sc__law_row_times.nd rfl (Or.inr rfl)) (dvs_cons (dv_name (i := 9) sc__law_row_times.nd rfl (Or.inr rfl)) dvs_nil)))) (dss_cons (ds_for PassesOwn.never rfl (di_range1 rfl T.b_range (da_cons (de_cb db_len rfl T.b_len (by decide +kernel) (da_cons (dn 0) da_nil)) da_nil)) (dv_name (i := 10) sc__law_row_times.nd rfl (Or.inl rfl)) (dss_one (ds_for PassesOwn.never rfl (di_range1 rfl T.b_range (da_cons (de_cb db_len rfl T.b_len (by decide +kernel) (da_cons (dn 1) da_nil)) da_nil)) (dv_name (i := 11) sc__law_row_times.nd rfl (Or.inl rfl)) (dss_cons (ds_asg (de_ix do_ix (de_ixV (i := 2) rfl (by first | exact Or.inl rfl | exact Or.inr (Or.inl rfl) | exact Or.inr (Or.inr rfl)) de_int (fun _ _ => rfl)) (dn 10) (fun _ _ => rfl)) (dv_tup rfl (dvs_cons (dv_name (i := 12) sc__law_row_times.nd rfl (Or.inl rfl)) (dvs_cons (dv_name (i := 13) sc__law_row_times.nd rfl (Or.inl rfl)) dvs_nil)))) (dss_cons (ds_asg (de_ix do_ix (de_ixV (i := 2) rfl (by first | exact Or.inl rfl | exact Or.inr (Or.inl rfl) | exact Or.inr (Or.inr rfl)) de_int (fun _ _ => rfl)) (dn 11) (fun _ _ => rfl)) (dv_tup rfl (dvs_cons (dv_name (i := 14) sc__law_row_times.nd rfl (Or.inl rfl)) (dvs_cons (dv_name (i := 15) sc__law_row_times.nd rfl (Or.inl rfl)) dvs_nil)))) (dss_cons (ds_setI (i := 8) rfl (by first | exact Or.inl rfl | exact Or.inr (Or.inl rfl)) (de_op do_sub (de_op do_add (de_ixV (i := 8) rfl (by first | exact Or.inl rfl | exact Or.inr (Or.inl rfl) | exact Or.inr (Or.inr rfl)) (de_op do_add (dn 10) (dn 11)) (fun _ _ => rfl)) (de_op do_mul (dn 12) (dn 14))) (de_op do_mul (dn 13) (dn 15))) (de_op do_add (dn 10) (dn 11))) (dss_one (ds_setI (i := 9) rfl (by first | exact Or.inl rfl | exact Or.inr (Or.inl rfl)) (de_op do_add (de_op do_add (de_ixV (i := 9) rfl (by first | exact Or.inl rfl | exact Or.inr (Or.inl rfl) | exact Or.inr (Or.inr rfl)) (de_op do_add (dn 10) (dn 11)) (fun _ _ => rfl)) (de_op do_mul (dn 12) (dn 15))) (de_op do_mul (dn 13) (dn 14))) (de_op do_add (dn 10) (dn 11)))))))))) (dss_one (ds_ret (de_call G__law_trim mkF_ari (hr.mono (by decide)) hg rfl T.g__law_trim K__law_trim.kp B__law_trim pass0 (da_cons (de_of (dm_lc (te := (tCall (spF K 3 F__law_cut) [] (fun _ _ _ => False) (tCons (tOp (rIx2 K) (tVar 8) (tVar 11)) (tCons (tOp (rIx2 K) (tVar 9) (tVar 11)) (tCons (tVar 3) tNil))))) (tt := tYes) (g := (gName 11)) s (own := [("k", 11)]) rfl sc__law_row_times.nd (DI.x (di_range1 rfl T.b_range (da_cons (dn 7) da_nil))) (blkOk_by (own := [("k", 11)]) (N := ["one", "two", "whole", "down", "row", "low", "each", "many", "left", "right", "j", "k", "a", "b", "c", "d"]) (sc := defScope s__law_row_times) (by decide +kernel)) rfl (fun _ _ _ _ _ => (dv_name (i := 11) sc__law_row_times.nd rfl (Or.inl rfl))) (fun _ _ _ _ _ => dts_nil) (fun _ _ _ _ _ => (de_call G__law_cut mkF_ari (hr.mono (by decide)) hg rfl T.g__law_cut K__law_cut.kp B__law_cut pass0 (da_cons (de_ixV (i := 8) rfl (by first | exact Or.inl rfl | exact Or.inr (Or.inl rfl) | exact Or.inr (Or.inr rfl)) (dn 11) (fun _ _ => rfl)) (da_cons (de_ixV (i := 9) rfl (by first | exact Or.inl rfl | exact Or.inr (Or.inl rfl) | exact Or.inr (Or.inr rfl)) (dn 11) (fun _ _ => rfl)) (da_cons (dn 3) da_nil))))))) da_nil)))))))))⟩, F⟩
theorem sc__law_told : FnScope ["x"] ["x"] (defScope s__law_told) := ⟨rfl, rfl, rfl, by decide +kernel, rfl, by decide +kernel, by decide +kernel⟩
theorem ok__law_told {P : Program} {w : World} {K : PySem.W.Frag} {mg : Str → Option Value} {base : Heap} (T : Txt K mg) (TT : TabsOk tfs K mg base) (BB : BigOk P base) :
    ∃ fd, FnG P w K mg base CX0 37 (He.ga K "_law_told") fd ["x"] (spF K 1 F__law_told) ∧ FunD K "_law_told" "_law_told" (defArgs s__law_told) (defBody s__law_told) (defScope s__law_told) [] [] (He.ga K "_law_told") fd := by
  obtain ⟨fd, F⟩ := T.f__law_told
  obtain ⟨fd__law_fraction, G__law_fraction, K__law_fraction⟩ := ok__law_fraction (P := P) (w := w) (base := base) T TT BB
  have B__law_fraction := K__law_fraction.bindsN (ps := ["n", "m"]) fun _ _ _ _ _ _ us hl => match us, hl with | [_, _], _ => rfl
  refine ⟨fd, fn_F F sc__law_told rfl rfl fun cdv A outer s H E p hr hg => ⟨_, (dss_one (ds_ret (de_tup (da_cons (de_call G__law_fraction mkF_ari (hr.mono (by decide)) hg rfl T.g__law_fraction K__law_fraction.kp B__law_fraction pass0 (da_cons (de_ix do_ix (dn 0) de_int (fun _ _ => rfl)) (da_cons (de_ix do_ix (dn 0) de_int (fun _ _ => rfl)) da_nil))) (da_cons (de_call G__law_fraction mkF_ari (hr.mono (by decide)) hg rfl T.g__law_fraction K__law_fraction.kp B__law_fraction pass0 (da_cons (de_ix do_ix (dn 0) de_int (fun _ _ => rfl)) (da_cons (de_ix do_ix (dn 0) de_int (fun _ _ => rfl)) da_nil))) da_nil)))))⟩, F⟩
theorem sc__law_over : FnScope ["x", "y", "down"] ["x", "y"] (defScope s__law_over) := ⟨rfl, rfl, rfl, by decide +kernel, rfl, by decide +kernel, by decide +kernel⟩
theorem ok__law_over {P : Program} {w : World} {K : PySem.W.Frag} {mg : Str → Option Value} {base : Heap} (T : Txt K mg) (TT : TabsOk tfs K mg base) (BB : BigOk P base) :
    ∃ fd, FnG P w K mg base CX0 37 (He.ga K "_law_over") fd ["x", "y"] (spF K 2 F__law_over) ∧ FunD K "_law_over" "_law_over" (defArgs s__law_over) (defBody s__law_over) (defScope s__law_over) [] [] (He.ga K "_law_over") fd := by
  obtain ⟨fd, F⟩ := T.f__law_over
  obtain ⟨fd__law_cut, G__law_cut, K__law_cut⟩ := ok__law_cut (P := P) (w := w) (base := base) T TT BB
  have B__law_cut := K__law_cut.bindsN (ps := ["a", "b", "d"]) fun _ _ _ _ _ _ us hl => match us, hl with | [_, _, _], _ => rfl
  refine ⟨fd, fn_F F sc__law_over rfl rfl fun cdv A outer s H E p hr hg => ⟨_, (dss_cons (ds_set (i := 2) sc__law_over.nd rfl (Or.inl rfl) (de_op do_mul (de_ix do_ix (dn 0) de_int (fun _ _ => rfl)) (de_op do_add (de_op do_mul (de_ix do_ix (dn 1) de_int (fun _ _ => rfl)) (de_ix do_ix (dn 1) de_int (fun _ _ => rfl))) (de_op do_mul (de_ix do_ix (dn 1) de_int (fun _ _ => rfl)) (de_ix do_ix (dn 1) de_int (fun _ _ => rfl)))))) (dss_one (ds_ret (de_call G__law_cut mkF_ari (hr.mono (by decide)) hg rfl T.g__law_cut K__law_cut.kp B__law_cut pass0 (da_cons (de_op do_mul (de_op do_add (de_op do_mul (de_ix do_ix (dn 0) de_int (fun _ _ => rfl)) (de_ix do_ix (dn 1) de_int (fun _ _ => rfl))) (de_op do_mul (de_ix do_ix (dn 0) de_int (fun _ _ => rfl)) (de_ix do_ix (dn 1) de_int (fun _ _ => rfl)))) (de_ix do_ix (dn 1) de_int (fun _ _ => rfl))) (da_cons (de_op do_mul (de_op do_sub (de_op do_mul (de_ix do_ix (dn 0) de_int (fun _ _ => rfl)) (de_ix do_ix (dn 1) de_int (fun _ _ => rfl))) (de_op do_mul (de_ix do_ix (dn 0) de_int (fun _ _ => rfl)) (de_ix do_ix (dn 1) de_int (fun _ _ => rfl)))) (de_ix do_ix (dn 1) de_int (fun _ _ => rfl))) (da_cons (dn 2) da_nil)))))))⟩, F⟩
theorem sc_over : FnScope ["x", "y", "n", "m"] ["x", "y"] (defScope s_over) := ⟨rfl, rfl, rfl, by decide +kernel, rfl, by decide +kernel, by decide +kernel⟩
theorem ok_over {P : Program} {w : World} {K : PySem.W.Frag} {mg : Str → Option Value} {base : Heap} (T : Txt K mg) (TT : TabsOk tfs K mg base) (BB : BigOk P base) :
    ∃ fd, FnG P w K mg base CX0 38 (He.ga K "over") fd ["x", "y"] (spF K 2 F_over) ∧ FunD K "over" "over" (defArgs s_over) (defBody s_over) (defScope s_over) [] [] (He.ga K "over") fd := by
  obtain ⟨fd, F⟩ := T.f_over
  obtain ⟨fd_size_of, G_size_of, K_size_of⟩ := ok_size_of (P := P) (w := w) (base := base) T TT BB
  obtain ⟨fd_scaled, G_scaled, K_scaled⟩ := ok_scaled (P := P) (w := w) (base := base) T TT BB
  obtain ⟨fd_times, G_times, K_times⟩ := ok_times (P := P) (w := w) (base := base) T TT BB
  obtain ⟨fd_mirror, G_mirror, K_mirror⟩ := ok_mirror (P := P) (w := w) (base := base) T TT BB
  have B_size_of := K_size_of.bindsN (ps := ["x"]) fun _ _ _ _ _ _ us hl => match us, hl with | [_], _ => rfl
  have B_scaled := K_scaled.bindsN (ps := ["x", "fraction"]) fun _ _ _ _ _ _ us hl => match us, hl with | [_, _], _ => rfl
  have B_times := K_times.bindsN (ps := ["x", "y"]) fun _ _ _ _ _ _ us hl => match us, hl with | [_, _], _ => rfl
  have B_mirror := K_mirror.bindsN (ps := ["x"]) fun _ _ _ _ _ _ us hl => match us, hl with | [_], _ => rfl
  refine ⟨fd, fn_F F sc_over rfl rfl fun cdv A outer s H E p hr hg => ⟨_, (dss_cons (ds_asg (de_call G_size_of mkF_ari (hr.mono (by decide)) hg rfl T.g_size_of K_size_of.kp B_size_of pass0 (da_cons (dn 1) da_nil)) (dv_tup rfl (dvs_cons (dv_name (i := 2) sc_over.nd rfl (Or.inl rfl)) (dvs_cons (dv_name (i := 3) sc_over.nd rfl (Or.inl rfl)) dvs_nil)))) (dss_one (ds_ret (de_call G_scaled mkF_ari (hr.mono (by decide)) hg rfl T.g_scaled K_scaled.kp B_scaled pass0 (da_cons (de_call G_times mkF_ari (hr.mono (by decide)) hg rfl T.g_times K_times.kp B_times pass0 (da_cons (dn 0) (da_cons (de_call G_mirror mkF_ari (hr.mono (by decide)) hg rfl T.g_mirror K_mirror.kp B_mirror pass0 (da_cons (dn 1) da_nil)) da_nil))) (da_cons (de_tup (da_cons (dn 3) (da_cons (dn 2) da_nil))) da_nil))))))⟩, F⟩
theorem sc__law_row : FnScope ["pail", "most", "row", "k", "each"] ["pail", "most"] (defScope s__law_row) := ⟨rfl, rfl, rfl, by decide +kernel, rfl, by decide +kernel, by decide +kernel⟩
theorem ok__law_row {P : Program} {w : World} {K : PySem.W.Frag} {mg : Str → Option Value} {base : Heap} (T : Txt K mg) (TT : TabsOk tfs K mg base) (BB : BigOk P base) :
    ∃ fd, FnG P w K mg base CX0 38 (He.ga K "_law_row") fd ["pail", "most"] (spQ K 2 F__law_row) ∧ FunD K "_law_row" "_law_row" (defArgs s__law_row) (defBody s__law_row) (defScope s__law_row) [] [] (He.ga K "_law_row") fd := by
  obtain ⟨fd, F⟩ := T.f__law_row
  obtain ⟨fd__law_trim, G__law_trim, K__law_trim⟩ := ok__law_trim (P := P) (w := w) (base := base) T TT BB
  obtain ⟨fd__law_drawn, G__law_drawn, K__law_drawn⟩ := ok__law_drawn (P := P) (w := w) (base := base) T TT BB
  obtain ⟨fd__law_dip, G__law_dip, K__law_dip⟩ := ok__law_dip (P := P) (w := w) (base := base) T TT BB
  have B__law_trim := K__law_trim.bindsN (ps := ["row"]) fun _ _ _ _ _ _ us hl => match us, hl with | [_], _ => rfl
  have B__law_drawn := K__law_drawn.bindsN (ps := ["pail", "top", "low"]) fun _ _ _ _ _ _ us hl => match us, hl with | [_, _, _], _ => rfl
  have B__law_dip := K__law_dip.bindsN (ps := ["pail", "many"]) fun _ _ _ _ _ _ us hl => match us, hl with | [_, _], _ => rfl
  refine ⟨fd, fn_Q F sc__law_row rfl rfl fun cdv A outer s H E a hr hg => ⟨_, (dss_cons (ds_lcA (te := (tCall (spQ K 3 F__law_drawn) [] (fun _ _ _ => False) (tCons (tVar 0) (tCons (tC (.int 4)) (tCons (tC (.int 3)) tNil))))) (tt := tYes) (g := (gName 3)) s (i := 2) (own := [("k", 3)]) rfl sc__law_row.nd rfl rfl (sw_true rfl rfl rfl (by decide +kernel)) (DI.x (di_range1 rfl T.b_range (da_cons (de_callQ G__law_dip mkQ_ari (hr.mono (by decide)) hg rfl T.g__law_dip K__law_dip.kp B__law_dip pass0 (pv 0) (da_cons (de_op do_add (dn 1) de_int) da_nil)) da_nil))) (blkOk_by (own := [("k", 3)]) (N := ["pail", "most", "row", "k", "each"]) (sc := defScope s__law_row) (by decide +kernel)) rfl (fun _ _ _ _ _ => (dv_name (i := 3) sc__law_row.nd rfl (Or.inl rfl))) (fun _ _ _ _ _ => dts_nil) (fun _ _ _ _ _ => (de_callQ G__law_drawn mkQ_ari (hr.mono (by decide)) hg rfl T.g__law_drawn K__law_drawn.kp B__law_drawn pass0 (pv 0) (da_cons de_int (da_cons de_int da_nil))))) (dss_one (ds_ret (de_call G__law_trim mkF_ari (hr.mono (by decide)) hg rfl T.g__law_trim K__law_trim.kp B__law_trim pass0 (da_cons (de_of (dm_lc (te := (tIf (tTest (tOp (rOr rEq (rEqD K)) (tCall (spQ K 2 F__law_dip) [] (fun _ _ _ => False) (tCons (tVar 0) (tCons (tC (.int 5)) tNil))) (tC (.int 0)))) (tTup (tCons (tC (.int 0)) (tCons (tC (.int 0)) (tCons (tC (.int 1)) tNil)))) (tVar 4))) (tt := tYes) (g := (gName 4)) s (own := [("each", 4)]) rfl sc__law_row.nd (DI.x (di_seq (dn 2))) (blkOk_by (own := [("each", 4)]) (N := ["pail", "most", "row", "k", "each"]) (sc := defScope s__law_row) (by decide +kernel)) rfl (fun _ _ _ _ _ => (dv_name (i := 4) sc__law_row.nd rfl (Or.inl rfl))) (fun _ _ _ _ _ => dts_nil) (fun _ _ _ _ _ => (de_if (dt_cmp (do_eq hr.units) (de_callQ G__law_dip mkQ_ari (hr.mono (by decide)) hg rfl T.g__law_dip K__law_dip.kp B__law_dip pass0 (pv 0) (da_cons de_int da_nil)) de_int (nomark _)) (de_tup (da_cons de_int (da_cons de_int (da_cons de_int da_nil)))) (dn 4))))) da_nil)))))⟩, F⟩
theorem sc__law_row_sum : FnScope ["one", "two", "many", "long", "row", "k"] ["one", "two"] (defScope s__law_row_sum) := ⟨rfl, rfl, rfl, by decide +kernel, rfl, by decide +kernel, by decide +kernel⟩
theorem ok__law_row_sum {P : Program} {w : World} {K : PySem.W.Frag} {mg : Str → Option Value} {base : Heap} (T : Txt K mg) (TT : TabsOk tfs K mg base) (BB : BigOk P base) :
    ∃ fd, FnG P w K mg base CX0 38 (He.ga K "_law_row_sum") fd ["one", "two"] (spF K 2 F__law_row_sum) ∧ FunD K "_law_row_sum" "_law_row_sum" (defArgs s__law_row_sum) (defBody s__law_row_sum) (defScope s__law_row_sum) [] [] (He.ga K "_law_row_sum") fd := by
  obtain ⟨fd, F⟩ := T.f__law_row_sum
  obtain ⟨fd__law_trim, G__law_trim, K__law_trim⟩ := ok__law_trim (P := P) (w := w) (base := base) T TT BB
  obtain ⟨fd__law_add, G__law_add, K__law_add⟩ := ok__law_add (P := P) (w := w) (base := base) T TT BB
  have B__law_trim := K__law_trim.bindsN (ps := ["row"]) fun _ _ _ _ _ _ us hl => match us, hl with | [_], _ => rfl
  have B__law_add := K__law_add.bindsN (ps := ["x", "y"]) fun _ _ _ _ _ _ us hl => match us, hl with | [_, _], _ => rfl
  refine ⟨fd, fn_F F sc__law_row_sum rfl rfl fun cdv A outer s H E p hr hg => ⟨_, (dss_cons (ds_set (i := 2) sc__law_row_sum.nd rfl (Or.inr rfl) (de_cb (db_max rfl) rfl T.b_max (by decide +kernel) (da_cons (de_cb db_len rfl T.b_len (by decide +kernel) (da_cons (dn 0) da_nil)) (da_cons (de_cb db_len rfl T.b_len (by decide +kernel) (da_cons (dn 1) da_nil)) da_nil)))) (dss_cons (ds_set (i := 3) sc__law_row_sum.nd rfl (Or.inr rfl) (de_of (dm_lc (te := (tOp (rOr rAdd (rOr rAddS (rOr (rCatA K) (rCatS K)))) (tCB (rLstOf K) (tCons (tVar 4) tNil)) (tOp rRep (tLst (tCons (tTup (tCons (tC (.int 0)) (tCons (tC (.int 0)) (tCons (tC (.int 1)) tNil)))) tNil)) (tOp rSub (tVar 2) (tCB (rLenS K) (tCons (tVar 4) tNil)))))) (tt := tYes) (g := (gName 4)) s (own := [("row", 4)]) rfl sc__law_row_sum.nd (DI.x (di_seq (de_of (dm_lst (da_cons (dn 0) (da_cons (dn 1) da_nil)))))) (blkOk_by (own := [("row", 4)]) (N := ["one", "two", "many", "long", "row", "k"]) (sc := defScope s__law_row_sum) (by decide +kernel)) rfl (fun _ _ _ _ _ => (dv_name (i := 4) sc__law_row_sum.nd rfl (Or.inl rfl))) (fun _ _ _ _ _ => dts_nil) (fun _ _ _ _ _ => (de_op do_add (de_of (dm_list (dn 4) rfl T.b_list (by decide +kernel))) (de_of (dm_rep (dm_lst (da_cons (de_tup (da_cons de_int (da_cons de_int (da_cons de_int da_nil)))) da_nil)) (de_op do_sub (dn 2) (de_cb db_len rfl T.b_len (by decide +kernel) (da_cons (dn 4) da_nil)))))))))) (dss_one (ds_ret (de_call G__law_trim mkF_ari (hr.mono (by decide)) hg rfl T.g__law_trim K__law_trim.kp B__law_trim pass0 (da_cons (de_of (dm_lc (te := (tCall (spF K 2 F__law_add) [] (fun _ _ _ => False) (tCons (tOp (rIx2 K) (tOp (rIx2 K) (tVar 3) (tC (.int 0))) (tVar 5)) (tCons (tOp (rIx2 K) (tOp (rIx2 K) (tVar 3) (tC (.int 1))) (tVar 5)) tNil)))) (tt := tYes) (g := (gName 5)) s (own := [("k", 5)]) rfl sc__law_row_sum.nd (DI.x (di_range1 rfl T.b_range (da_cons (dn 2) da_nil))) (blkOk_by (own := [("k", 5)]) (N := ["one", "two", "many", "long", "row", "k"]) (sc := defScope s__law_row_sum) (by decide +kernel)) rfl (fun _ _ _ _ _ => (dv_name (i := 5) sc__law_row_sum.nd rfl (Or.inl rfl))) (fun _ _ _ _ _ => dts_nil) (fun _ _ _ _ _ => (de_call G__law_add mkF_ari (hr.mono (by decide)) hg rfl T.g__law_add K__law_add.kp B__law_add pass0 (da_cons (de_ix do_ix (de_ix do_ix (dn 3) de_int (fun _ _ => rfl)) (dn 5) (fun _ _ => rfl)) (da_cons (de_ix do_ix (de_ix do_ix (dn 3) de_int (fun _ _ => rfl)) (dn 5) (fun _ _ => rfl)) da_nil)))))) da_nil))))))⟩, F⟩
theorem sc__law_told_row : FnScope ["row", "each"] ["row"] (defScope s__law_told_row) := ⟨rfl, rfl, rfl, by decide +kernel, rfl, by decide +kernel, by decide +kernel⟩
theorem ok__law_told_row {P : Program} {w : World} {K : PySem.W.Frag} {mg : Str → Option Value} {base : Heap} (T : Txt K mg) (TT : TabsOk tfs K mg base) (BB : BigOk P base) :
    ∃ fd, FnG P w K mg base CX0 38 (He.ga K "_law_told_row") fd ["row"] (spF K 1 F__law_told_row) ∧ FunD K "_law_told_row" "_law_told_row" (defArgs s__law_told_row) (defBody s__law_told_row) (defScope s__law_told_row) [] [] (He.ga K "_law_told_row") fd := by
  obtain ⟨fd, F⟩ := T.f__law_told_row
  obtain ⟨fd__law_told, G__law_told, K__law_told⟩ := ok__law_told (P := P) (w := w) (base := base) T TT BB
  obtain ⟨fd__law_trim, G__law_trim, K__law_trim⟩ := ok__law_trim (P := P) (w := w) (base := base) T TT BB
  have B__law_told := K__law_told.bindsN (ps := ["x"]) fun _ _ _ _ _ _ us hl => match us, hl with | [_], _ => rfl
  have B__law_trim := K__law_trim.bindsN (ps := ["row"]) fun _ _ _ _ _ _ us hl => match us, hl with | [_], _ => rfl
  refine ⟨fd, fn_F F sc__law_told_row rfl rfl fun cdv A outer s H E p hr hg => ⟨_, (dss_one (ds_ret (de_cty db_tup rfl T.b_tuple (by decide +kernel) (da_cons (de_of (dm_lc (te := (tCall (spF K 1 F__law_told) [] (fun _ _ _ => False) (tCons (tVar 1) tNil))) (tt := tYes) (g := (gName 1)) s (own := [("each", 1)]) rfl sc__law_told_row.nd (DI.x (di_seq (de_call G__law_trim mkF_ari (hr.mono (by decide)) hg rfl T.g__law_trim K__law_trim.kp B__law_trim pass0 (da_cons (dn 0) da_nil)))) (blkOk_by (own := [("each", 1)]) (N := ["row", "each"]) (sc := defScope s__law_told_row) (by decide +kernel)) rfl (fun _ _ _ _ _ => (dv_name (i := 1) sc__law_told_row.nd rfl (Or.inl rfl))) (fun _ _ _ _ _ => dts_nil) (fun _ _ _ _ _ => (de_call G__law_told mkF_ari (hr.mono (by decide)) hg rfl T.g__law_told K__law_told.kp B__law_told pass0 (da_cons (dn 1) da_nil))))) da_nil))))⟩, F⟩
theorem sc__law_monic : FnScope ["roots", "found", "each"] ["roots"] (defScope s__law_monic) := ⟨rfl, rfl, rfl, by decide +kernel, rfl, by decide +kernel, by decide +kernel⟩
theorem ok__law_monic {P : Program} {w : World} {K : PySem.W.Frag} {mg : Str → Option Value} {base : Heap} (T : Txt K mg) (TT : TabsOk tfs K mg base) (BB : BigOk P base) :
    ∃ fd, FnG P w K mg base CX0 38 (He.ga K "_law_monic") fd ["roots"] (spF K 1 F__law_monic) ∧ FunD K "_law_monic" "_law_monic" (defArgs s__law_monic) (defBody s__law_monic) (defScope s__law_monic) [] [] (He.ga K "_law_monic") fd := by
  obtain ⟨fd, F⟩ := T.f__law_monic
  obtain ⟨fd__law_row_times, G__law_row_times, K__law_row_times⟩ := ok__law_row_times (P := P) (w := w) (base := base) T TT BB
  have B__law_row_times := K__law_row_times.bindsN (ps := ["one", "two"]) fun _ _ _ _ _ _ us hl => match us, hl with | [_, _], _ => rfl
  refine ⟨fd, fn_F F sc__law_monic rfl rfl fun cdv A outer s H E p hr hg => ⟨_, (dss_cons (ds_set (i := 1) sc__law_monic.nd rfl (Or.inl rfl) (de_of (dm_lst (da_cons (de_tup (da_cons de_int (da_cons de_int (da_cons de_int da_nil)))) da_nil)))) (dss_cons (ds_for PassesOwn.never rfl (di_seq (dn 0)) (dv_name (i := 2) sc__law_monic.nd rfl (Or.inl rfl)) (dss_one (ds_set (i := 1) sc__law_monic.nd rfl (Or.inl rfl) (de_call G__law_row_times mkF_ari (hr.mono (by decide)) hg rfl T.g__law_row_times K__law_row_times.kp B__law_row_times pass0 (da_cons (dn 1) (da_cons (de_of (dm_lst (da_cons (de_tup (da_cons (de_op do_sub de_int (de_ix do_ix (dn 2) de_int (fun _ _ => rfl))) (da_cons (de_op do_sub de_int (de_ix do_ix (dn 2) de_int (fun _ _ => rfl))) (da_cons (de_ix do_ix (dn 2) de_int (fun _ _ => rfl)) da_nil)))) (da_cons (de_tup (da_cons de_int (da_cons de_int (da_cons de_int da_nil)))) da_nil)))) da_nil)))))) (dss_one (ds_ret (dn 1)))))⟩, F⟩
theorem sc__law_scaled : FnScope ["row", "x", "each"] ["row", "x"] (defScope s__law_scaled) := ⟨rfl, rfl, rfl, by decide +kernel, rfl, by decide +kernel, by decide +kernel⟩
theorem ok__law_scaled {P : Program} {w : World} {K : PySem.W.Frag} {mg : Str → Option Value} {base : Heap} (T : Txt K mg) (TT : TabsOk tfs K mg base) (BB : BigOk P base) :
    ∃ fd, FnG P w K mg base CX0 38 (He.ga K "_law_scaled") fd ["row", "x"] (spF K 2 F__law_scaled) ∧ FunD K "_law_scaled" "_law_scaled" (defArgs s__law_scaled) (defBody s__law_scaled) (defScope s__law_scaled) [] [] (He.ga K "_law_scaled") fd := by
  obtain ⟨fd, F⟩ := T.f__law_scaled
  obtain ⟨fd__law_times, G__law_times, K__law_times⟩ := ok__law_times (P := P) (w := w) (base := base) T TT BB
  have B__law_times := K__law_times.bindsN (ps := ["x", "y"]) fun _ _ _ _ _ _ us hl => match us, hl with | [_, _], _ => rfl
  refine ⟨fd, fn_F F sc__law_scaled rfl rfl fun cdv A outer s H E p hr hg => ⟨_, (dss_one (ds_ret (de_of (dm_lc (te := (tCall (spF K 2 F__law_times) [] (fun _ _ _ => False) (tCons (tVar 2) (tCons (tVar 1) tNil)))) (tt := tYes) (g := (gName 2)) s (own := [("each", 2)]) rfl sc__law_scaled.nd (DI.x (di_seq (dn 0))) (blkOk_by (own := [("each", 2)]) (N := ["row", "x", "each"]) (sc := defScope s__law_scaled) (by decide +kernel)) rfl (fun _ _ _ _ _ => (dv_name (i := 2) sc__law_scaled.nd rfl (Or.inl rfl))) (fun _ _ _ _ _ => dts_nil) (fun _ _ _ _ _ => (de_call G__law_times mkF_ari (hr.mono (by decide)) hg rfl T.g__law_times K__law_times.kp B__law_times pass0 (da_cons (dn 2) (da_cons (dn 1) da_nil))))))))⟩, F⟩
theorem sc__law_many : FnScope ["pail", "x"] ["pail"] (defScope s__law_many) := ⟨rfl, rfl, rfl, by decide +kernel, rfl, by decide +kernel, by decide +kernel⟩
theorem ok__law_many {P : Program} {w : World} {K : PySem.W.Frag} {mg : Str → Option Value} {base : Heap} (T : Txt K mg) (TT : TabsOk tfs K mg base) (BB : BigOk P base) :
    ∃ fd, FnG P w K mg base CX0 38 (He.ga K "_law_many") fd ["pail"] (spQ K 1 F__law_many) ∧ FunD K "_law_many" "_law_many" (defArgs s__law_many) (defBody s__law_many) (defScope s__law_many) [] [] (He.ga K "_law_many") fd := by
  obtain ⟨fd, F⟩ := T.f__law_many
  obtain ⟨fd__law_drawn, G__law_drawn, K__law_drawn⟩ := ok__law_drawn (P := P) (w := w) (base := base) T TT BB
  have B__law_drawn := K__law_drawn.bindsN (ps := ["pail", "top", "low"]) fun _ _ _ _ _ _ us hl => match us, hl with | [_, _, _], _ => rfl
  refine ⟨fd, fn_Q F sc__law_many rfl rfl fun cdv A outer s H E a hr hg => ⟨_, (dss_cons (ds_set (i := 1) sc__law_many.nd rfl (Or.inl rfl) (de_callQ G__law_drawn mkQ_ari (hr.mono (by decide)) hg rfl T.g__law_drawn K__law_drawn.kp B__law_drawn pass0 (pv 0) (da_cons de_int (da_cons de_int da_nil)))) (dss_one (ds_ret (de_if (dt_cmp (do_ne hr.units) (de_sl (dn 1) do_none (do_some de_int)) (de_tup (da_cons de_int (da_cons de_int da_nil))) (nomark _)) (dn 1) (de_tup (da_cons de_int (da_cons (de_op do_sub de_int de_int) (da_cons de_int da_nil))))))))⟩, F⟩
theorem sc__law_roots : FnScope ["pail", "found", "k", "x"] ["pail"] (defScope s__law_roots) := ⟨rfl, rfl, rfl, by decide +kernel, rfl, by decide +kernel, by decide +kernel⟩
theorem ok__law_roots {P : Program} {w : World} {K : PySem.W.Frag} {mg : Str → Option Value} {base : Heap} (T : Txt K mg) (TT : TabsOk tfs K mg base) (BB : BigOk P base) :
    ∃ fd, FnG P w K mg base CX0 38 (He.ga K "_law_roots") fd ["pail"] (spQ K 1 F__law_roots) ∧ FunD K "_law_roots" "_law_roots" (defArgs s__law_roots) (defBody s__law_roots) (defScope s__law_roots) [] [] (He.ga K "_law_roots") fd := by
  obtain ⟨fd, F⟩ := T.f__law_roots
  obtain ⟨fd__law_dip, G__law_dip, K__law_dip⟩ := ok__law_dip (P := P) (w := w) (base := base) T TT BB
  obtain ⟨fd__law_drawn, G__law_drawn, K__law_drawn⟩ := ok__law_drawn (P := P) (w := w) (base := base) T TT BB
  have B__law_dip := K__law_dip.bindsN (ps := ["pail", "many"]) fun _ _ _ _ _ _ us hl => match us, hl with | [_, _], _ => rfl
  have B__law_drawn := K__law_drawn.bindsN (ps := ["pail", "top", "low"]) fun _ _ _ _ _ _ us hl => match us, hl with | [_, _, _], _ => rfl
  refine ⟨fd, fn_Q F sc__law_roots rfl rfl fun cdv A outer s H E a hr hg => ⟨_, (dss_cons (ds_setM (i := 1) sc__law_roots.nd rfl (Or.inl rfl) (dm_lst da_nil)) (dss_cons (ds_for PassesOwn.never rfl (di_range1 rfl T.b_range (da_cons (de_callQ G__law_dip mkQ_ari (hr.mono (by decide)) hg rfl T.g__law_dip K__law_dip.kp B__law_dip pass0 (pv 0) (da_cons de_int da_nil)) da_nil)) (dv_name (i := 2) sc__law_roots.nd rfl (Or.inl rfl)) (dss_cons (ds_set (i := 3) sc__law_roots.nd rfl (Or.inl rfl) (de_callQ G__law_drawn mkQ_ari (hr.mono (by decide)) hg rfl T.g__law_drawn K__law_drawn.kp B__law_drawn pass0 (pv 0) (da_cons de_int (da_cons de_int da_nil)))) (dss_one (ds_if (dt_view 1 (dt_cmp (do_notIn (units65 hr)) (dn 3) (dn 1) rfl)) (dss_one (ds_app (i := 1) rfl (by first | exact Or.inl rfl | exact Or.inr (Or.inl rfl)) (dn 3))) dss_nil)))) (dss_froze 1 (dss_one (ds_ret (dn 1))))))⟩, F⟩
theorem sc_divided : FnScope ["row", "other", "rest", "turn", "many", "factor", "at", "step", "k", "each"] ["row", "other"] (defScope s_divided) := ⟨rfl, rfl, rfl, by decide +kernel, rfl, by decide +kernel, by decide +kernel⟩
theorem ok_divided {P : Program} {w : World} {K : PySem.W.Frag} {mg : Str → Option Value} {base : Heap} (T : Txt K mg) (TT : TabsOk tfs K mg base) (BB : BigOk P base) :
    ∃ fd, FnG P w K mg base CX0 39 (He.ga K "divided") fd ["row", "other"] (spF K 2 F_divided) ∧ FunD K "divided" "divided" (defArgs s_divided) (defBody s_divided) (defScope s_divided) [] [] (He.ga K "divided") fd := by
  obtain ⟨fd, F⟩ := T.f_divided
  obtain ⟨fd_over, G_over, K_over⟩ := ok_over (P := P) (w := w) (base := base) T TT BB
  obtain ⟨fd_times, G_times, K_times⟩ := ok_times (P := P) (w := w) (base := base) T TT BB
  obtain ⟨fd_trimmed, G_trimmed, K_trimmed⟩ := ok_trimmed (P := P) (w := w) (base := base) T TT BB
  obtain ⟨fd_less, G_less, K_less⟩ := ok_less (P := P) (w := w) (base := base) T TT BB
  have B_over := K_over.bindsN (ps := ["x", "y"]) fun _ _ _ _ _ _ us hl => match us, hl with | [_, _], _ => rfl
  have B_times := K_times.bindsN (ps := ["x", "y"]) fun _ _ _ _ _ _ us hl => match us, hl with | [_, _], _ => rfl
  have B_trimmed := K_trimmed.bindsN (ps := ["numbers"]) fun _ _ _ _ _ _ us hl => match us, hl with | [_], _ => rfl
  have B_less := K_less.bindsN (ps := ["x", "y"]) fun _ _ _ _ _ _ us hl => match us, hl with | [_, _], _ => rfl
  obtain ⟨⟨v_NOUGHT, u_NOUGHT, m_NOUGHT, r_NOUGHT, d_NOUGHT⟩⟩ := T.c_NOUGHT
  obtain ⟨⟨v_UNIT, u_UNIT, m_UNIT, r_UNIT, d_UNIT⟩⟩ := T.c_UNIT
  refine ⟨fd, fn_F F sc_divided rfl rfl fun cdv A outer s H E p hr hg => ⟨_, (dss_cons (ds_setM (i := 2) sc_divided.nd rfl (Or.inl rfl) (dm_list (dn 0) rfl T.b_list (by decide +kernel))) (dss_cons (ds_set (i := 3) sc_divided.nd rfl (Or.inl rfl) (de_call G_over mkF_ari (hr.mono (by decide)) hg rfl T.g_over K_over.kp B_over pass0 (da_cons (de_con rfl m_UNIT r_UNIT d_UNIT) (da_cons (de_ix do_ix (dn 1) (de_neg de_int) (fun _ _ => rfl)) da_nil)))) (dss_cons (ds_set (i := 4) sc_divided.nd rfl (Or.inl rfl) (de_cb (db_max rfl) rfl T.b_max (by decide +kernel) (da_cons de_int (da_cons (de_op do_add (de_op do_sub (de_cb db_len rfl T.b_len (by decide +kernel) (da_cons (dn 0) da_nil)) (de_cb db_len rfl T.b_len (by decide +kernel) (da_cons (dn 1) da_nil))) de_int) da_nil)))) (dss_cons (ds_setM (i := 5) sc_divided.nd rfl (Or.inl rfl) (dm_rep (dm_lst (da_cons (de_con rfl m_NOUGHT r_NOUGHT d_NOUGHT) da_nil)) (dn 4))) (dss_cons (ds_for PassesOwn.never rfl (di_revR1 rfl T.b_reversed rfl T.b_range (dn 4)) (dv_name (i := 6) sc_divided.nd rfl (Or.inl rfl)) (dss_cons (ds_set (i := 7) sc_divided.nd rfl (Or.inl rfl) (de_call G_times mkF_ari (hr.mono (by decide)) hg rfl T.g_times K_times.kp B_times pass0 (da_cons (de_ixV (i := 2) rfl (by first | exact Or.inl rfl | exact Or.inr (Or.inl rfl) | exact Or.inr (Or.inr rfl)) (de_op do_sub (de_op do_add (dn 6) (de_cb db_len rfl T.b_len (by decide +kernel) (da_cons (dn 1) da_nil))) de_int) (fun _ _ => rfl)) (da_cons (dn 3) da_nil)))) (dss_cons (ds_setI (i := 5) rfl (by first | exact Or.inl rfl | exact Or.inr (Or.inl rfl)) (dn 7) (dn 6)) (dss_one (ds_if (dt_cmp (do_ne hr.units) (dn 7) (de_con rfl m_NOUGHT r_NOUGHT d_NOUGHT) (nomark _)) (dss_one (ds_for PassesOwn.never rfl (di_enumA rfl T.b_enumerate (da_cons (dn 1) da_nil)) (dv_tup rfl (dvs_cons (dv_name (i := 8) sc_divided.nd rfl (Or.inl rfl)) (dvs_cons (dv_name (i := 9) sc_divided.nd rfl (Or.inl rfl)) dvs_nil))) (dss_one (ds_setI (i := 2) rfl (by first | exact Or.inl rfl | exact Or.inr (Or.inl rfl)) (de_call G_less mkF_ari (hr.mono (by decide)) hg rfl T.g_less K_less.kp B_less pass0 (da_cons (de_ixV (i := 2) rfl (by first | exact Or.inl rfl | exact Or.inr (Or.inl rfl) | exact Or.inr (Or.inr rfl)) (de_op do_add (dn 6) (dn 8)) (fun _ _ => rfl)) (da_cons (de_call G_times mkF_ari (hr.mono (by decide)) hg rfl T.g_times K_times.kp B_times pass0 (da_cons (dn 7) (da_cons (dn 9) da_nil))) da_nil))) (de_op do_add (dn 6) (dn 8)))))) dss_nil))))) (dss_froze 2 (dss_one (ds_ret (de_tup (da_cons (de_tupV (i := 5) rfl (by first | exact Or.inl rfl | exact Or.inr (Or.inl rfl)) rfl T.b_tuple (by decide +kernel)) (da_cons (de_call G_trimmed mkF_ari (hr.mono (by decide)) hg rfl T.g_trimmed K_trimmed.kp B_trimmed pass0 (da_cons (dn 2) da_nil)) da_nil)))))))))))⟩, F⟩
theorem sc_common : FnScope ["row", "other", "real", "turned", "_", "first", "second", "x", "y"] ["row", "other"] (defScope s_common) := ⟨rfl, rfl, rfl, by decide +kernel, rfl, by decide +kernel, by decide +kernel⟩
theorem ok_common {P : Program} {w : World} {K : PySem.W.Frag} {mg : Str → Option Value} {base : Heap} (T : Txt K mg) (TT : TabsOk tfs K mg base) (BB : BigOk P base) :
    ∃ fd, FnG P w K mg base CX0 40 (He.ga K "common") fd ["row", "other"] (spF K 2 F_common) ∧ FunD K "common" "common" (defArgs s_common) (defBody s_common) (defScope s_common) [] [] (He.ga K "common") fd := by
  obtain ⟨fd, F⟩ := T.f_common
  obtain ⟨fd_whole_parts, G_whole_parts, K_whole_parts⟩ := ok_whole_parts (P := P) (w := w) (base := base) T TT BB
  obtain ⟨fd_normed, G_normed, K_normed⟩ := ok_normed (P := P) (w := w) (base := base) T TT BB
  obtain ⟨fd_surely_apart, G_surely_apart, K_surely_apart⟩ := ok_surely_apart (P := P) (w := w) (base := base) T TT BB
  obtain ⟨fd_normed_rest, G_normed_rest, K_normed_rest⟩ := ok_normed_rest (P := P) (w := w) (base := base) T TT BB
  obtain ⟨fd_number_from, G_number_from, K_number_from⟩ := ok_number_from (P := P) (w := w) (base := base) T TT BB
  have B_whole_parts := K_whole_parts.bindsN (ps := ["row"]) fun _ _ _ _ _ _ us hl => match us, hl with | [_], _ => rfl
  have B_normed := K_normed.bindsN (ps := ["real", "turned"]) fun _ _ _ _ _ _ us hl => match us, hl with | [_, _], _ => rfl
  have B_surely_apart := K_surely_apart.bindsN (ps := ["first", "second"]) fun _ _ _ _ _ _ us hl => match us, hl with | [_, _], _ => rfl
  have B_normed_rest := K_normed_rest.bindsN (ps := ["first", "second"]) fun _ _ _ _ _ _ us hl => match us, hl with | [_, _], _ => rfl
  have B_number_from := K_number_from.bindsN (ps := ["x", "y", "m"]) fun _ _ _ _ _ _ us hl => match us, hl with | [_, _, _], _ => rfl
  obtain ⟨⟨v_UNIT, u_UNIT, m_UNIT, r_UNIT, d_UNIT⟩⟩ := T.c_UNIT
  refine ⟨fd, fn_FT F sc_common rfl rfl fun cdv A outer s H E p hr hg hc => ⟨_, (dss_cons (ds_asg (de_call G_whole_parts mkF_ari (hr.mono (by decide)) hg rfl T.g_whole_parts K_whole_parts.kp B_whole_parts pass0 (da_cons (dn 0) da_nil)) (dv_tup rfl (dvs_cons (dv_name (i := 2) sc_common.nd rfl (Or.inr rfl)) (dvs_cons (dv_name (i := 3) sc_common.nd rfl (Or.inl rfl)) (dvs_cons (dv_name (i := 4) sc_common.nd rfl (Or.inl rfl)) dvs_nil))))) (dss_cons (ds_set (i := 5) sc_common.nd rfl (Or.inl rfl) (de_call G_normed mkF_ari (hr.mono (by decide)) hg rfl T.g_normed K_normed.kp B_normed pass0 (da_cons (dn 2) (da_cons (dn 3) da_nil)))) (dss_cons (ds_asg (de_call G_whole_parts mkF_ari (hr.mono (by decide)) hg rfl T.g_whole_parts K_whole_parts.kp B_whole_parts pass0 (da_cons (dn 1) da_nil)) (dv_tup rfl (dvs_cons (dv_name (i := 2) sc_common.nd rfl (Or.inr rfl)) (dvs_cons (dv_name (i := 3) sc_common.nd rfl (Or.inl rfl)) (dvs_cons (dv_name (i := 4) sc_common.nd rfl (Or.inl rfl)) dvs_nil))))) (dss_cons (ds_set (i := 6) sc_common.nd rfl (Or.inl rfl) (de_call G_normed mkF_ari (hr.mono (by decide)) hg rfl T.g_normed K_normed.kp B_normed pass0 (da_cons (dn 2) (da_cons (dn 3) da_nil)))) (dss_cons (ds_if (dt_w (dw_and (dt_tru (de_ix do_ix (dn 5) de_int (fun _ _ => rfl))) (dw_and (dt_tru (de_ix do_ix (dn 6) de_int (fun _ _ => rfl))) (dw_and1 (dt_tru (de_call G_surely_apart mkF_ari (hr.mono (by decide)) hg rfl T.g_surely_apart K_surely_apart.kp B_surely_apart pass0 (da_cons (dn 5) (da_cons (dn 6) da_nil)))))))) (dss_one (ds_ret (de_tup (da_cons (de_con rfl m_UNIT r_UNIT d_UNIT) da_nil)))) dss_nil) (dss_cons (ds_while PassesOwn.never (dt_tru (de_ix do_ix (dn 6) de_int (fun _ _ => rfl))) (dss_one (ds_par (i := 5) (j := 6) rfl sc_common.nd rfl rfl (by decide) rfl rfl (da_cons (dn 6) (da_cons (de_call G_normed_rest mkF_ari (hr.mono (by decide)) hg rfl T.g_normed_rest K_normed_rest.kp B_normed_rest pass0 (da_cons (dn 5) (da_cons (dn 6) da_nil))) da_nil)) rfl))) (dss_cons (ds_asg (dn 5) (dv_tup rfl (dvs_cons (dv_name (i := 2) sc_common.nd rfl (Or.inr rfl)) (dvs_cons (dv_name (i := 3) sc_common.nd rfl (Or.inl rfl)) dvs_nil)))) (dss_one (ds_ret (de_tupX (k := 36) (te := (tCall (spF K 3 F_number_from) [] (fun _ _ _ => False) (tCons (tVar 7) (tCons (tVar 8) (tCons (tOp (rIx2 K) (tVar 2) (tUn (rU fun i => .int (-i)) (tC (.int 1)))) tNil))))) (tt := tYes) (gt := (gBoth K 2 (gCons (gName 7) (gCons (gName 8) gNil)))) (own := [("x", 7), ("y", 8)]) (hr.mono (by decide)) hg rfl T.b_tuple (by decide +kernel) ⟨(TT _ in_common).1, hc, (blkOk_by (own := [("x", 7), ("y", 8)]) (N := ["row", "other", "real", "turned", "_", "first", "second", "x", "y"]) (sc := defScope s_common) (by decide +kernel)), (by decide +kernel), sc_common.nd, (by decide +kernel), (by decide +kernel), rfl⟩ (TT _ in_common).2 rfl (DI.x (di_zip rfl T.b_zip (da_cons (dn 2) (da_cons (dn 3) da_nil)))) ⟨(fun _ _ _ _ _ _ _ hr hg => (dv_tup rfl (dvs_cons (dv_name (i := 7) sc_common.nd rfl (Or.inl rfl)) (dvs_cons (dv_name (i := 8) sc_common.nd rfl (Or.inl rfl)) dvs_nil)))), (fun _ _ _ _ _ _ _ hr hg => dts_nil), (fun _ _ _ _ _ _ _ hr hg => (de_call G_number_from mkF_ari (hr.mono (by decide)) hg rfl T.g_number_from K_number_from.kp B_number_from pass0 (da_cons (dn 7) (da_cons (dn 8) (da_cons (de_ix do_ix (dn 2) (de_neg de_int) (fun _ _ => rfl)) da_nil)))))⟩))))))))))⟩, F⟩
theorem sc_is_row : FnScope ["value", "each"] ["value"] (defScope s_is_row) := ⟨rfl, rfl, rfl, by decide +kernel, rfl, by decide +kernel, by decide +kernel⟩
theorem ok_is_row {P : Program} {w : World} {K : PySem.W.Frag} {mg : Str → Option Value} {base : Heap} (T : Txt K mg) (TT : TabsOk tfs K mg base) (BB : BigOk P base) :
    ∃ fd, FnG P w K mg base CX0 41 (He.ga K "is_row") fd ["value"] (spF K 1 F_is_row) ∧ FunD K "is_row" "is_row" (defArgs s_is_row) (defBody s_is_row) (defScope s_is_row) [] [] (He.ga K "is_row") fd := by
  obtain ⟨fd, F⟩ := T.f_is_row
  obtain ⟨fd_is_number, G_is_number, K_is_number⟩ := ok_is_number (P := P) (w := w) (base := base) T TT BB
  have B_is_number := K_is_number.bindsN (ps := ["value"]) fun _ _ _ _ _ _ us hl => match us, hl with | [_], _ => rfl
  obtain ⟨⟨v_NOUGHT, u_NOUGHT, m_NOUGHT, r_NOUGHT, d_NOUGHT⟩⟩ := T.c_NOUGHT
  refine ⟨fd, fn_FT F sc_is_row rfl rfl fun cdv A outer s H E p hr hg hc => ⟨_, (dss_cons (ds_if (dt_w (dw_or (dt_not (dt_tru (de_isi kit_tuple rfl T.b_isinstance (by decide +kernel) (dn 0) (pe_bltn (v := .ty "tuple") rfl T.b_tuple (by decide +kernel) rfl)))) (dw_or1 (dt_not (dt_tru (de_allX (k := 37) (te := (tCall (spF K 1 F_is_number) [] (fun _ _ _ => False) (tCons (tVar 1) tNil))) (tt := tYes) (gt := (gName 1)) (own := [("each", 1)]) (hr.mono (by decide)) hg rfl T.b_all (by decide +kernel) ⟨(TT _ in_is_row).1, hc, (blkOk_by (own := [("each", 1)]) (N := ["value", "each"]) (sc := defScope s_is_row) (by decide +kernel)), (by decide +kernel), sc_is_row.nd, (by decide +kernel), (by decide +kernel), rfl⟩ (TT _ in_is_row).2 rfl (DI.x (di_seq (dn 0))) ⟨(fun _ _ _ _ _ _ _ hr hg => (dv_name (i := 1) sc_is_row.nd rfl (Or.inl rfl))), (fun _ _ _ _ _ _ _ hr hg => dts_nil), (fun _ _ _ _ _ _ _ hr hg => (de_call G_is_number mkF_ari (hr.mono (by decide)) hg rfl T.g_is_number K_is_number.kp B_is_number pass0 (da_cons (dn 1) da_nil)))⟩)))))) (dss_one (ds_ret de_bl)) dss_nil) (dss_one (ds_ret (de_or (de_notT (dn 0)) (de_one (de_cmp (do_ne hr.units) (de_ix do_ix (dn 0) (de_neg de_int) (fun _ _ => rfl)) (de_con rfl m_NOUGHT r_NOUGHT d_NOUGHT) (nomark _)))))))⟩, F⟩
theorem sc_need_row : FnScope ["given"] ["given"] (defScope s_need_row) := ⟨rfl, rfl, rfl, by decide +kernel, rfl, by decide +kernel, by decide +kernel⟩
theorem ok_need_row {P : Program} {w : World} {K : PySem.W.Frag} {mg : Str → Option Value} {base : Heap} (T : Txt K mg) (TT : TabsOk tfs K mg base) (BB : BigOk P base) :
    ∃ fd, FnG P w K mg base CX0 42 (He.ga K "need_row") fd ["given"] (spF K 1 F_need_row) ∧ FunD K "need_row" "need_row" (defArgs s_need_row) (defBody s_need_row) (defScope s_need_row) [] [] (He.ga K "need_row") fd := by
  obtain ⟨fd, F⟩ := T.f_need_row
  obtain ⟨fd_is_row, G_is_row, K_is_row⟩ := ok_is_row (P := P) (w := w) (base := base) T TT BB
  have B_is_row := K_is_row.bindsN (ps := ["value"]) fun _ _ _ _ _ _ us hl => match us, hl with | [_], _ => rfl
  refine ⟨fd, fn_F F sc_need_row rfl rfl fun cdv A outer s H E p hr hg => ⟨_, (dss_one (ds_if (dt_not (dt_tru (de_call G_is_row mkF_ari (hr.mono (by decide)) hg rfl T.g_is_row K_is_row.kp B_is_row pass0 (da_cons (dn 0) da_nil)))) (dss_one ds_never) dss_nil))⟩, F⟩
theorem sc_row_divided : FnScope ["row", "other"] ["row", "other"] (defScope s_row_divided) := ⟨rfl, rfl, rfl, by decide +kernel, rfl, by decide +kernel, by decide +kernel⟩
theorem ok_row_divided {P : Program} {w : World} {K : PySem.W.Frag} {mg : Str → Option Value} {base : Heap} (T : Txt K mg) (TT : TabsOk tfs K mg base) (BB : BigOk P base) :
    ∃ fd, FnG P w K mg base CX0 43 (He.ga K "row_divided") fd ["row", "other"] (spF K 2 F_row_divided) ∧ FunD K "row_divided" "row_divided" (defArgs s_row_divided) (defBody s_row_divided) (defScope s_row_divided) [] [] (He.ga K "row_divided") fd := by
  obtain ⟨fd, F⟩ := T.f_row_divided
  obtain ⟨fd_need_row, G_need_row, K_need_row⟩ := ok_need_row (P := P) (w := w) (base := base) T TT BB
  obtain ⟨fd_divided, G_divided, K_divided⟩ := ok_divided (P := P) (w := w) (base := base) T TT BB
  have B_need_row := K_need_row.bindsN (ps := ["given"]) fun _ _ _ _ _ _ us hl => match us, hl with | [_], _ => rfl
  have B_divided := K_divided.bindsN (ps := ["row", "other"]) fun _ _ _ _ _ _ us hl => match us, hl with | [_, _], _ => rfl
  refine ⟨fd, fn_F F sc_row_divided rfl rfl fun cdv A outer s H E p hr hg => ⟨_, (dss_cons (ds_expr (de_call G_need_row mkF_ari (hr.mono (by decide)) hg rfl T.g_need_row K_need_row.kp B_need_row pass0 (da_cons (dn 0) da_nil))) (dss_cons (ds_expr (de_call G_need_row mkF_ari (hr.mono (by decide)) hg rfl T.g_need_row K_need_row.kp B_need_row pass0 (da_cons (dn 1) da_nil))) (dss_cons (ds_if (dt_not (dt_tru (dn 1))) (dss_one ds_never) dss_nil) (dss_one (ds_ret (de_call G_divided mkF_ari (hr.mono (by decide)) hg rfl T.g_divided K_divided.kp B_divided pass0 (da_cons (dn 0) (da_cons (dn 1) da_nil))))))))⟩, F⟩
theorem sc_row_common : FnScope ["row", "other"] ["row", "other"] (defScope s_row_common) := ⟨rfl, rfl, rfl, by decide +kernel, rfl, by decide +kernel, by decide +kernel⟩
theorem ok_row_common {P : Program} {w : World} {K : PySem.W.Frag} {mg : Str → Option Value} {base : Heap} (T : Txt K mg) (TT : TabsOk tfs K mg base) (BB : BigOk P base) :
    ∃ fd, FnG P w K mg base CX0 43 (He.ga K "row_common") fd ["row", "other"] (spF K 2 F_row_common) ∧ FunD K "row_common" "row_common" (defArgs s_row_common) (defBody s_row_common) (defScope s_row_common) [] [] (He.ga K "row_common") fd := by
  obtain ⟨fd, F⟩ := T.f_row_common
  obtain ⟨fd_need_row, G_need_row, K_need_row⟩ := ok_need_row (P := P) (w := w) (base := base) T TT BB
  obtain ⟨fd_common, G_common, K_common⟩ := ok_common (P := P) (w := w) (base := base) T TT BB
  have B_need_row := K_need_row.bindsN (ps := ["given"]) fun _ _ _ _ _ _ us hl => match us, hl with | [_], _ => rfl
  have B_common := K_common.bindsN (ps := ["row", "other"]) fun _ _ _ _ _ _ us hl => match us, hl with | [_, _], _ => rfl
  refine ⟨fd, fn_F F sc_row_common rfl rfl fun cdv A outer s H E p hr hg => ⟨_, (dss_cons (ds_expr (de_call G_need_row mkF_ari (hr.mono (by decide)) hg rfl T.g_need_row K_need_row.kp B_need_row pass0 (da_cons (dn 0) da_nil))) (dss_cons (ds_expr (de_call G_need_row mkF_ari (hr.mono (by decide)) hg rfl T.g_need_row K_need_row.kp B_need_row pass0 (da_cons (dn 1) da_nil))) (dss_one (ds_ret (de_call G_common mkF_ari (hr.mono (by decide)) hg rfl T.g_common K_common.kp B_common pass0 (da_cons (dn 0) (da_cons (dn 1) da_nil)))))))⟩, F⟩
theorem sc__law_divided : FnScope ["pail", "other", "factor", "rest", "row", "due", "first", "second"] ["pail"] (defScope s__law_divided) := ⟨rfl, rfl, rfl, by decide +kernel, rfl, by decide +kernel, by decide +kernel⟩
theorem ok__law_divided {P : Program} {w : World} {K : PySem.W.Frag} {mg : Str → Option Value} {base : Heap} (T : Txt K mg) (TT : TabsOk tfs K mg base) (BB : BigOk P base) :
    ∃ fd, FnG P w K mg base CX0 44 (He.ga K "_law_divided") fd ["pail"] (spQ K 1 F__law_divided) ∧ FunD K "_law_divided" "_law_divided" (defArgs s__law_divided) (defBody s__law_divided) (defScope s__law_divided) [] [] (He.ga K "_law_divided") fd := by
  obtain ⟨fd, F⟩ := T.f__law_divided
  obtain ⟨fd__law_trim, G__law_trim, K__law_trim⟩ := ok__law_trim (P := P) (w := w) (base := base) T TT BB
  obtain ⟨fd__law_row_sum, G__law_row_sum, K__law_row_sum⟩ := ok__law_row_sum (P := P) (w := w) (base := base) T TT BB
  obtain ⟨fd__law_row, G__law_row, K__law_row⟩ := ok__law_row (P := P) (w := w) (base := base) T TT BB
  obtain ⟨fd__law_row_times, G__law_row_times, K__law_row_times⟩ := ok__law_row_times (P := P) (w := w) (base := base) T TT BB
  obtain ⟨fd__law_told_row, G__law_told_row, K__law_told_row⟩ := ok__law_told_row (P := P) (w := w) (base := base) T TT BB
  obtain ⟨fd__law_many, G__law_many, K__law_many⟩ := ok__law_many (P := P) (w := w) (base := base) T TT BB
  obtain ⟨fd_row_divided, G_row_divided, K_row_divided⟩ := ok_row_divided (P := P) (w := w) (base := base) T TT BB
  have B__law_trim := K__law_trim.bindsN (ps := ["row"]) fun _ _ _ _ _ _ us hl => match us, hl with | [_], _ => rfl
  have B__law_row_sum := K__law_row_sum.bindsN (ps := ["one", "two"]) fun _ _ _ _ _ _ us hl => match us, hl with | [_, _], _ => rfl
  have B__law_row := K__law_row.bindsN (ps := ["pail", "most"]) fun _ _ _ _ _ _ us hl => match us, hl with | [_, _], _ => rfl
  have B__law_row_times := K__law_row_times.bindsN (ps := ["one", "two"]) fun _ _ _ _ _ _ us hl => match us, hl with | [_, _], _ => rfl
  have B__law_told_row := K__law_told_row.bindsN (ps := ["row"]) fun _ _ _ _ _ _ us hl => match us, hl with | [_], _ => rfl
  have B__law_many := K__law_many.bindsN (ps := ["pail"]) fun _ _ _ _ _ _ us hl => match us, hl with | [_], _ => rfl
  have B_row_divided := K_row_divided.bindsN (ps := ["row", "other"]) fun _ _ _ _ _ _ us hl => match us, hl with | [_, _], _ => rfl
  have KB_row_divided_other_row := kb_none (ps := ["row", "other"]) K_row_divided ["other", "row"] kp_2_10 kp_2_10_rel fun _ _ _ _ _ _ ws h1 => match ws, h1 with | [_, _], _ => rfl
  refine ⟨fd, fn_Q F sc__law_divided rfl rfl fun cdv A outer s H E a hr hg => ⟨_, (dss_cons (ds_set (i := 1) sc__law_divided.nd rfl (Or.inl rfl) (de_op do_add (de_callQ G__law_row mkQ_ari (hr.mono (by decide)) hg rfl T.g__law_row K__law_row.kp B__law_row pass0 (pv 0) (da_cons de_int da_nil)) (de_of (dm_lst (da_cons (de_callQ G__law_many mkQ_ari (hr.mono (by decide)) hg rfl T.g__law_many K__law_many.kp B__law_many pass0 (pv 0) da_nil) da_nil))))) (dss_cons (ds_par (i := 2) (j := 3) rfl sc__law_divided.nd rfl rfl (by decide) rfl rfl (da_cons (de_callQ G__law_row mkQ_ari (hr.mono (by decide)) hg rfl T.g__law_row K__law_row.kp B__law_row pass0 (pv 0) (da_cons de_int da_nil)) (da_cons (de_callQ G__law_row mkQ_ari (hr.mono (by decide)) hg rfl T.g__law_row K__law_row.kp B__law_row pass0 (pv 0) (da_cons de_int da_nil)) da_nil)) rfl) (dss_cons (ds_set (i := 3) sc__law_divided.nd rfl (Or.inl rfl) (de_call G__law_trim mkF_ari (hr.mono (by decide)) hg rfl T.g__law_trim K__law_trim.kp B__law_trim pass0 (da_cons (de_sl (dn 3) do_none (do_some (de_op do_sub (de_cb db_len rfl T.b_len (by decide +kernel) (da_cons (dn 1) da_nil)) de_int))) da_nil))) (dss_cons (ds_set (i := 4) sc__law_divided.nd rfl (Or.inl rfl) (de_call G__law_row_sum mkF_ari (hr.mono (by decide)) hg rfl T.g__law_row_sum K__law_row_sum.kp B__law_row_sum pass0 (da_cons (de_call G__law_row_times mkF_ari (hr.mono (by decide)) hg rfl T.g__law_row_times K__law_row_times.kp B__law_row_times pass0 (da_cons (dn 1) (da_cons (dn 2) da_nil))) (da_cons (dn 3) da_nil)))) (dss_cons (ds_set (i := 5) sc__law_divided.nd rfl (Or.inl rfl) (de_tup (da_cons (de_call G__law_told_row mkF_ari (hr.mono (by decide)) hg rfl T.g__law_told_row K__law_told_row.kp B__law_told_row pass0 (da_cons (dn 2) da_nil)) (da_cons (de_call G__law_told_row mkF_ari (hr.mono (by decide)) hg rfl T.g__law_told_row K__law_told_row.kp B__law_told_row pass0 (da_cons (dn 3) da_nil)) da_nil)))) (dss_cons (ds_par (i := 6) (j := 7) rfl sc__law_divided.nd rfl rfl (by decide) rfl rfl (da_cons (de_call G__law_told_row mkF_ari (hr.mono (by decide)) hg rfl T.g__law_told_row K__law_told_row.kp B__law_told_row pass0 (da_cons (dn 4) da_nil)) (da_cons (de_call G__law_told_row mkF_ari (hr.mono (by decide)) hg rfl T.g__law_told_row K__law_told_row.kp B__law_told_row pass0 (da_cons (dn 1) da_nil)) da_nil)) rfl) (dss_one (ds_ret (de_cmp (do_eq hr.units) (de_cb (db_repr hg hr.units) rfl T.b_repr (by decide +kernel) (da_cons (de_of (dm_lst (da_cons (de_call G_row_divided mkF_ari (hr.mono (by decide)) hg rfl T.g_row_divided K_row_divided.kp B_row_divided pass0 (da_cons (dn 6) (da_cons (dn 7) da_nil))) (da_cons (de_callK G_row_divided mkF_ari kp_2_10_dat (hr.mono (by decide)) hg rfl T.g_row_divided K_row_divided.kp KB_row_divided_other_row pass0 (dk_cons (dn 7) (dk_cons (dn 6) dk_nil))) da_nil)))) da_nil)) (de_cb (db_repr hg hr.units) rfl T.b_repr (by decide +kernel) (da_cons (de_of (dm_lst (da_cons (dn 5) (da_cons (dn 5) da_nil)))) da_nil)) (nomark _))))))))))⟩, F⟩
theorem sc__law_right : FnScope ["pail", "roots", "one", "two", "low", "common_v", "lead", "far", "left", "right", "first", "second", "a", "b", "due", "whole", "each", "k"] ["pail"] (defScope s__law_right) := ⟨rfl, rfl, rfl, by decide +kernel, rfl, by decide +kernel, by decide +kernel⟩
theorem ok__law_right {P : Program} {w : World} {K : PySem.W.Frag} {mg : Str → Option Value} {base : Heap} (T : Txt K mg) (TT : TabsOk tfs K mg base) (BB : BigOk P base) :
    ∃ fd, FnG P w K mg base CX0 45 (He.ga K "_law_right") fd ["pail"] (spQ K 1 F__law_right_6) ∧ FunD K "_law_right" "_law_right" (defArgs s__law_right) (defBody s__law_right) (defScope s__law_right) [] [] (He.ga K "_law_right") fd := by
  obtain ⟨fd, F⟩ := T.f__law_right
  obtain ⟨fd__law_roots, G__law_roots, K__law_roots⟩ := ok__law_roots (P := P) (w := w) (base := base) T TT BB
  obtain ⟨fd__law_monic, G__law_monic, K__law_monic⟩ := ok__law_monic (P := P) (w := w) (base := base) T TT BB
  obtain ⟨fd__law_scaled, G__law_scaled, K__law_scaled⟩ := ok__law_scaled (P := P) (w := w) (base := base) T TT BB
  obtain ⟨fd__law_told_row, G__law_told_row, K__law_told_row⟩ := ok__law_told_row (P := P) (w := w) (base := base) T TT BB
  obtain ⟨fd__law_divided, G__law_divided, K__law_divided⟩ := ok__law_divided (P := P) (w := w) (base := base) T TT BB
  obtain ⟨fd__law_spread, G__law_spread, K__law_spread⟩ := ok__law_spread (P := P) (w := w) (base := base) T TT BB
  obtain ⟨fd__law_many, G__law_many, K__law_many⟩ := ok__law_many (P := P) (w := w) (base := base) T TT BB
  obtain ⟨fd__law_row_times, G__law_row_times, K__law_row_times⟩ := ok__law_row_times (P := P) (w := w) (base := base) T TT BB
  obtain ⟨fd__law_dip, G__law_dip, K__law_dip⟩ := ok__law_dip (P := P) (w := w) (base := base) T TT BB
  obtain ⟨fd_row_divided, G_row_divided, K_row_divided⟩ := ok_row_divided (P := P) (w := w) (base := base) T TT BB
  obtain ⟨fd__law_over, G__law_over, K__law_over⟩ := ok__law_over (P := P) (w := w) (base := base) T TT BB
  obtain ⟨fd_row_common, G_row_common, K_row_common⟩ := ok_row_common (P := P) (w := w) (base := base) T TT BB
  have B__law_roots := K__law_roots.bindsN (ps := ["pail"]) fun _ _ _ _ _ _ us hl => match us, hl with | [_], _ => rfl
  have B__law_monic := K__law_monic.bindsN (ps := ["roots"]) fun _ _ _ _ _ _ us hl => match us, hl with | [_], _ => rfl
  have B__law_scaled := K__law_scaled.bindsN (ps := ["row", "x"]) fun _ _ _ _ _ _ us hl => match us, hl with | [_, _], _ => rfl
  have B__law_told_row := K__law_told_row.bindsN (ps := ["row"]) fun _ _ _ _ _ _ us hl => match us, hl with | [_], _ => rfl
  have B__law_divided := K__law_divided.bindsN (ps := ["pail"]) fun _ _ _ _ _ _ us hl => match us, hl with | [_], _ => rfl
  have B__law_spread := K__law_spread.bindsN (ps := ["roots", "times_v"]) fun _ _ _ _ _ _ us hl => match us, hl with | [_, _], _ => rfl
  have B__law_many := K__law_many.bindsN (ps := ["pail"]) fun _ _ _ _ _ _ us hl => match us, hl with | [_], _ => rfl
  have B__law_row_times := K__law_row_times.bindsN (ps := ["one", "two"]) fun _ _ _ _ _ _ us hl => match us, hl with | [_, _], _ => rfl
  have B__law_dip := K__law_dip.bindsN (ps := ["pail", "many"]) fun _ _ _ _ _ _ us hl => match us, hl with | [_, _], _ => rfl
  have B_row_divided := K_row_divided.bindsN (ps := ["row", "other"]) fun _ _ _ _ _ _ us hl => match us, hl with | [_, _], _ => rfl
  have B__law_over := K__law_over.bindsN (ps := ["x", "y"]) fun _ _ _ _ _ _ us hl => match us, hl with | [_, _], _ => rfl
  have B_row_common := K_row_common.bindsN (ps := ["row", "other"]) fun _ _ _ _ _ _ us hl => match us, hl with | [_, _], _ => rfl
  have KB_row_common_other_row := kb_none (ps := ["row", "other"]) K_row_common ["other", "row"] kp_2_10 kp_2_10_rel fun _ _ _ _ _ _ ws h1 => match ws, h1 with | [_, _], _ => rfl
  refine ⟨fd, fn_Q F sc__law_right rfl rfl fun cdv A outer s H E a hr hg => ⟨_, (dss_cons (ds_if (dt_not (dt_tru (de_callQ G__law_divided mkQ_ari (hr.mono (by decide)) hg rfl T.g__law_divided K__law_divided.kp B__law_divided pass0 (pv 0) da_nil))) (dss_one (ds_ret de_bl)) dss_nil) (dss_cons (ds_set (i := 1) sc__law_right.nd rfl (Or.inl rfl) (de_callQ G__law_roots mkQ_ari (hr.mono (by decide)) hg rfl T.g__law_roots K__law_roots.kp B__law_roots pass0 (pv 0) da_nil)) (dss_cons (ds_asg (de_tup (da_cons (de_of (dm_lc (te := (tCall (spQ K 2 F__law_dip) [] (fun _ _ _ => False) (tCons (tVar 0) (tCons (tC (.int 3)) tNil)))) (tt := tYes) (g := (gName 16)) s (own := [("each", 16)]) rfl sc__law_right.nd (DI.x (di_seq (dn 1))) (blkOk_by (own := [("each", 16)]) (N := ["pail", "roots", "one", "two", "low", "common_v", "lead", "far", "left", "right", "first", "second", "a", "b", "due", "whole", "each", "k"]) (sc := defScope s__law_right) (by decide +kernel)) rfl (fun _ _ _ _ _ => (dv_name (i := 16) sc__law_right.nd rfl (Or.inl rfl))) (fun _ _ _ _ _ => dts_nil) (fun _ _ _ _ _ => (de_callQ G__law_dip mkQ_ari (hr.mono (by decide)) hg rfl T.g__law_dip K__law_dip.kp B__law_dip pass0 (pv 0) (da_cons de_int da_nil))))) (da_cons (de_of (dm_lc (te := (tCall (spQ K 2 F__law_dip) [] (fun _ _ _ => False) (tCons (tVar 0) (tCons (tC (.int 3)) tNil)))) (tt := tYes) (g := (gName 16)) s (own := [("each", 16)]) rfl sc__law_right.nd (DI.x (di_seq (dn 1))) (blkOk_by (own := [("each", 16)]) (N := ["pail", "roots", "one", "two", "low", "common_v", "lead", "far", "left", "right", "first", "second", "a", "b", "due", "whole", "each", "k"]) (sc := defScope s__law_right) (by decide +kernel)) rfl (fun _ _ _ _ _ => (dv_name (i := 16) sc__law_right.nd rfl (Or.inl rfl))) (fun _ _ _ _ _ => dts_nil) (fun _ _ _ _ _ => (de_callQ G__law_dip mkQ_ari (hr.mono (by decide)) hg rfl T.g__law_dip K__law_dip.kp B__law_dip pass0 (pv 0) (da_cons de_int da_nil))))) da_nil))) (dv_tup rfl (dvs_cons (dv_name (i := 2) sc__law_right.nd rfl (Or.inr rfl)) (dvs_cons (dv_name (i := 3) sc__law_right.nd rfl (Or.inr rfl)) dvs_nil)))) (dss_cons (ds_set (i := 4) sc__law_right.nd rfl (Or.inr rfl) (de_of (dm_lc (te := (tCB rMin2 (tCons (tOp (rIx2 K) (tVar 2) (tVar 17)) (tCons (tOp (rIx2 K) (tVar 3) (tVar 17)) tNil)))) (tt := tYes) (g := (gName 17)) s (own := [("k", 17)]) rfl sc__law_right.nd (DI.x (di_range1 rfl T.b_range (da_cons (de_cb db_len rfl T.b_len (by decide +kernel) (da_cons (dn 1) da_nil)) da_nil))) (blkOk_by (own := [("k", 17)]) (N := ["pail", "roots", "one", "two", "low", "common_v", "lead", "far", "left", "right", "first", "second", "a", "b", "due", "whole", "each", "k"]) (sc := defScope s__law_right) (by decide +kernel)) rfl (fun _ _ _ _ _ => (dv_name (i := 17) sc__law_right.nd rfl (Or.inl rfl))) (fun _ _ _ _ _ => dts_nil) (fun _ _ _ _ _ => (de_cb (db_min rfl) rfl T.b_min (by decide +kernel) (da_cons (de_ix do_ix (dn 2) (dn 17) (fun _ _ => rfl)) (da_cons (de_ix do_ix (dn 3) (dn 17) (fun _ _ => rfl)) da_nil))))))) (dss_cons (ds_set (i := 5) sc__law_right.nd rfl (Or.inl rfl) (de_call G__law_monic mkF_ari (hr.mono (by decide)) hg rfl T.g__law_monic K__law_monic.kp B__law_monic pass0 (da_cons (de_call G__law_spread mkF_ari (hr.mono (by decide)) hg rfl T.g__law_spread K__law_spread.kp B__law_spread pass0 (da_cons (dn 1) (da_cons (dn 4) da_nil))) da_nil))) (dss_cons (ds_par (i := 6) (j := 7) rfl sc__law_right.nd rfl rfl (by decide) rfl rfl (da_cons (de_callQ G__law_many mkQ_ari (hr.mono (by decide)) hg rfl T.g__law_many K__law_many.kp B__law_many pass0 (pv 0) da_nil) (da_cons (de_callQ G__law_many mkQ_ari (hr.mono (by decide)) hg rfl T.g__law_many K__law_many.kp B__law_many pass0 (pv 0) da_nil) da_nil)) rfl) (dss_cons (ds_set (i := 8) sc__law_right.nd rfl (Or.inl rfl) (de_call G__law_scaled mkF_ari (hr.mono (by decide)) hg rfl T.g__law_scaled K__law_scaled.kp B__law_scaled pass0 (da_cons (de_call G__law_monic mkF_ari (hr.mono (by decide)) hg rfl T.g__law_monic K__law_monic.kp B__law_monic pass0 (da_cons (de_call G__law_spread mkF_ari (hr.mono (by decide)) hg rfl T.g__law_spread K__law_spread.kp B__law_spread pass0 (da_cons (dn 1) (da_cons (de_of (dm_lc (te := (tOp rSub (tOp (rIx2 K) (tVar 2) (tVar 17)) (tOp (rIx2 K) (tVar 4) (tVar 17)))) (tt := tYes) (g := (gName 17)) s (own := [("k", 17)]) rfl sc__law_right.nd (DI.x (di_range1 rfl T.b_range (da_cons (de_cb db_len rfl T.b_len (by decide +kernel) (da_cons (dn 1) da_nil)) da_nil))) (blkOk_by (own := [("k", 17)]) (N := ["pail", "roots", "one", "two", "low", "common_v", "lead", "far", "left", "right", "first", "second", "a", "b", "due", "whole", "each", "k"]) (sc := defScope s__law_right) (by decide +kernel)) rfl (fun _ _ _ _ _ => (dv_name (i := 17) sc__law_right.nd rfl (Or.inl rfl))) (fun _ _ _ _ _ => dts_nil) (fun _ _ _ _ _ => (de_op do_sub (de_ix do_ix (dn 2) (dn 17) (fun _ _ => rfl)) (de_ix do_ix (dn 4) (dn 17) (fun _ _ => rfl)))))) da_nil))) da_nil)) (da_cons (dn 6) da_nil)))) (dss_cons (ds_set (i := 9) sc__law_right.nd rfl (Or.inl rfl) (de_call G__law_scaled mkF_ari (hr.mono (by decide)) hg rfl T.g__law_scaled K__law_scaled.kp B__law_scaled pass0 (da_cons (de_call G__law_monic mkF_ari (hr.mono (by decide)) hg rfl T.g__law_monic K__law_monic.kp B__law_monic pass0 (da_cons (de_call G__law_spread mkF_ari (hr.mono (by decide)) hg rfl T.g__law_spread K__law_spread.kp B__law_spread pass0 (da_cons (dn 1) (da_cons (de_of (dm_lc (te := (tOp rSub (tOp (rIx2 K) (tVar 3) (tVar 17)) (tOp (rIx2 K) (tVar 4) (tVar 17)))) (tt := tYes) (g := (gName 17)) s (own := [("k", 17)]) rfl sc__law_right.nd (DI.x (di_range1 rfl T.b_range (da_cons (de_cb db_len rfl T.b_len (by decide +kernel) (da_cons (dn 1) da_nil)) da_nil))) (blkOk_by (own := [("k", 17)]) (N := ["pail", "roots", "one", "two", "low", "common_v", "lead", "far", "left", "right", "first", "second", "a", "b", "due", "whole", "each", "k"]) (sc := defScope s__law_right) (by decide +kernel)) rfl (fun _ _ _ _ _ => (dv_name (i := 17) sc__law_right.nd rfl (Or.inl rfl))) (fun _ _ _ _ _ => dts_nil) (fun _ _ _ _ _ => (de_op do_sub (de_ix do_ix (dn 3) (dn 17) (fun _ _ => rfl)) (de_ix do_ix (dn 4) (dn 17) (fun _ _ => rfl)))))) da_nil))) da_nil)) (da_cons (dn 7) da_nil)))) (dss_cons (ds_par (i := 10) (j := 11) rfl sc__law_right.nd rfl rfl (by decide) rfl rfl (da_cons (de_call G__law_row_times mkF_ari (hr.mono (by decide)) hg rfl T.g__law_row_times K__law_row_times.kp B__law_row_times pass0 (da_cons (dn 5) (da_cons (dn 8) da_nil))) (da_cons (de_call G__law_row_times mkF_ari (hr.mono (by decide)) hg rfl T.g__law_row_times K__law_row_times.kp B__law_row_times pass0 (da_cons (dn 5) (da_cons (dn 9) da_nil))) da_nil)) rfl) (dss_cons (ds_par3 (i := 12) (j := 13) (l := 14) rfl sc__law_right.nd rfl rfl rfl (by decide) (by decide) (by decide) rfl rfl rfl (da_cons (de_call G__law_told_row mkF_ari (hr.mono (by decide)) hg rfl T.g__law_told_row K__law_told_row.kp B__law_told_row pass0 (da_cons (dn 10) da_nil)) (da_cons (de_call G__law_told_row mkF_ari (hr.mono (by decide)) hg rfl T.g__law_told_row K__law_told_row.kp B__law_told_row pass0 (da_cons (dn 11) da_nil)) (da_cons (de_call G__law_told_row mkF_ari (hr.mono (by decide)) hg rfl T.g__law_told_row K__law_told_row.kp B__law_told_row pass0 (da_cons (dn 5) da_nil)) da_nil))) rfl) (dss_cons (ds_if (dt_cmp (do_ne hr.units) (de_cb (db_repr hg hr.units) rfl T.b_repr (by decide +kernel) (da_cons (de_of (dm_lst (da_cons (de_call G_row_common mkF_ari (hr.mono (by decide)) hg rfl T.g_row_common K_row_common.kp B_row_common pass0 (da_cons (dn 12) (da_cons (dn 13) da_nil))) (da_cons (de_callK G_row_common mkF_ari kp_2_10_dat (hr.mono (by decide)) hg rfl T.g_row_common K_row_common.kp KB_row_common_other_row pass0 (dk_cons (dn 12) (dk_cons (dn 13) dk_nil))) (da_cons (de_call G_row_divided mkF_ari (hr.mono (by decide)) hg rfl T.g_row_divided K_row_divided.kp B_row_divided pass0 (da_cons (dn 12) (da_cons (dn 14) da_nil))) da_nil))))) da_nil)) (de_cb (db_repr hg hr.units) rfl T.b_repr (by decide +kernel) (da_cons (de_of (dm_lst (da_cons (dn 14) (da_cons (dn 14) (da_cons (de_tup (da_cons (de_call G__law_told_row mkF_ari (hr.mono (by decide)) hg rfl T.g__law_told_row K__law_told_row.kp B__law_told_row pass0 (da_cons (dn 8) da_nil)) (da_cons (de_tup da_nil) da_nil))) da_nil))))) da_nil)) (nomark _)) (dss_one (ds_ret de_bl)) dss_nil) (dss_cons (ds_if (dt_cmp (do_ne hr.units) (de_cb (db_repr hg hr.units) rfl T.b_repr (by decide +kernel) (da_cons (de_call G_row_divided mkF_ari (hr.mono (by decide)) hg rfl T.g_row_divided K_row_divided.kp B_row_divided pass0 (da_cons (dn 13) (da_cons (de_call G_row_common mkF_ari (hr.mono (by decide)) hg rfl T.g_row_common K_row_common.kp B_row_common pass0 (da_cons (dn 12) (da_cons (dn 13) da_nil))) da_nil))) da_nil)) (de_cb (db_repr hg hr.units) rfl T.b_repr (by decide +kernel) (da_cons (de_tup (da_cons (de_call G__law_told_row mkF_ari (hr.mono (by decide)) hg rfl T.g__law_told_row K__law_told_row.kp B__law_told_row pass0 (da_cons (dn 9) da_nil)) (da_cons (de_tup da_nil) da_nil))) da_nil)) (nomark _)) (dss_one (ds_ret de_bl)) dss_nil) (dss_cons (ds_set (i := 15) sc__law_right.nd rfl (Or.inl rfl) (de_call G__law_told_row mkF_ari (hr.mono (by decide)) hg rfl T.g__law_told_row K__law_told_row.kp B__law_told_row pass0 (da_cons (de_call G__law_scaled mkF_ari (hr.mono (by decide)) hg rfl T.g__law_scaled K__law_scaled.kp B__law_scaled pass0 (da_cons (dn 10) (da_cons (de_call G__law_over mkF_ari (hr.mono (by decide)) hg rfl T.g__law_over K__law_over.kp B__law_over pass0 (da_cons (de_tup (da_cons de_int (da_cons de_int (da_cons de_int da_nil)))) (da_cons (dn 6) da_nil))) da_nil))) da_nil))) (dss_one (ds_ret (de_cmp (do_eq hr.units) (de_cb (db_repr hg hr.units) rfl T.b_repr (by decide +kernel) (da_cons (de_of (dm_lst (da_cons (de_call G_row_common mkF_ari (hr.mono (by decide)) hg rfl T.g_row_common K_row_common.kp B_row_common pass0 (da_cons (dn 12) (da_cons (de_tup da_nil) da_nil))) (da_cons (de_call G_row_common mkF_ari (hr.mono (by decide)) hg rfl T.g_row_common K_row_common.kp B_row_common pass0 (da_cons (de_tup da_nil) (da_cons (dn 12) da_nil))) (da_cons (de_call G_row_common mkF_ari (hr.mono (by decide)) hg rfl T.g_row_common K_row_common.kp B_row_common pass0 (da_cons (de_tup da_nil) (da_cons (de_tup da_nil) da_nil))) da_nil))))) da_nil)) (de_cb (db_repr hg hr.units) rfl T.b_repr (by decide +kernel) (da_cons (de_of (dm_lst (da_cons (dn 15) (da_cons (dn 15) (da_cons (de_tup da_nil) da_nil))))) da_nil)) (nomark _)))))))))))))))))⟩, F⟩
theorem sc_law : FnScope ["script", "turn"] ["script"] (defScope s_law) := ⟨rfl, rfl, rfl, by decide +kernel, rfl, by decide +kernel, by decide +kernel⟩
theorem ok_law {P : Program} {w : World} {K : PySem.W.Frag} {mg : Str → Option Value} {base : Heap} {fd : FuncData} (T : Txt K mg) (TT : TabsOk tfs K mg base) (BB : BigOk P base) (hlaw : ∀ ns : List Int, ns.length ≤ 63 → b_law_6 (ends [.list (ns.map .int)] 1) ⟨fun _ => False, fun d => d = .bool true, Nev, Nev⟩) (F : FunD K "law" "law" (defArgs s_law) (defBody s_law) (defScope s_law) [] [] (He.ga K "law") fd) :
    FnG P w K mg base CX0 46 (He.ga K "law") fd ["script"] (spLaw K) := by
  obtain ⟨fd__law_right, G__law_right, K__law_right⟩ := ok__law_right (P := P) (w := w) (base := base) T TT BB
  obtain ⟨fd__law_pail, G__law_pail, K__law_pail⟩ := ok__law_pail (P := P) (w := w) (base := base) T TT BB
  have B__law_right := K__law_right.bindsN (ps := ["pail"]) fun _ _ _ _ _ _ us hl => match us, hl with | [_], _ => rfl
  have B__law_pail := K__law_pail.bindsN (ps := ["script", "turn"]) fun _ _ _ _ _ _ us hl => match us, hl with | [_, _], _ => rfl
  refine fn_law F sc_law rfl rfl hlaw fun cdv A outer s H E hr hg => ⟨_, (dss_one (ds_ret (de_cb (db_all rfl) rfl T.b_all (by decide +kernel) (da_cons (de_of (dm_lc (te := (tCall (spQ K 1 F__law_right_6) [] (fun _ _ _ => False) (tCons (tCall (spPail K) [] (fun _ _ _ => False) (tCons (tVar 0) (tCons (tVar 1) tNil))) tNil))) (tt := tYes) (g := (gName 1)) s (own := [("turn", 1)]) rfl sc_law.nd (DI.x (di_range1 rfl T.b_range (da_cons (de_cb (db_max rfl) rfl T.b_max (by decide +kernel) (da_cons de_int (da_cons (de_cb (db_min rfl) rfl T.b_min (by decide +kernel) (da_cons (de_cb db_len rfl T.b_len (by decide +kernel) (da_cons (dn 0) da_nil)) (da_cons de_int da_nil))) da_nil))) da_nil))) (blkOk_by (own := [("turn", 1)]) (N := ["script", "turn"]) (sc := defScope s_law) (by decide +kernel)) rfl (fun _ _ _ _ _ => (dv_name (i := 1) sc_law.nd rfl (Or.inl rfl))) (fun _ _ _ _ _ => dts_nil) (fun _ _ _ _ _ => (de_turn G__law_right (hr.mono (by decide)) hg rfl T.g__law_right K__law_right.kp B__law_right pass0 G__law_pail (hr.mono (by decide)) rfl T.g__law_pail K__law_pail.kp B__law_pail pass0 (da_cons (dn 0) (da_cons (dn 1) da_nil)))))) da_nil))))⟩
end Rim
namespace Rim
open PySem PySem.Spec L2
theorem facts0 [Tabs] {P : Program} (hP : P.given.tree = none) {w : World} {K : PySem.W.Frag} {h : Heap} {mg : Str → Option Value} {f : Addr} (hTb : ∀ p ∈ tfs, Tabs.tb (He.cT K p).2) (hTo : ∀ a, Tabs.tb a → ∃ p ∈ tfs, a = (He.cT K p).2) (X : K.In h) (G : h.Ns mainGlobals mg) (hfa : mg ("law" : Str) = some (.ref f)) (c : He.SaysX fas fns [] tfs (exB2 cons imps dfts) w h K) :
    ∃ (fd : FuncData) (sp : Sp), (∀ (s : Shared) (v : Value), BindsTo s fd ⟨[v], []⟩ [("script", v)]) ∧
      (∀ (H : Hp) (a : Addr) (ns : List Int), ns.length ≤ 63 → (∀ p ∈ tfs.map (He.cT K), H p.2 = some (.tbl #[])) → SqL K H a (ns.map V.int) → sp [.ref a] H (fun v _ => v = .bl true) fun _ _ _ => False) ∧
        ∀ base : Heap, K.In base → base.Ns mainGlobals mg → (∀ p ∈ tfs.map (He.cT K), GxR.TabB base mg p.1 p.2) → base.NoSeer → base.NoLimit → FnG P w K mg base CX0 46 f fd ["script"] sp := by
  have T := txt_of X G c
  have e := hfa.symm.trans T.g_law
  cases e
  obtain ⟨fd, F⟩ := T.f_law
  have b := FunD.bindsA (ps := ["script"]) F fun _ _ _ _ _ _ us hl => match us, hl with | [_], _ => rfl
  exact ⟨fd, spLaw K, fun s v => b s [v] rfl, fun H a ns hl hH hS => ⟨rfl, a, ns, rfl, hS, hl, fun b hb => (by obtain ⟨p, hp, e⟩ := hTo b hb; exact ⟨#[], by rw [e]; exact hH _ (List.mem_map_of_mem hp), tabs_none⟩), fun _ => rfl⟩, fun base _ _ hT hs hl => ok_law T (fun p hp => ⟨hT _ (List.mem_map_of_mem hp), hTb p hp⟩) ⟨hs, hl, hP⟩ law_true_k05 F⟩
theorem facts {P : Program} (hP : P.given.tree = none) {w : World} {K : PySem.W.Frag} {h : Heap} {mg : Str → Option Value} {f : Addr} (X : K.In h) (G : h.Ns mainGlobals mg) (hfa : mg ("law" : Str) = some (.ref f)) (c : He.SaysX fas fns [] tfs (exB2 cons imps dfts) w h K) :
    ∃ (fd : FuncData) (sp : Sp), (∀ (s : Shared) (v : Value), BindsTo s fd ⟨[v], []⟩ [("script", v)]) ∧
      (∀ (H : Hp) (a : Addr) (ns : List Int), ns.length ≤ 63 → (∀ p ∈ tfs.map (He.cT K), H p.2 = some (.tbl #[])) → SqL K H a (ns.map V.int) → sp [.ref a] H (fun v _ => v = .bl true) fun _ _ _ => False) ∧
        ∀ base : Heap, K.In base → base.Ns mainGlobals mg → (∀ p ∈ tfs.map (He.cT K), GxR.TabB base mg p.1 p.2) → base.NoSeer → base.NoLimit → FnG P w K mg base CX0 46 f fd ["script"] sp :=
  @facts0 ⟨fun a => ∃ p ∈ tfs, a = (He.cT K p).2⟩ _ hP _ _ _ _ _ (fun p hp => ⟨p, hp, rfl⟩) (fun a h => h) X G hfa c
end Rim
open PySem PySem.W PySem.Calls PyProof.Rows
set_option maxRecDepth 100000 in
set_option maxHeartbeats 0 in
theorem PySem.Challenge.cw_withinrim_k05_whole_rows_divided_and_com_holds : PySem.Challenge.rw_withinrim_k05_whole_rows_divided_and_com.Holds := by
  w_on; o_law
  refine HandSHeadRun.head_imp (r := OpenLaw.row PySem.Challenge.rw_withinrim_k05_whole_rows_divided_and_com) (q := view (OpenLaw.row PySem.Challenge.rw_withinrim_k05_whole_rows_divided_and_com).prog [0, 61]) (H := Rim.hk) (ob := Rim.ob) (M := 6000) (loose := Rim.names) (d := HandSHeadRun.topDef (OpenLaw.row PySem.Challenge.rw_withinrim_k05_whole_rows_divided_and_com).prog 61) (kwd := []) Rim.ob_eq Rim.run
    (by kernel_rfl) (by kernel_rfl) (by kernel_rfl) (by rfl) (by first | assumption | decide +kernel) (by decide +kernel) ⟨rfl, rfl, rfl, rfl, rfl, by decide +kernel⟩ ?hw ?hc
  case hw => w_witness2
  case hc =>
    refine Rim.walk_ofGT (l := PySem.Challenge.rw_withinrim_k05_whole_rows_divided_and_com) (n := 63) (k := 46) (x := "script") rfl (by decide) (by kernel_rfl) ⟨rfl, by decide, by decide⟩ (by decide +kernel) ?F
    intro w mg fa h Y G hmg0
    obtain ⟨K, KX, c⟩ := Y
    have hmg : mg ("law" : PySem.Str) = some (.ref fa) := by
      have e : (HandSHeadRun.topDef (OpenLaw.row PySem.Challenge.rw_withinrim_k05_whole_rows_divided_and_com).prog 61).name = ("law" : PySem.Str) := by kernel_rfl
      rw [← e]
      exact hmg0
    obtain ⟨fd, sp, hb, hsp, hF⟩ := Rim.facts (P := (PySem.Challenge.rw_withinrim_k05_whole_rows_divided_and_com).prog) (by kernel_rfl) (w := w) KX G hmg c
    refine ⟨K, fd, sp, Rim.tfs.map (He.cT K), KX, fun p hp => ?_, fun p hp => ?_, fun p hp => ?_, hb, hsp, hF⟩
    · obtain ⟨q, hq, rfl⟩ := List.mem_map.mp hp
      exact c.empty q hq
    · obtain ⟨q, hq, rfl⟩ := List.mem_map.mp hp
      exact c.out q hq
    · obtain ⟨q, hq, rfl⟩ := List.mem_map.mp hp
      exact PySem.W.codeHd_of_K KX (c.hd q hq)
