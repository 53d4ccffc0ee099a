import PyProof.Rows.All
import Wide.All
import OpenK.AllK
import Wide.FinOn
import HandS.ForMost
import HandS.Wide
import HandS.WideBits
import HandS.Gcd
import HandS.IsInst
import HandS.Defaults
import HandS.HeadEnd
import PyProof.ReprRoads
import PyProof.StrLawsRepr
import KE.KStateDown
import HandS.Head0
import HandS.Head1
import HandS.Head2
import HandS.HeadHook1
import HandS.HeadHook2
import HandS.HeadHook3
import HandS.HeadHook4
import HandS.Style
import HandS.Head3
import PySem.Challenge.RW_withinrim_k02_whole_fractions_and_number
set_option Elab.async false
set_option linter.all false
set_option maxRecDepth 100000
set_option maxHeartbeats 0
/-! RimA: defs whose callers run under no guard (so that repr of nested data may be said): FnG, its calls, its end. -/
namespace Rim
open PySem PySem.Spec PyProof.Rows L2

/-- a def that keeps its promise wherever no guard runs around it -/
structure FnG (P : Program) (w : World) (K : PySem.W.Frag) (mg : Str → Option Value) (base : Heap) (CX : CXT)
    (k : Nat) (f : Addr) (fd : FuncData) (ps : List Str) (sp : Sp) : Prop where
  len : ∀ vs H Q E, sp vs H Q E → vs.length = ps.length
  run : ∀ (A : Around) (outer : List Env) (s : Shared) (H : Hp) (args : Args) (us : List Value) (vs : List V)
    (Q : VK) (E : XK), Room k A → A.guards = some [] → Env0 P w K mg base A outer s H →
    BindsTo s fd args (ps.zip us) → Vals vs us → sp vs H Q E →
    codeAny (model P w) A (.call (.ref f) args) (CR CX outer P w H s Q E) s

theorem FnG.mono {P w K mg base CX j k f fd ps sp} (F : FnG P w K mg base CX j f fd ps sp) (h : j ≤ k) :
    FnG P w K mg base CX k f fd ps sp :=
  ⟨F.len, fun A outer s H args us vs Q E hr => F.run A outer s H args us vs Q E (hr.mono h)⟩

section
variable {P : Program} {w : World} {K : PySem.W.Frag} {mg : Str → Option Value} {base : Heap} {x qual : Str}
  {params : Arguments} {body : List Stmt} {scope : Scope} {dvs : List V} {kws : List (Str × V)} {f : Addr} {fd : FuncData}

theorem FnG.of {CX : CXT} {N ps : List Str} {k : Nat} {sp : Sp} (F : FunD K x qual params body scope dvs kws f fd)
    (S : FnScope N ps scope) (len : ∀ vs H Q E, sp vs H Q E → vs.length = ps.length)
    (hb : ∀ (cdv : Value) (A : Around) (outer : List Env) (s : Shared) (H : Hp) (vs : List V) (Q : VK) (E : XK),
      Room k (A.deeper (envOfC qual scope s.heap.objs.size f cdv)) → A.guards = some [] → sp vs H Q E →
      ∃ t, PSs (cxOf CX P w K mg base N qual scope f cdv A outer s H E) body t ∧
        t { nx := fun _ H' => Q .non H', rt := Q } (start N vs) H) :
    FnG P w K mg base CX (k + 1) f fd ps sp := by
  obtain ⟨oc, od, dV, kV, doc, pm, an, cdv, ct, osl, rfl, lk, hcd, _, _⟩ := F.ex
  refine ⟨len, fun A outer s H args us vs Q E hr hg e0 hbi r hsp => ?_⟩
  have hl := len _ _ _ _ hsp
  have base_in : ∀ b o, base.get? b = some o → s.heap.get? b = some o := fun b o e => (e0.bs b o e).1
  have KX : K.In s.heap := e0.mod.kin.keeps base_in
  have lim : s.heap.NoLimit := e0.mod.nolimit.keeps base_in
  have hkind : ∀ y ∈ ps.zip us, scope.names.lookup y.1 = some .local ∨
      (scope.names.lookup y.1 = some .cell ∧
        ((cellsFrom (s.heap.objs.size + 1) scope.names []).lookup y.1).isSome = true) := by
    rintro ⟨n, v⟩ hy
    rcases S.par n (List.of_mem_zip hy).1 with q | q
    · exact Or.inl q
    · exact Or.inr ⟨q, PySem.W.cellsFrom_some _ _ _ (Or.inl q)⟩
  refine codeAny_call_function hr.depth (KX _ _ lk) rfl S.co S.gen rfl (PySem.W.codeRec_of KX hcd) (hbi _ _ _ _ ?_)
  refine wpAny_newFunctionEnv_cells S.kind hkind fun env he s1 z => ?_
  subst he
  refine ⟨lim.keeps z.toInCall.keep, codeAny_func ?_⟩
  obtain ⟨t, ht, hq⟩ := hb cdv A outer s H vs Q E (hr.deeper _) hg hsp
  have I := inv_start (CX := CX) (E := E) S hr.hd e0 hl r z
  refine wpAny_mono (ht.run [] s1 (start N vs) H _ I hq) (fun fl s' hs => ?_) fun e s' hs => hs
  cases fl with
  | ret u =>
    obtain ⟨v, σ', H', J, rv, q⟩ := hs
    exact ⟨v, H', J.os, J.bare, J.base, J.hok, rv, q⟩
  | next =>
    obtain ⟨σ', H', J, q⟩ := hs
    exact ⟨V.non, H', J.os, J.bare, J.base, J.hok, rfl, q⟩
  | brk =>
    obtain ⟨_, _, _, q⟩ := hs
    exact False.elim q
  | cont =>
    obtain ⟨_, _, _, q⟩ := hs
    exact False.elim q
end

section
variable {X : Cx} {CX : CXT} {k n : Nat} {f : Addr} {fd : FuncData} {ps ks : List Str} {sp : Sp} {dvs : List V}
  {ds : List Value} {E : XK} {x : Str} {p pos : Pos} {e : Expr} {es : List Expr} {kws : List Keyword} {t tk : TA}
  {g : List Value → List Value → List Value} {gV : List V → List V → List V}

theorem back_of {pins : List (Addr × Obj)} {σ : L2.St} {H : Hp} {s : Shared} {Q : VK} (hx : Passes CX X E)
    (I : Inv X pins σ H s) (r : Result) (s' : Shared) (hq : CR CX X.stack X.prog X.w H s Q E r s') :
    (match r with
      | .ok (.ret u) => EP X pins σ Q u s'
      | .ok _ => False
      | .error e => X.xe e s') := by
  cases r with
  | error e => exact hx pins σ H s e s' I hq
  | ok fl =>
    cases fl with
    | ret u => exact I.after hq
    | next => exact False.elim hq
    | brk => exact False.elim hq
    | cont => exact False.elim hq

/-- f(e, ..), f of FnG -/
theorem pe_callG (F : FnG X.prog X.w X.K X.mg X.base CX k f fd ps sp) (hr : Room k X.A) (hgu : X.A.guards = some [])
    (hg : Gl X x) (hm : X.mg x = some (.ref f)) (hk : PySem.W.keepIn X.K (.ref f) = true) (hb : Binds X.K fd ps ds)
    (hd : Vals dvs ds) (hx : Passes CX X E) (ha : PA X (e :: es) t)
    (hdb : (x == ("__debug__" : Str)) = false := by decide)
    (he : starEach (e :: es) X.env = (false, eval e X.env) :: starEach es X.env := by rfl)
    (hpl : (backTo pos (starEach es X.env)).any (·.1) = false := by rfl) :
    PE X (.Call (.Name x p) (e :: es) [] pos) (tCall sp dvs E t) := by
  constructor
  intro pins s σ H Q I h
  refine wpAny_Call_Name_kw (ld_glob I hg hm ?_ hdb)
  refine PySem.W.callWith_K (h₀ := X.base) I.ok.mod.kin hk (thn (ha.run pos pins s σ H _ I h) ?_) he hpl
  rintro us s1 ⟨vs, H1, I1, r, q⟩
  refine ⟨I1.kIn, ?_⟩
  have r2 := r.append hd
  have hl : (us ++ ds).length = ps.length := by
    rw [← r2.length]
    exact F.len _ _ _ _ q
  refine wpAny_call (codeAny_mono (F.run X.A X.stack s1 H1 ⟨us, []⟩ (us ++ ds) (vs ++ dvs) Q E hr hgu I1.env0
    (hb s1 us I1.kIn hl) r2 q) fun r s' hq => ?_)
  have z := back_of hx I1 r s' hq
  cases r with
  | error e => exact z
  | ok fl => cases fl <;> exact z

/-- f(e, .., k = v, ..), also without a positional value -/
theorem pe_callGK (F : FnG X.prog X.w X.K X.mg X.base CX k f fd ps sp) (hr : Room k X.A) (hgu : X.A.guards = some [])
    (hg : Gl X x) (hm : X.mg x = some (.ref f)) (hk : PySem.W.keepIn X.K (.ref f) = true)
    (hb : KBn X.K fd ps 0 ks g gV) (hx : Passes CX X E) (hkw : PK X kws tk)
    (hall : (backToKw pos (keywordEach kws X.env)).all (·.1.isSome) = true := by rfl)
    (hks : (backToKw pos (keywordEach kws X.env)).filterMap (·.1) = ks := by rfl)
    (hdb : (x == ("__debug__" : Str)) = false := by decide)
    (hpl : ((backTo pos (starEach [] X.env)).any (·.1) || (backToKw pos (keywordEach kws X.env)).any (·.1.isNone)) = false := by rfl) :
    PE X (.Call (.Name x p) [] kws pos) (tCallN 0 ks.length sp gV E tNil tk) := by
  constructor
  intro pins s σ H Q I h
  refine wpAny_Call_Name_kw (ld_glob I hg hm ?_ hdb)
  refine PySem.W.callWith_KW0 (h₀ := X.base) I.ok.mod.kin hk hall ?_ hpl
  refine thn (hkw.run pos pins s σ H _ I h) ?_
  rintro ws s2 ⟨zs, H2, I2, rz, _, l2, q2⟩
  refine ⟨I2.kIn, ?_⟩
  rw [hks]
  have r2 := hb.rel (vs := []) (us := []) .nil rz
  refine wpAny_call (codeAny_mono (F.run X.A X.stack s2 H2 ⟨[], ks.zip ws⟩ (g [] ws) (gV [] zs) Q E hr hgu I2.env0
    (hb.to s2 [] ws I2.kIn rfl (rz.length.symm.trans l2)) r2 q2) fun r s' hq => ?_)
  have z := back_of hx I2 r s' hq
  cases r with
  | error e => exact z
  | ok fl => cases fl <;> exact z
end

/-! ### the law's end -/
theorem law_callG {P : Program} {w : World} {K : PySem.W.Frag} {mg mb : Str → Option Value} {k : Nat} {fa a : Addr}
    {fd : FuncData} {x : Str} {sp : Sp} {s₁ : Shared} {vs : List Value} {ns : List Int}
    (KX : K.In s₁.heap) (hns : s₁.heap.Ns mainGlobals mg) (hb : s₁.heap.Ns builtinsNs mb)
    (hbb : ∀ x : Str, x ≠ "__name__" → mb x = bootBuiltins x) (hlim : s₁.heap.NoLimit) (hg : s₁.gens = #[])
    (ha : s₁.heap.get? a = some { cls := .type "list", data := .seq vs.toArray }) (hi : IntsAre vs ns)
    (hl : ns.length ≤ sizeLine) (hr : Room k callerA)
    (F : ∀ base : Heap, K.In base → base.Ns mainGlobals mg → FnG P w K mg base CX0 k fa fd [x] sp)
    (hbind : ∀ (s : Shared) (u : Value), BindsTo s fd ⟨[u], []⟩ [(x, u)])
    (hsp : ∀ H : Hp, Only H → SqL K H a (ns.map V.int) → sp [.ref a] H (fun v _ => v = .bl true) fun _ _ _ => False) :
    codeAny (model P w) callerA (.call (.ref fa) ⟨[.ref a], []⟩)
      (fun r s' => r = .ok (.ret (.bool true)) ∧ OldK s₁.heap s'.heap ∧ s'.os = s₁.os ∧ AllBare s'.gens) s₁ := by
  have rv := vals_ints hi
  -- once for whatever the heap tracks at the entry
  have core : ∀ H : Hp, Only H → SqL K H a (ns.map V.int) → HOk P w H s₁.heap → (∀ b, H b ≠ none → b = a) →
      (H a ≠ none → K.lookup a = none) →
      codeAny (model P w) callerA (.call (.ref fa) ⟨[.ref a], []⟩)
        (fun r s' => r = .ok (.ret (.bool true)) ∧ OldK s₁.heap s'.heap ∧ s'.os = s₁.os ∧ AllBare s'.gens) s₁ := by
    intro H hO hS hok hA hK
    have untracked : ∀ b, b ≠ a → H b = none := fun b hne => by
      cases q : H b with
      | none => rfl
      | some u => exact absurd (hA b (by rw [q]; simp)) hne
    have in_base : ∀ {b : Addr} {o : Obj}, s₁.heap.get? b = some o → H b = none → (hidT s₁.heap H).get? b = some o :=
      fun e n => hidT_get e n
    have dict_free : ∀ {b : Addr} {o : Obj} {es : Array DictEntry} {ep : Nat}, s₁.heap.get? b = some o →
        o.data = .dict es ep → H b = none := by
      intro b o es ep e d
      by_cases hba : b = a
      · subst hba
        rw [ha] at e
        cases e
        cases (show Data.seq vs.toArray _ = Data.dict es ep from d)
      · exact untracked b hba
    have ns_base : ∀ {b : Addr} {m : Str → Option Value}, s₁.heap.Ns b m → (hidT s₁.heap H).Ns b m := by
      rintro b m ⟨o, es, ep, e, d, r⟩
      exact ⟨o, es, ep, in_base e (dict_free e d), d, r⟩
    have k_base : K.In (hidT s₁.heap H) := by
      intro b o e
      refine in_base (KX b o e) ?_
      by_cases hba : b = a
      · subst hba
        cases q : H b with
        | none => rfl
        | some u =>
          rw [hK (by rw [q]; simp)] at e
          cases e
      · exact untracked b hba
    have hM : Mod K mg (hidT s₁.heap H) := by
      obtain ⟨mc, h1, h2⟩ := hlim
      exact ⟨k_base, ns_base hns, ⟨mb, ns_base hb, hbb⟩, ⟨mc, ns_base h1, h2⟩⟩
    have e0 : Env0 P w K mg (hidT s₁.heap H) callerA [] s₁ H :=
      ⟨rfl, hM, fun b o e => of_hidT e, Nat.le_of_eq (hidT_size _ _), trivial,
        fun b hb => absurd (show b ∈ ([] : List Addr) from hb) (by simp), hok, .of_eq hg⟩
    refine codeAny_mono ((F _ k_base (ns_base hns)).run callerA [] s₁ H ⟨[.ref a], []⟩ [.ref a] [.ref a] _ _ hr rfl e0
      (hbind s₁ (.ref a)) (.cons rfl .nil) (hsp H hO hS)) fun r s' h => ?_
    cases r with
    | error e => exact False.elim h
    | ok fl =>
      cases fl with
      | next => exact False.elim h
      | brk => exact False.elim h
      | cont => exact False.elim h
      | ret u =>
        obtain ⟨v, H', os, bare, un, hok', r', q⟩ := h
        have q' : v = .bl true := q
        subst q'
        obtain rfl : u = Value.bool true := r'
        refine ⟨rfl, OldK.of_keep fun b o e => ?_, os, bare⟩
        cases q : H b with
        | none =>
          exact un.keep b o e q (fun z => absurd (show b ∈ ([] : List Addr) from z) (by simp)) (by simp)
        | some u =>
          rcases hO b with z | ⟨ob, xs, z⟩
          · rw [q] at z
            cases z
          · obtain ⟨e1, _⟩ := hok b _ z
            obtain ⟨e2, _⟩ := hok' b _ (un.frzs b ob _ z)
            rw [e] at e1
            cases e1
            exact e2
  have lenV := hi.length
  cases hk : K.lookup a with
  | some o =>
    have e := KX a o hk
    rw [ha] at e
    cases e
    have none_ne : ∀ b, (fun _ => none : Hp) b ≠ none → b = a := fun b z => absurd rfl z
    refine core (fun _ => none) (fun _ => Or.inl rfl) (Or.inr ⟨_, vs.toArray, _, hk, rfl, rfl, rfl, ?_, ?_⟩)
      (fun b u z => ?_) none_ne fun z => absurd rfl z
    · rw [List.size_toArray, lenV]
      exact hl
    · simpa using rv
    · cases (show (none : Option HO) = some u from z)
  | none =>
    let H0 : Hp := upd (fun _ => none) a (.frz { cls := .type "list", data := .seq vs.toArray } (.lst (ns.map V.int)))
    have h0 : H0 a = some (.frz { cls := .type "list", data := .seq vs.toArray } (.lst (ns.map V.int))) := upd_same
    have h1 : ∀ b, b ≠ a → H0 b = none := fun b hne => upd_ne hne
    refine core H0 (fun b => ?_) (Or.inl (Or.inr ⟨_, h0⟩)) (fun b u z => ?_) (fun b z => ?_) fun _ => hk
    · by_cases hba : b = a
      · subst hba
        exact Or.inr ⟨_, _, h0⟩
      · exact Or.inl (h1 b hba)
    · by_cases hba : b = a
      · subst hba
        rw [h0] at z
        cases z
        exact ⟨ha, by rw [List.length_map]; exact hl, vs, _, rv, ha⟩
      · rw [h1 b hba] at z
        cases z
    · by_cases hba : b = a
      · exact hba
      · exact absurd (h1 b hba) z

theorem walk_ofG {l : PySem.W.OpenLaw} {n k : Nat} {q : Program} {loose : List Str}
    {XP : (Str → Option Value) → Heap → Prop} {YP : World → Heap → Prop} {d : DefRec} {x : Str}
    (hn : l.most = some n) (hn2 : n ≤ sizeLine) (hdf : d.params.defaults = []) (hr : Room k callerA)
    (F : ∀ (w : World) (mg : Str → Option Value) (fa : Addr) (h : Heap), YP w h → h.Ns mainGlobals mg →
      mg d.name = some (.ref fa) → ∃ (K : PySem.W.Frag) (fd : FuncData) (sp : Sp), K.In h ∧
        (∀ (s : Shared) (u : Value), BindsTo s fd ⟨[u], []⟩ [(x, u)]) ∧
        (∀ (H : Hp) (a : Addr) (ns : List Int), ns.length ≤ n → Only H → SqL K H a (ns.map V.int) →
          sp [.ref a] H (fun v _ => v = .bl true) fun _ _ _ => False) ∧
        ∀ base : Heap, K.In base → base.Ns mainGlobals mg → FnG l.prog w K mg base CX0 k fa fd [x] sp) :
    PySem.W.WalkO q loose XP YP l.row.toRowW d [] (fun f vs => PySem.call f vs) := by
  refine Att.attach_call hn hdf fun w s₀ s₁ mg mb fa o pm cd doc a vs ns G Y ho hd hcd hmg hobj hints hlen hg => ?_
  obtain ⟨K, fd, sp, KX, hb, hsp, hF⟩ := F w mg fa _ Y G.T.g hmg
  exact law_callG KX G.T.g G.T.b G.T.builtins G.T.nolimit hg hobj hints (Nat.le_trans hlen hn2) hr hF hb
    fun H hO hS => hsp H a ns hlen hO hS
end Rim

/-! RimW: what a def does to data: readings of the hand layer as rules over PyData, without a heap. -/
namespace Rim
open PySem PySem.Spec L2

/-! ### data stay while the heap grows -/
section
variable {K : PySem.W.Frag} {G G' : Hp}
theorem sqT_mono {a : Addr} {xs : List V} (e : Same G G') (h : SqT K G a xs) : SqT K G' a xs := by
  rcases h with (h | ⟨o, h⟩) | h
  · exact Or.inl (Or.inl (e _ _ h))
  · exact Or.inl (Or.inr ⟨o, e _ _ h⟩)
  · exact Or.inr h
mutual
theorem dp_mono (e : Same G G') : ∀ (d : PyData) (v : V), Dp K G v d → Dp K G' v d
  | .none, _, h => by cases h; exact .non
  | .bool b, _, h => by cases h; exact .bl b
  | .int i, _, h => by cases h; exact .int i
  | .str x, _, h => by cases h; exact .str x
  | .list ds, _, h => by
    cases h with
    | lst hs ha => exact .lst (e.seq hs) (dpA_mono e ds _ ha)
  | .tuple ds, _, h => by
    cases h with
    | tup hs ha => exact .tup (sqT_mono e hs) (dpA_mono e ds _ ha)
  | .dict _, _, h => by cases h
theorem dpA_mono (e : Same G G') : ∀ (ds : List PyData) (vs : List V), DpAll K G vs ds → DpAll K G' vs ds
  | [], _, h => by cases h; exact .nil
  | d :: ds, _, h => by
    cases h with
    | cons h1 h2 => exact .cons (dp_mono e d _ h1) (dpA_mono e ds _ h2)
end
theorem dpA_len : ∀ {vs : List V} {ds : List PyData}, DpAll K G vs ds → vs.length = ds.length
  | _, _, .nil => rfl
  | _, _, .cons _ t => by rw [List.length_cons, List.length_cons, dpA_len t]
theorem dpA_get : ∀ {vs : List V} {ds : List PyData} {i : Nat} {d : PyData}, DpAll K G vs ds → ds[i]? = some d →
    ∃ v, vs[i]? = some v ∧ Dp K G v d
  | _, _, _, _, .nil, h => by simp at h
  | _, _, 0, d, .cons a _, h => by
    simp at h
    subst h
    exact ⟨_, rfl, a⟩
  | _, _, i + 1, d, .cons _ t, h => by
    obtain ⟨v, h1, h2⟩ := dpA_get (i := i) t (by simpa using h)
    exact ⟨v, by simpa using h1, h2⟩
theorem dpA_at {vs : List V} {ds : List PyData} {i : Nat} {v : V} (h : DpAll K G vs ds) (hv : vs[i]? = some v) :
    ∃ d, ds[i]? = some d ∧ Dp K G v d := by
  have hl := dpA_len h
  have hi : i < vs.length := (List.getElem?_eq_some_iff.mp hv).1
  have hd : ds[i]? = some (ds[i]'(by omega)) := List.getElem?_eq_getElem (by omega)
  obtain ⟨w, h1, h2⟩ := dpA_get h hd
  rw [hv] at h1
  cases h1
  exact ⟨_, hd, h2⟩
theorem dpA_append : ∀ {vs us : List V} {ds es : List PyData}, DpAll K G vs ds → DpAll K G us es → DpAll K G (vs ++ us) (ds ++ es)
  | _, _, _, _, .nil, h => h
  | _, _, _, _, .cons a t, h => .cons a (dpA_append t h)
theorem dpA_set {v : V} {d : PyData} (hd : Dp K G v d) : ∀ {vs : List V} {ds : List PyData} (i : Nat), DpAll K G vs ds →
    DpAll K G (vs.set i v) (ds.set i d)
  | _, _, _, .nil => .nil
  | _, _, 0, .cons _ t => .cons hd t
  | _, _, i + 1, .cons a t => .cons a (dpA_set hd i t)
theorem dpA_take : ∀ {vs : List V} {ds : List PyData} (n : Nat), DpAll K G vs ds → DpAll K G (vs.take n) (ds.take n)
  | _, _, 0, _ => by simp only [List.take_zero]; exact .nil
  | _, _, n + 1, .nil => by simp only [List.take_nil]; exact .nil
  | _, _, n + 1, .cons a t => by simp only [List.take_succ_cons]; exact .cons a (dpA_take n t)
theorem dpA_drop : ∀ {vs : List V} {ds : List PyData} (n : Nat), DpAll K G vs ds → DpAll K G (vs.drop n) (ds.drop n)
  | _, _, 0, h => by simpa only [List.drop_zero] using h
  | _, _, n + 1, .nil => by simp only [List.drop_nil]; exact .nil
  | _, _, n + 1, .cons _ t => by simp only [List.drop_succ_cons]; exact dpA_drop n t
theorem dp_int {v : V} {i : Int} (h : Dp K G v (.int i)) : v = .int i := by cases h; rfl
theorem dp_bl {v : V} {b : Bool} (h : Dp K G v (.bool b)) : v = .bl b := by cases h; rfl
theorem dp_str {v : V} {x : Str} (h : Dp K G v (.str x)) : v = .str x := by cases h; rfl
theorem dp_tup {v : V} {ds : List PyData} (h : Dp K G v (.tuple ds)) : ∃ a xs, v = .ref a ∧ SqT K G a xs ∧ DpAll K G xs ds := by
  cases h with
  | tup hs ha => exact ⟨_, _, rfl, hs, ha⟩
theorem dp_lst {v : V} {ds : List PyData} (h : Dp K G v (.list ds)) : ∃ a xs, v = .ref a ∧ SqL K G a xs ∧ DpAll K G xs ds := by
  cases h with
  | lst hs ha => exact ⟨_, _, rfl, hs, ha⟩
end

/-! ### states -/
/-- a list of three ints that draws change -/
def Pail (H : Hp) (a : Addr) : Prop := ∃ x y z : Int, H a = some (.lst [.int x, .int y, .int z])
/-- G: the part of H that nobody changes; p: where the pail stands, if one is at hand -/
structure J (p : Option Addr) (G H : Hp) : Prop where
  sub : Same G H
  pl : ∀ a, p = some a → G a = none ∧ Pail H a
structure Xt (p : Option Addr) (G H G' H' : Hp) : Prop where
  gg : Same G G'
  hh : ∀ a o, p ≠ some a → H a = some o → H' a = some o
  fr : ∀ a, p ≠ some a → H a ≠ none → G a = none → G' a = none
section
variable {p : Option Addr} {G H G1 H1 G2 H2 : Hp}
theorem Xt.refl : Xt p G H G H := ⟨Same.refl G, fun _ _ _ h => h, fun _ _ _ h => h⟩
theorem Xt.trans (a : Xt p G H G1 H1) (b : Xt p G1 H1 G2 H2) : Xt p G H G2 H2 :=
  ⟨a.gg.trans b.gg, fun x o hp h => b.hh x o hp (a.hh x o hp h), fun x hp hH hG => by
    refine b.fr x hp ?_ (a.fr x hp hH hG)
    cases q : H x with
    | none => exact absurd q hH
    | some o =>
      rw [a.hh x o hp q]
      exact Option.some_ne_none o⟩

theorem J.free (j : J p G H) {l : Addr} (h : H l = none) : G l = none := j.sub.free h
theorem J.ne (j : J p G H) {l : Addr} (h : H l = none) : p ≠ some l := fun q => by
  obtain ⟨_, x, y, z, e⟩ := j.pl l q
  rw [h] at e
  cases e
/-- a new object that nobody will change -/
theorem Xt.laid (j : J p G H) {l : Addr} {o : HO} (h : H l = none) : Xt p G H (upd G l o) (upd H l o) := by
  refine ⟨fun a u e => ?_, fun a u _ e => ?_, fun a _ hH hG => ?_⟩
  · rw [upd_ne (ne_of_none e (j.free h))]; exact e
  · rw [upd_ne (ne_of_none e h)]; exact e
  · have hne : a ≠ l := fun q => hH (by rw [q]; exact h)
    rw [upd_ne hne]; exact hG
theorem J.laid (j : J p G H) {l : Addr} {o : HO} (h : H l = none) : J p (upd G l o) (upd H l o) := by
  refine ⟨fun a u e => ?_, fun a ha => ?_⟩
  · by_cases q : a = l
    · subst q
      rw [upd_same] at e ⊢
      exact e
    · rw [upd_ne q] at e ⊢
      exact j.sub a u e
  · have hne : a ≠ l := fun q => j.ne h (by rw [← q]; exact ha)
    obtain ⟨h1, x, y, z, h2⟩ := j.pl a ha
    exact ⟨by rw [upd_ne hne]; exact h1, x, y, z, by rw [upd_ne hne]; exact h2⟩
/-- a new object of one's own -/
theorem Xt.made (j : J p G H) {l : Addr} {o : HO} (h : H l = none) : Xt p G H G (upd H l o) :=
  ⟨Same.refl G, fun a u _ e => by rw [upd_ne (ne_of_none e h)]; exact e, fun _ _ _ h => h⟩
theorem J.made (j : J p G H) {l : Addr} {o : HO} (h : G l = none) (hp : p ≠ some l) : J p G (upd H l o) := by
  refine ⟨fun a u e => ?_, fun a ha => ?_⟩
  · rw [upd_ne (ne_of_none e h)]; exact j.sub a u e
  · have hne : a ≠ l := fun q => hp (by rw [← q]; exact ha)
    obtain ⟨h1, x, y, z, h2⟩ := j.pl a ha
    exact ⟨h1, x, y, z, by rw [upd_ne hne]; exact h2⟩
/-- an object of one's own becomes one that nobody changes -/
theorem J.frozen (j : J p G H) {l : Addr} {o : HO} (h : H l = some o) (hp : p ≠ some l) : J p (upd G l o) H := by
  refine ⟨fun a u e => ?_, fun a ha => ?_⟩
  · by_cases q : a = l
    · subst q
      rw [upd_same] at e
      rw [h]; exact e
    · rw [upd_ne q] at e
      exact j.sub a u e
  · have hne : a ≠ l := fun q => hp (by rw [← q]; exact ha)
    obtain ⟨h1, h2⟩ := j.pl a ha
    exact ⟨by rw [upd_ne hne]; exact h1, h2⟩
end

/-! ### slots -/
inductive Sl where
  | un
  | d (x : PyData)
  | m (xs : List PyData)
  | v (x : V)
abbrev Ev := List Sl
def SlOk (K : PySem.W.Frag) (p : Option Addr) (H0 G H : Hp) (x : Option (Option V)) : Sl → Prop
  | .un => True
  | .d d => ∃ v, x = some (some v) ∧ Dp K G v d
  | .m ds => ∃ l vs, x = some (some (.ref l)) ∧ H l = some (.lst vs) ∧ DpAll K G vs ds ∧ G l = none ∧ p ≠ some l ∧ H0 l = none
  | .v v => x = some (some v)
structure EnvOk (K : PySem.W.Frag) (p : Option Addr) (H0 G H : Hp) (σ : L2.St) (E : Ev) : Prop where
  len : σ.length = E.length
  at_ : ∀ (i : Nat) (s : Sl), E[i]? = some s → SlOk K p H0 G H (σ[i]?) s
  ap : ∀ (i j : Nat) (ds es : List PyData) (l : Addr), i ≠ j → E[i]? = some (.m ds) → E[j]? = some (.m es) →
    σ[i]? = some (some (.ref l)) → σ[j]? ≠ some (some (.ref l))
section
variable {K : PySem.W.Frag} {p : Option Addr} {H0 G H G1 H1 : Hp} {σ : L2.St} {E : Ev}
theorem EnvOk.mono (e : EnvOk K p H0 G H σ E) (x : Xt p G H G1 H1) : EnvOk K p H0 G1 H1 σ E := by
  refine ⟨e.len, fun i s h => ?_, e.ap⟩
  have q := e.at_ i s h
  cases s with
  | un => trivial
  | d d =>
    obtain ⟨v, h1, h2⟩ := q
    exact ⟨v, h1, dp_mono x.gg d v h2⟩
  | m ds =>
    obtain ⟨l, vs, h1, h2, h3, h4, h5, h6⟩ := q
    exact ⟨l, vs, h1, x.hh l _ h5 h2, dpA_mono x.gg ds vs h3, x.fr l h5 (by rw [h2]; exact Option.some_ne_none _) h4, h5, h6⟩
  | v v => exact q
theorem EnvOk.dat (e : EnvOk K p H0 G H σ E) {i : Nat} {d : PyData} (h : E[i]? = some (.d d)) : ∃ v, σ[i]? = some (some v) ∧ Dp K G v d := e.at_ i _ h
theorem EnvOk.val (e : EnvOk K p H0 G H σ E) {i : Nat} {v : V} (h : E[i]? = some (.v v)) : σ[i]? = some (some v) := e.at_ i _ h
theorem EnvOk.own (e : EnvOk K p H0 G H σ E) {i : Nat} {ds : List PyData} (h : E[i]? = some (.m ds)) :
    ∃ l vs, σ[i]? = some (some (.ref l)) ∧ H l = some (.lst vs) ∧ DpAll K G vs ds ∧ G l = none ∧ p ≠ some l ∧ H0 l = none := e.at_ i _ h
theorem EnvOk.has (e : EnvOk K p H0 G H σ E) {i : Nat} {s : Sl} (h : E[i]? = some s) : i < σ.length := by
  rw [e.len]
  exact (List.getElem?_eq_some_iff.mp h).1
theorem get_set {α : Type} {l : List α} {i j : Nat} {x : α} (hi : i < l.length) : (l.set i x)[j]? = if j = i then some x else l[j]? := by
  by_cases q : j = i
  · subst q
    rw [if_pos rfl, List.getElem?_set_self hi]
  · rw [if_neg q, List.getElem?_set_ne (Ne.symm q)]
/-- a slot takes data -/
theorem EnvOk.setD (e : EnvOk K p H0 G H σ E) {i : Nat} {v : V} {d : PyData} (hi : i < σ.length) (h : Dp K G v d) : EnvOk K p H0 G H (σ.set i (some v)) (E.set i (.d d)) := by
  have hE : i < E.length := by rw [← e.len]; exact hi
  refine ⟨by rw [List.length_set, List.length_set]; exact e.len, fun j s hs => ?_, fun a b ds es l hab ha hb h1 => ?_⟩
  · rw [get_set hE] at hs
    rw [get_set hi]
    by_cases q : j = i
    · rw [if_pos q] at hs ⊢
      cases hs
      exact ⟨v, rfl, h⟩
    · rw [if_neg q] at hs ⊢
      exact e.at_ j s hs
  · rw [get_set hE] at ha hb
    rw [get_set hi] at h1 ⊢
    by_cases qa : a = i
    · rw [if_pos qa] at ha
      cases ha
    · by_cases qb : b = i
      · rw [if_pos qb] at hb
        cases hb
      · rw [if_neg qa] at ha h1
        rw [if_neg qb] at hb ⊢
        exact e.ap a b ds es l hab ha hb h1
/-- a slot is forgotten -/
theorem EnvOk.setU (e : EnvOk K p H0 G H σ E) {i : Nat} {x : Option V} : EnvOk K p H0 G H (σ.set i x) (E.set i .un) := by
  by_cases hi : i < σ.length
  · have hE : i < E.length := by rw [← e.len]; exact hi
    refine ⟨by rw [List.length_set, List.length_set]; exact e.len, fun j s hs => ?_, fun a b ds es l hab ha hb h1 => ?_⟩
    · rw [get_set hE] at hs
      rw [get_set hi]
      by_cases q : j = i
      · rw [if_pos q] at hs ⊢
        cases hs
        trivial
      · rw [if_neg q] at hs ⊢
        exact e.at_ j s hs
    · rw [get_set hE] at ha hb
      rw [get_set hi] at h1 ⊢
      by_cases qa : a = i
      · rw [if_pos qa] at ha
        cases ha
      · by_cases qb : b = i
        · rw [if_pos qb] at hb
          cases hb
        · rw [if_neg qa] at ha h1
          rw [if_neg qb] at hb ⊢
          exact e.ap a b ds es l hab ha hb h1
  · have hE : ¬ i < E.length := by rw [← e.len]; exact hi
    rw [List.set_eq_of_length_le (by omega), List.set_eq_of_length_le (by omega)]
    exact e
/-- what is known of a slot is forgotten -/
theorem EnvOk.drop (e : EnvOk K p H0 G H σ E) (i : Nat) : EnvOk K p H0 G H σ (E.set i .un) := by
  by_cases hi : i < E.length
  · refine ⟨by rw [List.length_set]; exact e.len, fun j s hs => ?_, fun a b ds es l hab ha hb h1 => ?_⟩
    · rw [get_set hi] at hs
      by_cases q : j = i
      · rw [if_pos q] at hs
        cases hs
        trivial
      · rw [if_neg q] at hs
        exact e.at_ j s hs
    · rw [get_set hi] at ha hb
      by_cases qa : a = i
      · rw [if_pos qa] at ha
        cases ha
      · by_cases qb : b = i
        · rw [if_pos qb] at hb
          cases hb
        · rw [if_neg qa] at ha
          rw [if_neg qb] at hb
          exact e.ap a b ds es l hab ha hb h1
  · rw [List.set_eq_of_length_le (by omega)]
    exact e
/-- a slot takes a new list of its own -/
theorem EnvOk.setM (e : EnvOk K p H0 G H σ E) {i : Nat} {l : Addr} {vs : List V} {ds : List PyData} (hi : i < σ.length)
    (hn : ∀ (j : Nat) (es : List PyData) (m : Addr), E[j]? = some (.m es) → σ[j]? = some (some (.ref m)) → m ≠ l)
    (h : H l = some (.lst vs)) (hd : DpAll K G vs ds) (hg : G l = none) (hp : p ≠ some l) (h0 : H0 l = none) : EnvOk K p H0 G H (σ.set i (some (.ref l))) (E.set i (.m ds)) := by
  have hE : i < E.length := by rw [← e.len]; exact hi
  refine ⟨by rw [List.length_set, List.length_set]; exact e.len, fun j s hs => ?_, fun a b ds' es m hab ha hb h1 => ?_⟩
  · rw [get_set hE] at hs
    rw [get_set hi]
    by_cases q : j = i
    · rw [if_pos q] at hs ⊢
      cases hs
      exact ⟨l, vs, rfl, h, hd, hg, hp, h0⟩
    · rw [if_neg q] at hs ⊢
      exact e.at_ j s hs
  · rw [get_set hE] at ha hb
    rw [get_set hi] at h1 ⊢
    by_cases qa : a = i
    · by_cases qb : b = i
      · exact absurd (qa.trans qb.symm) hab
      · rw [if_neg qb] at hb ⊢
        rw [if_pos qa] at h1
        cases h1
        exact fun z => hn b es _ hb z rfl
    · by_cases qb : b = i
      · rw [if_neg qa] at ha h1
        rw [if_pos qb]
        intro z
        cases z
        exact hn a ds' _ ha h1 rfl
      · rw [if_neg qa] at ha h1
        rw [if_neg qb] at hb ⊢
        exact e.ap a b ds' es m hab ha hb h1
/-- the list in a slot is changed -/
theorem EnvOk.chg (e : EnvOk K p H0 G H σ E) {i : Nat} {l : Addr} {vs us : List V} {ds es : List PyData} (hs : E[i]? = some (.m ds)) (hl : σ[i]? = some (some (.ref l)))
    (h : H l = some (.lst vs)) (hd : DpAll K G us es) (hg : G l = none) (hp : p ≠ some l) (h0 : H0 l = none) : EnvOk K p H0 G (upd H l (.lst us)) σ (E.set i (.m es)) := by
  have hE : i < E.length := (List.getElem?_eq_some_iff.mp hs).1
  refine ⟨by rw [List.length_set]; exact e.len, fun j s hs' => ?_, fun a b ds' es' m hab ha hb h1 => ?_⟩
  · rw [get_set hE] at hs'
    by_cases q : j = i
    · rw [if_pos q] at hs'
      cases hs'
      exact ⟨l, us, by rw [q]; exact hl, upd_same, hd, hg, hp, h0⟩
    · rw [if_neg q] at hs'
      have z := e.at_ j s hs'
      cases s with
      | un => trivial
      | d d => exact z
      | v v => exact z
      | m fs =>
        obtain ⟨m, ws, z1, z2, z3⟩ := z
        have hne : m ≠ l := fun w => e.ap i j ds fs l (Ne.symm q) hs hs' hl (by rw [← w]; exact z1)
        exact ⟨m, ws, z1, by rw [upd_ne hne]; exact z2, z3⟩
  · rw [get_set hE] at ha hb
    have ha' : ∃ q, E[a]? = some (.m q) := by
      by_cases qa : a = i
      · exact ⟨ds, by rw [qa]; exact hs⟩
      · rw [if_neg qa] at ha
        exact ⟨_, ha⟩
    have hb' : ∃ q, E[b]? = some (.m q) := by
      by_cases qb : b = i
      · exact ⟨ds, by rw [qb]; exact hs⟩
      · rw [if_neg qb] at hb
        exact ⟨_, hb⟩
    obtain ⟨qa, ha'⟩ := ha'
    obtain ⟨qb, hb'⟩ := hb'
    exact e.ap a b qa qb m hab ha' hb' h1
end

/-! ### judgements -/
def W (K : PySem.W.Frag) (p : Option Addr) (E : Ev) (t : TE) (Φ : PyData → Prop) : Prop :=
  ∀ (H0 G H : Hp) (σ : L2.St), J p G H → EnvOk K p H0 G H σ E → ∀ Q : VK,
    (∀ v d G' H', Xt p G H G' H' → J p G' H' → Dp K G' v d → Φ d → Q v H') → t σ H Q
/-- a new list of one's own -/
def WM (K : PySem.W.Frag) (p : Option Addr) (E : Ev) (t : TE) (Φ : List PyData → Prop) : Prop :=
  ∀ (H0 G H : Hp) (σ : L2.St), J p G H → EnvOk K p H0 G H σ E → ∀ Q : VK,
    (∀ l vs ds G' H', Xt p G H G' H' → J p G' H' → H l = none → H' l = some (.lst vs) → G' l = none → DpAll K G' vs ds → Φ ds → Q (.ref l) H') → t σ H Q
def WA (K : PySem.W.Frag) (p : Option Addr) (E : Ev) (t : TA) (Φ : List PyData → Prop) : Prop :=
  ∀ (H0 G H : Hp) (σ : L2.St), J p G H → EnvOk K p H0 G H σ E → ∀ Q : List V → Hp → Prop,
    (∀ vs ds G' H', Xt p G H G' H' → J p G' H' → DpAll K G' vs ds → Φ ds → Q vs H') → t σ H Q
def WT (K : PySem.W.Frag) (p : Option Addr) (E : Ev) (t : TT) (Φ : Bool → Prop) : Prop :=
  ∀ (H0 G H : Hp) (σ : L2.St), J p G H → EnvOk K p H0 G H σ E → ∀ Q : Bool → Hp → Prop,
    (∀ b G' H', Xt p G H G' H' → J p G' H' → Φ b → Q b H') → t σ H Q
/-- an operation upon values -/
def WR (K : PySem.W.Frag) (p : Option Addr) (r : R2) (x y : PyData) (Φ : PyData → Prop) : Prop :=
  ∀ (G H : Hp) (v u : V), J p G H → Dp K G v x → Dp K G u y → ∀ Q : VK,
    (∀ w d G' H', Xt p G H G' H' → J p G' H' → Dp K G' w d → Φ d → Q w H') → r v u H Q
/-- a call of a built-in upon values -/
def WC (K : PySem.W.Frag) (p : Option Addr) (r : List V → Hp → VK → Prop) (xs : List PyData) (Φ : PyData → Prop) : Prop :=
  ∀ (G H : Hp) (vs : List V), J p G H → DpAll K G vs xs → ∀ Q : VK,
    (∀ w d G' H', Xt p G H G' H' → J p G' H' → Dp K G' w d → Φ d → Q w H') → r vs H Q

section
variable {K : PySem.W.Frag} {p : Option Addr} {E : Ev} {t ta tb tc : TE} {Φ : PyData → Prop} {Ψ : List PyData → Prop} {tt tu : TT} {Θ : Bool → Prop}

theorem W.imp {Φ' : PyData → Prop} (h : W K p E t Φ) (k : ∀ d, Φ d → Φ' d) : W K p E t Φ' :=
  fun H0 G H σ j e Q q => h H0 G H σ j e Q fun v d G' H' x j' dv hd => q v d G' H' x j' dv (k d hd)
theorem W_of_WM (h : WM K p E t fun ds => Φ (.list ds)) : W K p E t Φ := by
  intro H0 G H σ j e Q q
  refine h H0 G H σ j e Q fun l vs ds G' H' x j' hn hl hg dv hd => ?_
  have e1 : Same G' (upd G' l (.lst vs)) := fun a o z => by
    rw [upd_ne (ne_of_none z hg)]
    exact z
  have hp := j.ne hn
  refine q _ (.list ds) (upd G' l (.lst vs)) H' ⟨x.gg.trans e1, x.hh, fun a ha hH hG => ?_⟩ (j'.frozen hl hp) (.lst (SqL.of upd_same) (dpA_mono e1 ds vs dv)) hd
  have hne : a ≠ l := fun z => hH (by rw [z]; exact hn)
  rw [upd_ne hne]
  exact x.fr a ha hH hG

/-! ### names, constants -/
theorem W_var {i : Nat} {d : PyData} (h : E[i]? = some (.d d)) (k : Φ d) : W K p E (tVar i) Φ := by
  intro H0 G H σ j e Q q
  obtain ⟨v, h1, h2⟩ := e.dat h
  exact ⟨v, h1, q v d G H Xt.refl j h2 k⟩
theorem W_int {i : Int} (k : Φ (.int i)) : W K p E (tC (.int i)) Φ := fun H0 G H σ j e Q q => q _ _ G H Xt.refl j (.int i) k
theorem W_bl {b : Bool} (k : Φ (.bool b)) : W K p E (tC (.bl b)) Φ := fun H0 G H σ j e Q q => q _ _ G H Xt.refl j (.bl b) k
theorem W_non (k : Φ .none) : W K p E (tC .non) Φ := fun H0 G H σ j e Q q => q _ _ G H Xt.refl j .non k
theorem W_str {x : Str} (k : Φ (.str x)) : W K p E (tC (.str x)) Φ := fun H0 G H σ j e Q q => q _ _ G H Xt.refl j (.str x) k
theorem W_con {v : V} {d : PyData} (h : ∀ G, Dp K G v d) (k : Φ d) : W K p E (tC v) Φ := fun H0 G H σ j e Q q => q _ _ G H Xt.refl j (h G) k

/-! ### operators -/
theorem W_op {r : R2} (h : W K p E ta fun x => W K p E tb fun y => WR K p r x y Φ) : W K p E (tOp r ta tb) Φ := by
  intro H0 G H σ j e Q q
  refine h H0 G H σ j e _ fun v x G1 H1 x1 j1 dv h1 => ?_
  refine h1 H0 G1 H1 σ j1 (e.mono x1) _ fun u y G2 H2 x2 j2 du h2 => ?_
  exact h2 G2 H2 v u j2 (dp_mono x2.gg x v dv) du Q fun w d G3 H3 x3 j3 dw hd => q w d G3 H3 ((x1.trans x2).trans x3) j3 dw hd
def fl : V → PyData
  | .non => .none
  | .bl b => .bool b
  | .int i => .int i
  | .str x => .str x
  | _ => .none
def isFl : V → Bool
  | .non | .bl _ | .int _ | .str _ => true
  | _ => false
theorem fl_ok {G : Hp} {v : V} (h : isFl v = true) : Dp K G v (fl v) := by
  cases v with
  | non => exact .non
  | bl b => exact .bl b
  | int i => exact .int i
  | str x => exact .str x
  | _ => cases h
theorem WR_I0 {g : Int → Int → V} {i k : Int} (h : isFl (g i k) = true) (q : Φ (fl (g i k))) : WR K p (rI0 g) (.int i) (.int k) Φ := by
  intro G H v u j dv du Q z
  exact ⟨i, k, dp_int dv, dp_int du, z _ _ G H Xt.refl j (fl_ok h) q⟩
theorem WR_I {C : Int → Int → Prop} {g : Int → Int → V} {i k : Int} (c : C i k) (h : isFl (g i k) = true) (q : Φ (fl (g i k))) : WR K p (rI C g) (.int i) (.int k) Φ := by
  intro G H v u j dv du Q z
  exact ⟨i, k, dp_int dv, dp_int du, c, z _ _ G H Xt.refl j (fl_ok h) q⟩

theorem WR_eqI {i k : Int} (q : Φ (.bool (decide (i = k)))) : WR K p rEq (.int i) (.int k) Φ := by
  intro G H v u j dv du Q z
  rw [dp_int dv, dp_int du]
  refine ⟨rfl, z _ (.bool (decide (i = k))) G H Xt.refl j ?_ q⟩
  have e : decide (V.int i = V.int k) = decide (i = k) := decide_eq_decide.mpr ⟨fun h => V.int.inj h, fun h => by rw [h]⟩
  rw [e]
  exact .bl _
theorem WR_neI {i k : Int} (q : Φ (.bool (!decide (i = k)))) : WR K p rNe (.int i) (.int k) Φ := by
  intro G H v u j dv du Q z
  rw [dp_int dv, dp_int du]
  refine ⟨rfl, z _ (.bool (!decide (i = k))) G H Xt.refl j ?_ q⟩
  have e : decide (V.int i = V.int k) = decide (i = k) := decide_eq_decide.mpr ⟨fun h => V.int.inj h, fun h => by rw [h]⟩
  rw [e]
  exact .bl _
theorem WR_eqS {i k : Str} (q : Φ (.bool (decide (i = k)))) : WR K p rEq (.str i) (.str k) Φ := by
  intro G H v u j dv du Q z
  rw [dp_str dv, dp_str du]
  refine ⟨rfl, z _ (.bool (decide (i = k))) G H Xt.refl j ?_ q⟩
  have e : decide (V.str i = V.str k) = decide (i = k) := decide_eq_decide.mpr ⟨fun h => V.str.inj h, fun h => by rw [h]⟩
  rw [e]
  exact .bl _
theorem WR_neS {i k : Str} (q : Φ (.bool (!decide (i = k)))) : WR K p rNe (.str i) (.str k) Φ := by
  intro G H v u j dv du Q z
  rw [dp_str dv, dp_str du]
  refine ⟨rfl, z _ (.bool (!decide (i = k))) G H Xt.refl j ?_ q⟩
  have e : decide (V.str i = V.str k) = decide (i = k) := decide_eq_decide.mpr ⟨fun h => V.str.inj h, fun h => by rw [h]⟩
  rw [e]
  exact .bl _
/-- == of data -/
theorem WR_eqD {x y : PyData} (hx : SeqAt.shaped x = true) (hy : SeqAt.shaped y = true) (q : Φ (.bool (PyData.eqv x y))) : WR K p (rEqD K) x y Φ := by
  intro G H v u j dv du Q z
  exact ⟨x, y, dp_mono j.sub x v dv, dp_mono j.sub y u du, hx, hy, z _ _ G H Xt.refl j (.bl _) q⟩
theorem WR_neD {x y : PyData} (hx : SeqAt.shaped x = true) (hy : SeqAt.shaped y = true) (q : Φ (.bool (!PyData.eqv x y))) : WR K p (rNeD K) x y Φ := by
  intro G H v u j dv du Q z
  exact ⟨x, y, dp_mono j.sub x v dv, dp_mono j.sub y u du, hx, hy, z _ _ G H Xt.refl j (.bl _) q⟩
/-- t[i], xs[i] -/
theorem at_nat {α : Type} {xs : List α} {i : Int} {x : α} (h : atI xs i = some x) : ∃ k : Nat, ixN xs.length i = some k ∧ xs[k]? = some x := by
  unfold atI at h
  cases e : ixN xs.length i with
  | none =>
    rw [e] at h
    cases h
  | some k =>
    rw [e] at h
    exact ⟨k, rfl, h⟩
theorem at_of_ds {G : Hp} {vs : List V} {ds : List PyData} {i : Int} {d : PyData} (h : DpAll K G vs ds) (e : atI ds i = some d) : ∃ v, atI vs i = some v ∧ Dp K G v d := by
  obtain ⟨k, h1, h2⟩ := at_nat e
  obtain ⟨v, h3, h4⟩ := dpA_get h h2
  refine ⟨v, ?_, h4⟩
  unfold atI
  rw [dpA_len h, h1]
  exact h3
theorem WR_ixT {ds : List PyData} {i : Int} {d : PyData} (h : atI ds i = some d) (q : Φ d) : WR K p (rIxT K) (.tuple ds) (.int i) Φ := by
  intro G H v u j dv du Q z
  obtain ⟨a, xs, rfl, hs, ha⟩ := dp_tup dv
  obtain ⟨w, h1, h2⟩ := at_of_ds ha h
  exact ⟨a, xs, i, w, rfl, dp_int du, sqT_mono j.sub hs, h1, z w d G H Xt.refl j h2 q⟩
theorem WR_ixL {ds : List PyData} {i : Int} {d : PyData} (h : atI ds i = some d) (q : Φ d) : WR K p (rIxL K) (.list ds) (.int i) Φ := by
  intro G H v u j dv du Q z
  obtain ⟨a, xs, rfl, hs, ha⟩ := dp_lst dv
  obtain ⟨w, h1, h2⟩ := at_of_ds ha h
  exact ⟨a, xs, i, w, rfl, dp_int du, j.sub.seq hs, h1, z w d G H Xt.refl j h2 q⟩
/-- xs[i] of a list of one's own, that stands in a slot -/
theorem W_ixM {i : Nat} {ds : List PyData} (hs : E[i]? = some (.m ds)) (h : W K p E tb fun y => ∃ k d, y = .int k ∧ atI ds k = some d ∧ Φ d) : W K p E (tOp (rIxL K) (tVar i) tb) Φ := by
  intro H0 G H σ j e Q q
  obtain ⟨l, vs, h1, h2, h3, h4, h5, h6⟩ := e.own hs
  refine ⟨_, h1, h H0 G H σ j e _ fun u y G1 H1 x1 j1 du hy => ?_⟩
  obtain ⟨k, d, rfl, hk, hd⟩ := hy
  obtain ⟨w, h7, h8⟩ := at_of_ds (dpA_mono x1.gg ds vs h3) hk
  exact ⟨l, vs, k, w, rfl, dp_int du, SqL.of (x1.hh l _ h5 h2), h7, q w d G1 H1 x1 j1 h8 hd⟩
/-- -e -/
theorem W_neg (h : W K p E ta fun x => ∃ i, x = .int i ∧ Φ (.int (-i))) : W K p E (tUn (rU fun i => .int (-i)) ta) Φ := by
  intro H0 G H σ j e Q q
  refine h H0 G H σ j e _ fun v x G1 H1 x1 j1 dv h1 => ?_
  obtain ⟨i, rfl, h1⟩ := h1
  exact ⟨i, dp_int dv, q _ _ G1 H1 x1 j1 (.int _) h1⟩

/-! ### tests -/
theorem WT_test (h : W K p E ta fun x => ∃ b, x = .bool b ∧ Θ b) : WT K p E (tTest ta) Θ := by
  intro H0 G H σ j e Q q
  refine h H0 G H σ j e _ fun v x G1 H1 x1 j1 dv h1 => ?_
  obtain ⟨b, rfl, h1⟩ := h1
  exact ⟨b, dp_bl dv, q b G1 H1 x1 j1 h1⟩
theorem WT_B (h : W K p E ta fun x => ∃ b, x = .bool b ∧ Θ b) : WT K p E (tB ta) Θ := by
  intro H0 G H σ j e Q q
  refine h H0 G H σ j e _ fun v x G1 H1 x1 j1 dv h1 => ?_
  obtain ⟨b, rfl, h1⟩ := h1
  exact ⟨b, dp_bl dv, q b G1 H1 x1 j1 h1⟩
theorem WT_yes (h : Θ true) : WT K p E tYes Θ := fun H0 G H σ j e Q q => q true G H Xt.refl j h
theorem WT_not (h : WT K p E tt fun b => Θ (!b)) : WT K p E (tNot tt) Θ := by
  intro H0 G H σ j e Q q
  exact h H0 G H σ j e _ fun b G1 H1 x1 j1 h1 => q (!b) G1 H1 x1 j1 h1
theorem WT_and (h : WT K p E tt fun b => (b = true → WT K p E tu Θ) ∧ (b = false → Θ false)) : WT K p E (tAnd tt tu) Θ := by
  intro H0 G H σ j e Q q
  refine h H0 G H σ j e _ fun b G1 H1 x1 j1 h1 => ?_
  cases b with
  | true =>
    refine iteT (h1.1 rfl H0 G1 H1 σ j1 (e.mono x1) Q fun c G2 H2 x2 j2 h2 => q c G2 H2 (x1.trans x2) j2 h2)
  | false => exact iteF (q false G1 H1 x1 j1 (h1.2 rfl))
theorem WT_or (h : WT K p E tt fun b => (b = true → Θ true) ∧ (b = false → WT K p E tu Θ)) : WT K p E (tOr tt tu) Θ := by
  intro H0 G H σ j e Q q
  refine h H0 G H σ j e _ fun b G1 H1 x1 j1 h1 => ?_
  cases b with
  | true => exact iteT (q true G1 H1 x1 j1 (h1.1 rfl))
  | false => refine iteF (h1.2 rfl H0 G1 H1 σ j1 (e.mono x1) Q fun c G2 H2 x2 j2 h2 => q c G2 H2 (x1.trans x2) j2 h2)
theorem W_andV (h : W K p E ta fun x => ∃ b, x = .bool b ∧ (b = true → W K p E tb Φ) ∧ (b = false → Φ (.bool false))) : W K p E (tAndV ta tb) Φ := by
  intro H0 G H σ j e Q q
  refine h H0 G H σ j e _ fun v x G1 H1 x1 j1 dv h1 => ?_
  obtain ⟨b, rfl, h1, h2⟩ := h1
  refine ⟨b, dp_bl dv, ?_⟩
  cases b with
  | true => exact iteT (h1 rfl H0 G1 H1 σ j1 (e.mono x1) Q fun w d G2 H2 x2 j2 dw hd => q w d G2 H2 (x1.trans x2) j2 dw hd)
  | false => exact iteF (q _ _ G1 H1 x1 j1 (.bl false) (h2 rfl))
theorem W_orV (h : W K p E ta fun x => ∃ b, x = .bool b ∧ (b = true → Φ (.bool true)) ∧ (b = false → W K p E tb Φ)) : W K p E (tOrV ta tb) Φ := by
  intro H0 G H σ j e Q q
  refine h H0 G H σ j e _ fun v x G1 H1 x1 j1 dv h1 => ?_
  obtain ⟨b, rfl, h1, h2⟩ := h1
  refine ⟨b, dp_bl dv, ?_⟩
  cases b with
  | true => exact iteT (q _ _ G1 H1 x1 j1 (.bl true) (h1 rfl))
  | false => exact iteF (h2 rfl H0 G1 H1 σ j1 (e.mono x1) Q fun w d G2 H2 x2 j2 dw hd => q w d G2 H2 (x1.trans x2) j2 dw hd)
theorem W_notV (h : W K p E ta fun x => ∃ b, x = .bool b ∧ Φ (.bool (!b))) : W K p E (tNotV ta) Φ := by
  intro H0 G H σ j e Q q
  refine h H0 G H σ j e _ fun v x G1 H1 x1 j1 dv h1 => ?_
  obtain ⟨b, rfl, h1⟩ := h1
  exact ⟨b, dp_bl dv, q _ _ G1 H1 x1 j1 (.bl _) h1⟩
theorem W_if (h : WT K p E tt fun b => (b = true → W K p E ta Φ) ∧ (b = false → W K p E tb Φ)) : W K p E (tIf tt ta tb) Φ := by
  intro H0 G H σ j e Q q
  refine h H0 G H σ j e _ fun b G1 H1 x1 j1 h1 => ?_
  cases b with
  | true => exact iteT (h1.1 rfl H0 G1 H1 σ j1 (e.mono x1) Q fun w d G2 H2 x2 j2 dw hd => q w d G2 H2 (x1.trans x2) j2 dw hd)
  | false => exact iteF (h1.2 rfl H0 G1 H1 σ j1 (e.mono x1) Q fun w d G2 H2 x2 j2 dw hd => q w d G2 H2 (x1.trans x2) j2 dw hd)

/-! ### argument lists, displays -/
theorem WA_nil (k : Ψ []) : WA K p E tNil Ψ := fun H0 G H σ j e Q q => q [] [] G H Xt.refl j .nil k
theorem WA_cons {tr : TA} (h : W K p E ta fun x => WA K p E tr fun xs => Ψ (x :: xs)) : WA K p E (tCons ta tr) Ψ := by
  intro H0 G H σ j e Q q
  refine h H0 G H σ j e _ fun v x G1 H1 x1 j1 dv h1 => ?_
  refine h1 H0 G1 H1 σ j1 (e.mono x1) _ fun vs xs G2 H2 x2 j2 dvs h2 => ?_
  exact q (v :: vs) (x :: xs) G2 H2 (x1.trans x2) j2 (.cons (dp_mono x2.gg x v dv) dvs) h2
theorem W_tup {tr : TA} (h : WA K p E tr fun xs => xs.length ≤ sizeLine ∧ Φ (.tuple xs)) : W K p E (tTup tr) Φ := by
  intro H0 G H σ j e Q q
  refine h H0 G H σ j e _ fun vs xs G1 H1 x1 j1 dvs h1 => ⟨by rw [dpA_len dvs]; exact h1.1, fun a ha => ?_⟩
  have x2 := Xt.laid (p := p) j1 (o := .tup vs) ha
  exact q _ (.tuple xs) _ _ (x1.trans x2) (j1.laid ha) (.tup (SqT.of upd_same) (dpA_mono x2.gg xs vs dvs)) h1.2
theorem WM_lst {tr : TA} (h : WA K p E tr fun xs => xs.length ≤ sizeLine ∧ Ψ xs) : WM K p E (tLst tr) Ψ := by
  intro H0 G H σ j e Q q
  refine h H0 G H σ j e _ fun vs xs G1 H1 x1 j1 dvs h1 => ⟨by rw [dpA_len dvs]; exact h1.1, fun a ha => ?_⟩
  have hpa := j1.ne ha
  have h0 : H a = none := by
    cases z : H a with
    | none => rfl
    | some o =>
      rw [x1.hh a o hpa z] at ha
      cases ha
  exact q a vs xs G1 _ (x1.trans (Xt.made j1 ha)) (j1.made (j1.free ha) hpa) h0 upd_same (j1.free ha) dvs h1.2

/-! ### calls -/
theorem W_cb {r : List V → Hp → VK → Prop} {tr : TA} (h : WA K p E tr fun xs => WC K p r xs Φ) : W K p E (tCB r tr) Φ := by
  intro H0 G H σ j e Q q
  refine h H0 G H σ j e _ fun vs xs G1 H1 x1 j1 dvs h1 => ?_
  exact h1 G1 H1 vs j1 dvs Q fun w d G2 H2 x2 j2 dw hd => q w d G2 H2 (x1.trans x2) j2 dw hd
end

/-! ### promises of defs -/
/-- a def of data: args i in, what out i says out -/
def spD {ι : Type} (K : PySem.W.Frag) (n : Nat) (args : ι → List PyData) (pre : ι → Prop) (out : ι → PyData → Prop) : Sp := fun vs H Q _ =>
  vs.length = n ∧ ∃ (p : Option Addr) (G : Hp) (i : ι), J p G H ∧ DpAll K G vs (args i) ∧ pre i ∧
    ∀ v d G' H', Xt p G H G' H' → J p G' H' → Dp K G' v d → out i d → Q v H'
/-- a def whose first argument is the pail -/
def spP {ι : Type} (K : PySem.W.Frag) (n : Nat) (args : ι → List PyData) (pre : ι → Prop) (out : ι → PyData → Prop) : Sp := fun vs H Q _ =>
  vs.length = n ∧ ∃ (a : Addr) (ws : List V) (G : Hp) (i : ι), vs = .ref a :: ws ∧ J (some a) G H ∧ DpAll K G ws (args i) ∧ pre i ∧
    ∀ v d G' H', Xt (some a) G H G' H' → J (some a) G' H' → Dp K G' v d → out i d → Q v H'
section
variable {K : PySem.W.Frag} {p : Option Addr} {E : Ev} {Φ : PyData → Prop} {ι : Type} {n : Nat} {args : ι → List PyData} {pre : ι → Prop} {out : ι → PyData → Prop}
theorem W_call {tr : TA} {X : XK} (h : WA K p E tr fun xs => ∃ i, xs = args i ∧ (args i).length = n ∧ pre i ∧ ∀ d, out i d → Φ d) : W K p E (tCall (spD K n args pre out) [] X tr) Φ := by
  intro H0 G H σ j e Q q
  refine h H0 G H σ j e _ fun vs xs G1 H1 x1 j1 dvs h1 => ?_
  obtain ⟨i, rfl, hn, hp, hk⟩ := h1
  rw [List.append_nil]
  exact ⟨(dpA_len dvs).trans hn, p, G1, i, j1, dvs, hp, fun v d G2 H2 x2 j2 dv hd => q v d G2 H2 (x1.trans x2) j2 dv (hk d hd)⟩
/-- with defaults behind -/
theorem W_callD {tr : TA} {X : XK} {dvs : List V} (hdf : dvs.all isFl = true) (h : WA K p E tr fun xs => ∃ i, xs ++ dvs.map fl = args i ∧ (args i).length = n ∧ pre i ∧ ∀ d, out i d → Φ d) : W K p E (tCall (spD K n args pre out) dvs X tr) Φ := by
  intro H0 G H σ j e Q q
  refine h H0 G H σ j e _ fun vs xs G1 H1 x1 j1 dvs' h1 => ?_
  obtain ⟨i, hi, hn, hp, hk⟩ := h1
  have hd : ∀ (us : List V), us.all isFl = true → DpAll K G1 us (us.map fl) := by
    intro us
    induction us with
    | nil => intro _; exact .nil
    | cons u us ih =>
      intro hu
      rw [List.all_cons, Bool.and_eq_true] at hu
      exact .cons (fl_ok hu.1) (ih hu.2)
  have da := dpA_append dvs' (hd dvs hdf)
  rw [hi] at da
  exact ⟨(dpA_len da).trans hn, p, G1, i, j1, da, hp, fun v d G2 H2 x2 j2 dv hd => q v d G2 H2 (x1.trans x2) j2 dv (hk d hd)⟩
/-- by keywords alone: gV puts the values in order -/
theorem W_callN {tk : TA} {X : XK} {m : Nat} {gV : List V → List V → List V} {gD : List PyData → List PyData}
    (hg : ∀ (G : Hp) (vs : List V) (ds : List PyData), DpAll K G vs ds → ds.length = m → DpAll K G (gV [] vs) (gD ds))
    (h : WA K p E tk fun xs => xs.length = m ∧ ∃ i, gD xs = args i ∧ (args i).length = n ∧ pre i ∧ ∀ d, out i d → Φ d) : W K p E (tCallN 0 m (spD K n args pre out) gV X tNil tk) Φ := by
  intro H0 G H σ j e Q q
  refine h H0 G H σ j e _ fun vs xs G1 H1 x1 j1 dvs h1 => ?_
  obtain ⟨hm, i, hi, hn, hp, hk⟩ := h1
  have da := hg G1 vs xs dvs hm
  rw [hi] at da
  exact ⟨rfl, (dpA_len dvs).trans hm, (dpA_len da).trans hn, p, G1, i, j1, da, hp, fun v d G2 H2 x2 j2 dv hd => q v d G2 H2 (x1.trans x2) j2 dv (hk d hd)⟩
theorem W_callP {tr : TA} {X : XK} {a : Addr} {k : Nat} (ha : E[k]? = some (.v (.ref a))) (h : WA K (some a) E tr fun xs => ∃ i, xs = args i ∧ (args i).length + 1 = n ∧ pre i ∧ ∀ d, out i d → Φ d) :
    W K (some a) E (tCall (spP K n args pre out) [] X (tCons (tVar k) tr)) Φ := by
  intro H0 G H σ j e Q q
  refine ⟨_, e.val ha, ?_⟩
  refine h H0 G H σ j e _ fun vs xs G1 H1 x1 j1 dvs h1 => ?_
  obtain ⟨i, rfl, hn, hp, hk⟩ := h1
  rw [List.append_nil]
  refine ⟨?_, a, vs, G1, i, rfl, j1, dvs, hp, fun v d G2 H2 x2 j2 dv hd => q v d G2 H2 (x1.trans x2) j2 dv (hk d hd)⟩
  rw [List.length_cons, dpA_len dvs]
  exact hn
end
end Rim

/-! RimS: statements, loops, comprehensions, built-ins over data; a def's body against its promise. -/
namespace Rim
open PySem PySem.Spec L2

/-! ### statements: N behind it, R what is returned, B break, C continue -/
structure Exits (K : PySem.W.Frag) (p : Option Addr) (G0 H0 : Hp) (D : Ends) (N : Ev → Prop) (R : PyData → Prop) (B C : Ev → Prop) : Prop where
  nx : ∀ (σ : L2.St) (E : Ev) (G H : Hp), Xt p G0 H0 G H → J p G H → EnvOk K p H0 G H σ E → N E → D.nx σ H
  rt : ∀ (v : V) (d : PyData) (G H : Hp), Xt p G0 H0 G H → J p G H → Dp K G v d → R d → D.rt v H
  bk : ∀ (σ : L2.St) (E : Ev) (G H : Hp), Xt p G0 H0 G H → J p G H → EnvOk K p H0 G H σ E → B E → D.bk σ H
  ct : ∀ (σ : L2.St) (E : Ev) (G H : Hp), Xt p G0 H0 G H → J p G H → EnvOk K p H0 G H σ E → C E → D.ct σ H
def S (K : PySem.W.Frag) (p : Option Addr) (E : Ev) (t : TS) (N : Ev → Prop) (R : PyData → Prop) (B C : Ev → Prop) : Prop :=
  ∀ (G0 H0 G H : Hp) (σ : L2.St), Xt p G0 H0 G H → J p G H → EnvOk K p H0 G H σ E → ∀ D : Ends, Exits K p G0 H0 D N R B C → t D σ H
abbrev Nev : Ev → Prop := fun _ => False

section
variable {K : PySem.W.Frag} {p : Option Addr} {E : Ev} {te ta tb : TE} {N B C : Ev → Prop} {R : PyData → Prop} {t u : TS} {tt : TT}

theorem S.imp {N' B' C' : Ev → Prop} {R' : PyData → Prop} (h : S K p E t N R B C) (n : ∀ E, N E → N' E) (r : ∀ d, R d → R' d) (b : ∀ E, B E → B' E) (c : ∀ E, C E → C' E) : S K p E t N' R' B' C' :=
  fun G0 H0 G H σ x j e D q => h G0 H0 G H σ x j e D ⟨fun σ E G H a b' c' d => q.nx σ E G H a b' c' (n E d), fun v d G H a b' c' z => q.rt v d G H a b' c' (r d z), fun σ E G H a b' c' d => q.bk σ E G H a b' c' (b E d), fun σ E G H a b' c' d => q.ct σ E G H a b' c' (c E d)⟩
theorem S_seq (h : S K p E t (fun E' => S K p E' u N R B C) R B C) : S K p E (tSeq t u) N R B C :=
  fun G0 H0 G H σ x j e D q => h G0 H0 G H σ x j e { D with nx := u D } ⟨fun σ' E' G' H' x' j' e' s => s G0 H0 G' H' σ' x' j' e' D q, q.rt, q.bk, q.ct⟩
/-- a statement that may go on in several ways: one word for them all -/
theorem S_cut {M : Ev → Prop} (h : S K p E t M R B C) (k : ∀ E', M E' → S K p E' u N R B C) : S K p E (tSeq t u) N R B C :=
  S_seq (h.imp k (fun _ h => h) (fun _ h => h) fun _ h => h)
theorem S_next (k : N E) : S K p E tNext N R B C := fun G0 H0 G H σ x j e D q => q.nx σ E G H x j e k
theorem S_break (k : B E) : S K p E tBreak N R B C := fun G0 H0 G H σ x j e D q => q.bk σ E G H x j e k
theorem S_cont (k : C E) : S K p E tCont N R B C := fun G0 H0 G H σ x j e D q => q.ct σ E G H x j e k
theorem S_ret (h : W K p E te R) : S K p E (tRet te) N R B C := fun G0 H0 G H σ x j e D q =>
  h H0 G H σ j e _ fun v d G' H' x' j' dv hd => q.rt v d G' H' (x.trans x') j' dv hd
theorem S_retN (k : R .none) : S K p E tRetN N R B C := fun G0 H0 G H σ x j e D q => q.rt .non .none G H x j .non k
theorem S_drop (h : W K p E te fun _ => N E) : S K p E (tDrop te) N R B C := fun G0 H0 G H σ x j e D q =>
  h H0 G H σ j e _ fun v d G' H' x' j' dv hd => q.nx σ E G' H' (x.trans x') j' (e.mono x') hd
theorem S_asg {i : Nat} (hi : i < E.length) (h : W K p E te fun d => N (E.set i (.d d))) : S K p E (tAsg te (gName i)) N R B C := fun G0 H0 G H σ x j e D q =>
  h H0 G H σ j e _ fun v d G' H' x' j' dv hd => q.nx _ _ G' H' (x.trans x') j' ((e.mono x').setD (by rw [e.len]; exact hi) dv) hd
theorem Xt.fresh {G0 H0 G H : Hp} (x : Xt p G0 H0 G H) (j : J p G H) {l : Addr} (h : H l = none) : H0 l = none := by
  cases z : H0 l with
  | none => rfl
  | some o =>
    rw [x.hh l o (j.ne h) z] at h
    cases h
theorem S_asgM {i : Nat} (hi : i < E.length) (h : WM K p E te fun ds => N (E.set i (.m ds))) : S K p E (tAsg te (gName i)) N R B C := fun G0 H0 G H σ x j e D q =>
  h H0 G H σ j e _ fun l vs ds G' H' x' j' hn hl hg dv hd => by
    refine q.nx _ _ G' H' (x.trans x') j' ((e.mono x').setM (by rw [e.len]; exact hi) (fun k es m h1 h2 => ?_) hl dv hg (j.ne hn) (x.fresh j hn)) hd
    obtain ⟨l', vs', z1, z2, _⟩ := e.own h1
    rw [z1] at h2
    cases h2
    exact ne_of_none z2 hn
theorem S_if (h : WT K p E tt fun b => (b = true → S K p E t N R B C) ∧ (b = false → S K p E u N R B C)) : S K p E (tIfS tt t u) N R B C := fun G0 H0 G H σ x j e D q =>
  h H0 G H σ j e _ fun b G' H' x' j' hb => by
    cases b with
    | true => exact iteT (hb.1 rfl G0 H0 G' H' σ (x.trans x') j' (e.mono x') D q)
    | false => exact iteF (hb.2 rfl G0 H0 G' H' σ (x.trans x') j' (e.mono x') D q)
/-- a list of one's own is one's own no longer -/
theorem S_froze {i : Nat} {ds : List PyData} (hs : E[i]? = some (.m ds)) (h : S K p (E.set i (.d (.list ds))) t N R B C) : S K p E t N R B C := fun G0 H0 G H σ x j e D q => by
  obtain ⟨l, vs, h1, h2, h3, h4, h5, h6⟩ := e.own hs
  have e1 : Same G (upd G l (.lst vs)) := fun a o z => by
    rw [upd_ne (ne_of_none z h4)]
    exact z
  have hi := e.has hs
  have x1 : Xt p G0 H0 (upd G l (.lst vs)) H := ⟨x.gg.trans e1, x.hh, fun a ha hH hG => by
    have hne : a ≠ l := fun z => hH (by rw [z]; exact h6)
    rw [upd_ne hne]
    exact x.fr a ha hH hG⟩
  refine h G0 H0 (upd G l (.lst vs)) H σ x1 (j.frozen h2 h5) ?_ D q
  have hE : i < E.length := by rw [← e.len]; exact hi
  refine ⟨by rw [List.length_set]; exact e.len, fun k s hk => ?_, fun a b ds' es m hab ha hb z1 => ?_⟩
  · rw [get_set hE] at hk
    by_cases w : k = i
    · rw [if_pos w] at hk
      cases hk
      exact ⟨.ref l, by rw [w]; exact h1, .lst (SqL.of upd_same) (dpA_mono e1 ds vs h3)⟩
    · rw [if_neg w] at hk
      have z := e.at_ k s hk
      cases s with
      | un => trivial
      | v v => exact z
      | d d =>
        obtain ⟨v, z1, z2⟩ := z
        exact ⟨v, z1, dp_mono e1 d v z2⟩
      | m es =>
        obtain ⟨m, us, z1, z2, z3, z4, z5⟩ := z
        have hne : m ≠ l := fun y => e.ap i k ds es l (Ne.symm w) hs hk h1 (by rw [← y]; exact z1)
        exact ⟨m, us, z1, z2, dpA_mono e1 es us z3, by rw [upd_ne hne]; exact z4, z5⟩
  · rw [get_set hE] at ha hb
    by_cases qa : a = i
    · rw [if_pos qa] at ha
      cases ha
    · by_cases qb : b = i
      · rw [if_pos qb] at hb
        cases hb
      · rw [if_neg qa] at ha
        rw [if_neg qb] at hb
        exact e.ap a b ds' es m hab ha hb z1
/-- a, b = t: data into names -/
def TGok (K : PySem.W.Frag) (p : Option Addr) (E : Ev) (g : TG) (d : PyData) (N : Ev → Prop) : Prop :=
  ∀ (H0 G H : Hp) (σ : L2.St) (v : V), J p G H → EnvOk K p H0 G H σ E → Dp K G v d → ∀ Q : L2.St → Hp → Prop, (∀ σ' E', EnvOk K p H0 G H σ' E' → N E' → Q σ' H) → g v σ H Q
def TGsok (K : PySem.W.Frag) (p : Option Addr) (E : Ev) (g : TGs) (ds : List PyData) (N : Ev → Prop) : Prop :=
  ∀ (H0 G H : Hp) (σ : L2.St) (vs : List V), J p G H → EnvOk K p H0 G H σ E → DpAll K G vs ds → ∀ Q : L2.St → Hp → Prop, (∀ σ' E', EnvOk K p H0 G H σ' E' → N E' → Q σ' H) → g vs σ H Q
theorem TG_name {i : Nat} {d : PyData} (hi : i < E.length) (k : N (E.set i (.d d))) : TGok K p E (gName i) d N := fun H0 G H σ v j e dv Q q =>
  q _ _ (e.setD (by rw [e.len]; exact hi) dv) k
theorem TGs_nil (k : N E) : TGsok K p E gNil [] N := fun H0 G H σ vs j e dv Q q => by
  cases dv
  exact ⟨rfl, q σ E e k⟩
theorem TGs_cons {g : TG} {gs : TGs} {d : PyData} {ds : List PyData} (h : TGok K p E g d fun E' => TGsok K p E' gs ds N) : TGsok K p E (gCons g gs) (d :: ds) N := fun H0 G H σ vs j e dv Q q => by
  cases dv with
  | cons a b =>
    refine ⟨_, _, rfl, h H0 G H σ _ j e a _ fun σ' E' e' k => ?_⟩
    exact k H0 G H σ' _ j e' b Q q
theorem TG_tup {n : Nat} {gs : TGs} {ds : List PyData} (hn : ds.length = n) (h : TGsok K p E gs ds N) : TGok K p E (gTup K n gs) (.tuple ds) N := fun H0 G H σ v j e dv Q q => by
  obtain ⟨a, xs, rfl, hs, ha⟩ := dp_tup dv
  exact ⟨a, xs, rfl, sqT_mono j.sub hs, (dpA_len ha).trans hn, h H0 G H σ xs j e ha Q q⟩
theorem S_asgG {g : TG} (h : W K p E te fun d => TGok K p E g d N) : S K p E (tAsg te g) N R B C := fun G0 H0 G H σ x j e D q =>
  h H0 G H σ j e _ fun v d G' H' x' j' dv hd => hd H0 G' H' σ v j' (e.mono x') dv _ fun σ' E' e' k => q.nx σ' E' G' H' (x.trans x') j' e' k
/-- a, b = e1, e2 into two names -/
theorem S_par {i k : Nat} {tr : TA} (hi : i < E.length) (hk : k < E.length) (h : WA K p E tr fun ds => ∃ a b, ds = [a, b] ∧ N ((E.set i (.d a)).set k (.d b))) : S K p E (tPar i k tr) N R B C := fun G0 H0 G H σ x j e D q =>
  h H0 G H σ j e _ fun vs ds G' H' x' j' dv hd => by
    obtain ⟨a, b, rfl, hn⟩ := hd
    cases dv with
    | cons da dv =>
      cases dv with
      | cons db dv =>
        cases dv
        refine ⟨_, _, rfl, q.nx _ _ G' H' (x.trans x') j' (((e.mono x').setD (by rw [e.len]; exact hi) da).setD ?_ db) hn⟩
        rw [List.length_set, e.len]
        exact hk
/-- x op= e upon ints -/
theorem S_augI {i : Nat} {f : Int → Int → Int} {a : Int} (hs : E[i]? = some (.d (.int a))) (h : W K p E te fun d => ∃ b, d = .int b ∧ N (E.set i (.d (.int (f a b))))) : S K p E (tAug i te (ipI f)) N R B C := fun G0 H0 G H σ x j e D q => by
  obtain ⟨v, h1, h2⟩ := e.dat hs
  refine ⟨v, h1, h H0 G H σ j e _ fun u d G' H' x' j' dv hd => ?_⟩
  obtain ⟨b, rfl, hn⟩ := hd
  exact ⟨a, b, dp_int h2, dp_int dv, q.nx _ _ G' H' (x.trans x') j' ((e.mono x').setD (e.has hs) (.int _)) hn⟩

/-! ### lists of one's own -/
theorem Xt.chg {G0 H0 G H : Hp} (x : Xt p G0 H0 G H) {l : Addr} {o : HO} (h0 : H0 l = none) : Xt p G0 H0 G (upd H l o) :=
  ⟨x.gg, fun a u ha hu => by
    rw [upd_ne (ne_of_none hu h0)]
    exact x.hh a u ha hu, x.fr⟩
/-- xs[k] = e -/
theorem S_setM {i : Nat} {ti : TE} {ds : List PyData} (hs : E[i]? = some (.m ds))
    (h : W K p E te fun d => W K p E ti fun y => ∃ (k : Int) (n : Nat), y = .int k ∧ ixN ds.length k = some n ∧ N (E.set i (.m (ds.set n d)))) :
    S K p E (tAsg te (gSub (tVar i) ti rSetL)) N R B C := fun G0 H0 G H σ x j e D q =>
  h H0 G H σ j e _ fun v d G1 H1 x1 j1 dv h1 => by
    have e1 := e.mono x1
    obtain ⟨l, vs, z1, z2, z3, z4, z5, z6⟩ := e1.own hs
    refine ⟨_, z1, h1 H0 G1 H1 σ j1 e1 _ fun u y G2 H2 x2 j2 du h2 => ?_⟩
    obtain ⟨k, n, rfl, hk, hn⟩ := h2
    have e2 := e1.mono x2
    obtain ⟨l', vs', y1, y2, y3, y4, y5, y6⟩ := e2.own hs
    rw [z1] at y1
    cases y1
    refine ⟨l, vs', k, n, rfl, dp_int du, y2, by rw [dpA_len y3]; exact hk, ?_⟩
    exact q.nx σ _ G2 _ (((x.trans x1).trans x2).chg y6) (j2.made y4 y5) (e2.chg hs z1 y2 (dpA_set (dp_mono x2.gg d v dv) n y3) y4 y5 y6) hn
/-- xs.append(e) -/
theorem S_app {i : Nat} {ds : List PyData} (hs : E[i]? = some (.m ds)) (hz : ds.length < sizeLine) (h : W K p E te fun d => N (E.set i (.m (ds ++ [d])))) :
    S K p E (tDrop (tBM K "list" rAppend (tVar i) (tCons te tNil))) N R B C := fun G0 H0 G H σ x j e D q => by
  obtain ⟨l, vs, z1, z2, z3, z4, z5, z6⟩ := e.own hs
  refine ⟨_, z1, Or.inl ⟨rfl, _, Or.inl (Or.inl z2)⟩, h H0 G H σ j e _ fun v d G1 H1 x1 j1 dv h1 => ?_⟩
  have e1 := e.mono x1
  obtain ⟨l', vs', y1, y2, y3, y4, y5, y6⟩ := e1.own hs
  rw [z1] at y1
  cases y1
  refine ⟨l, vs', v, rfl, rfl, y2, by rw [dpA_len y3]; exact hz, ?_⟩
  exact q.nx σ _ G1 _ ((x.trans x1).chg y6) (j1.made y4 y5) (e1.chg hs z1 y2 (dpA_append y3 (.cons dv .nil)) y4 y5 y6) h1

/-! ### loops -/
theorem Xt.from {G0 H0 G1 H1 G H : Hp} (x1 : Xt p G0 H0 G1 H1) (x : Xt p G0 H0 G H) (g : Same G1 G) : Xt p G1 H0 G H :=
  ⟨g, x.hh, fun a ha hH hG => x.fr a ha hH (by
    cases z : G0 a with
    | none => rfl
    | some o =>
      rw [x1.gg a o z] at hG
      cases hG)⟩
theorem Xt.back {G0 H0 G1 H1 G H : Hp} (x1 : Xt p G0 H0 G1 H1) (x : Xt p G1 H0 G H) : Xt p G0 H0 G H :=
  ⟨x1.gg.trans x.gg, x.hh, fun a ha hH hG => x.fr a ha hH (x1.fr a ha hH hG)⟩
theorem Exits.from {G0 H0 G1 H1 : Hp} {D : Ends} (q : Exits K p G0 H0 D N R B C) (x1 : Xt p G0 H0 G1 H1) : Exits K p G1 H0 D N R B C :=
  ⟨fun σ E G H x j e n => q.nx σ E G H (x1.back x) j e n, fun v d G H x j dv r => q.rt v d G H (x1.back x) j dv r,
    fun σ E G H x j e n => q.bk σ E G H (x1.back x) j e n, fun σ E G H x j e n => q.ct σ E G H (x1.back x) j e n⟩
/-- the state of a loop between two turns -/
def Lp (K : PySem.W.Frag) (p : Option Addr) (G1 H0 : Hp) (I : Ev → Prop) (σ : L2.St) (H : Hp) : Prop :=
  ∃ E G, Xt p G1 H0 G H ∧ J p G H ∧ EnvOk K p H0 G H σ E ∧ I E
theorem Lp.exits {G0 H0 G1 H1 : Hp} {D : Ends} {I : Ev → Prop} (q : Exits K p G0 H0 D N R B C) (x1 : Xt p G0 H0 G1 H1) :
    Exits K p G1 H0 { D with nx := Lp K p G1 H0 I, ct := Lp K p G1 H0 I, bk := D.nx } I R N I :=
  ⟨fun σ E G H x j e i => ⟨E, G, x, j, e, i⟩, fun v d G H x j dv r => q.rt v d G H (x1.back x) j dv r,
    fun σ E G H x j e n => q.nx σ E G H (x1.back x) j e n, fun σ E G H x j e i => ⟨E, G, x, j, e, i⟩⟩
/-- for g in a list that nobody changes -/
theorem S_forL {g : TG} {tl : TE}
    (h : W K p E tl fun d => ∃ ds, d = .list ds ∧ ∃ Inv : Nat → Ev → Prop, Inv 0 E ∧
      (∀ k x E', ds[k]? = some x → Inv k E' → TGok K p E' g x fun E2 => S K p E2 t (Inv (k + 1)) R N (Inv (k + 1))) ∧ ∀ E', Inv ds.length E' → N E') :
    S K p E (tFor (iList K tl) g t) N R B C := fun G0 H0 G H σ x j e D q =>
  h H0 G H σ j e _ fun v d G1 H1 x1 j1 dv h1 => by
    obtain ⟨ds, rfl, Inv, i0, is, id⟩ := h1
    obtain ⟨a, xs, rfl, hs, ha⟩ := dp_lst dv
    have z1 := x.trans x1
    refine ⟨a, rfl, ⟨xs, j1.sub.seq hs⟩, ?_⟩
    refine for_list (xs := xs) (fun k σ' H' => Lp K p G1 H0 (Inv k) σ' H') ⟨E, G1, Xt.from z1 z1 (Same.refl _), j1, e.mono x1, i0⟩ ?_ ?_ ?_
    · rintro k σ' H' _ ⟨E', G', x', j', e', i'⟩
      exact (x'.gg.trans j'.sub).seq hs
    · rintro k y σ' H' hy ⟨E', G', x', j', e', i'⟩
      obtain ⟨d, hd, dy⟩ := dpA_at ha hy
      refine is k d E' hd i' H0 G' H' σ' y j' e' (dp_mono x'.gg d y dy) _ fun σ2 E2 e2 s2 => ?_
      exact s2 G1 H0 G' H' σ2 x' j' e2 _ (Lp.exits q z1)
    · rintro σ' H' ⟨E', G', x', j', e', i'⟩
      refine q.nx σ' E' G' H' (z1.back x') j' e' (id E' ?_)
      rw [← dpA_len ha]
      exact i'
/-- for g in a tuple -/
theorem S_forT {g : TG} {tl : TE}
    (h : W K p E tl fun d => ∃ ds, d = .tuple ds ∧ ∃ Inv : Nat → Ev → Prop, Inv 0 E ∧
      (∀ k x E', ds[k]? = some x → Inv k E' → TGok K p E' g x fun E2 => S K p E2 t (Inv (k + 1)) R N (Inv (k + 1))) ∧ ∀ E', Inv ds.length E' → N E') :
    S K p E (tFor (iTup K tl) g t) N R B C := fun G0 H0 G H σ x j e D q =>
  h H0 G H σ j e _ fun v d G1 H1 x1 j1 dv h1 => by
    obtain ⟨ds, rfl, Inv, i0, is, id⟩ := h1
    obtain ⟨a, xs, rfl, hs, ha⟩ := dp_tup dv
    have z1 := x.trans x1
    refine ⟨a, rfl, ⟨xs, sqT_mono j1.sub hs⟩, ?_⟩
    refine for_tup (xs := xs) (fun k σ' H' => Lp K p G1 H0 (Inv k) σ' H') ⟨E, G1, Xt.from z1 z1 (Same.refl _), j1, e.mono x1, i0⟩ ?_ ?_ ?_
    · rintro k σ' H' _ ⟨E', G', x', j', e', i'⟩
      exact sqT_mono (x'.gg.trans j'.sub) hs
    · rintro k y σ' H' hy ⟨E', G', x', j', e', i'⟩
      obtain ⟨d, hd, dy⟩ := dpA_at ha hy
      refine is k d E' hd i' H0 G' H' σ' y j' e' (dp_mono x'.gg d y dy) _ fun σ2 E2 e2 s2 => ?_
      exact s2 G1 H0 G' H' σ2 x' j' e2 _ (Lp.exits q z1)
    · rintro σ' H' ⟨E', G', x', j', e', i'⟩
      refine q.nx σ' E' G' H' (z1.back x') j' e' (id E' ?_)
      rw [← dpA_len ha]
      exact i'
/-- for k in range(n) -/
theorem S_forR1 {g : TG} {tr : TA}
    (h : WA K p E tr fun ds => ∃ n : Int, ds = [.int n] ∧ (-(2 ^ 62) ≤ n ∧ n < 2 ^ 62) ∧ ∃ Inv : Nat → Ev → Prop, Inv 0 E ∧
      (∀ (k : Nat) E', (k : Int) < n → Inv k E' → TGok K p E' g (.int k) fun E2 => S K p E2 t (Inv (k + 1)) R N (Inv (k + 1))) ∧ ∀ E', Inv n.toNat E' → N E') :
    S K p E (tFor (iRng1 tr) g t) N R B C := fun G0 H0 G H σ x j e D q =>
  h H0 G H σ j e _ fun vs ds G1 H1 x1 j1 dv h1 => by
    obtain ⟨n, rfl, ⟨hn1, hn2⟩, Inv, i0, is, id⟩ := h1
    have z1 := x.trans x1
    cases dv with
    | cons da db =>
      cases db
      cases da
      refine ⟨n, rfl, hn1, hn2, ?_⟩
      refine for_range (lo := 0) (n := n.toNat) (fun k σ' H' => Lp K p G1 H0 (Inv k) σ' H') ⟨E, G1, Xt.from z1 z1 (Same.refl _), j1, e.mono x1, i0⟩ ?_ ?_
      · rintro k σ' H' hk ⟨E', G', x', j', e', i'⟩
        have e0 : (0 : Int) + (k : Int) = (k : Int) := Int.zero_add _
        rw [e0]
        refine is k E' (by omega) i' H0 G' H' σ' _ j' e' (.int _) _ fun σ2 E2 e2 s2 => ?_
        exact s2 G1 H0 G' H' σ2 x' j' e2 _ (Lp.exits q z1)
      · rintro σ' H' ⟨E', G', x', j', e', i'⟩
        exact q.nx σ' E' G' H' (z1.back x') j' e' (id E' i')
/-- while: a word with its measure -/
theorem S_while (W0 : Nat → Ev → Prop) (m0 : Nat) (h0 : W0 m0 E)
    (hs : ∀ m E', W0 m E' → WT K p E' tt fun b => (b = true → S K p E' t (fun E2 => ∃ m', m' < m ∧ W0 m' E2) R N (fun E2 => ∃ m', m' < m ∧ W0 m' E2)) ∧ (b = false → N E')) :
    S K p E (tWhile tt t) N R B C := fun G0 H0 G H σ x j e D q => by
  refine ⟨fun m σ' H' => Lp K p G0 H0 (W0 m) σ' H', ⟨m0, E, G, x, j, e, h0⟩, ?_⟩
  rintro m σ' H' ⟨E', G', x', j', e', i'⟩
  refine hs m E' i' H0 G' H' σ' j' e' _ fun b G2 H2 x2 j2 h2 => ?_
  cases b with
  | true =>
    refine iteT ⟨Lp K p G0 H0 fun E2 => ∃ m', m' < m ∧ W0 m' E2, ?_, ?_⟩
    · rintro σ3 H3 ⟨E3, G3, x3, j3, e3, m', hm, w3⟩
      exact ⟨m', hm, E3, G3, x3, j3, e3, w3⟩
    · exact h2.1 rfl G0 H0 G2 H2 σ' (x'.trans x2) j2 (e'.mono x2) _ (Lp.exits q (Xt.refl (H := H0)))
  | false => exact iteF (q.nx σ' E' G2 H2 (x'.trans x2) j2 (e'.mono x2) (h2.2 rfl))
end

/-! ### comprehensions -/
def wipeE (E : Ev) : List Nat → Ev
  | [] => E
  | v :: vs => (wipeE E vs).set v .un
theorem env_wipe {K : PySem.W.Frag} {p : Option Addr} {H0 G H : Hp} {σ : L2.St} {E : Ev} (e : EnvOk K p H0 G H σ E) : ∀ vs : List Nat, EnvOk K p H0 G H (wipe σ vs) (wipeE E vs)
  | [] => e
  | v :: vs => (env_wipe e vs).setU
theorem wipe_len (σ : L2.St) (vs : List Nat) : (wipe σ vs).length = σ.length := wipe_length σ vs
section
variable {K : PySem.W.Frag} {p : Option Addr} {E : Ev} {te tl : TE} {tt : TT} {Φ : List PyData → Prop}
/-- what a turn of a comprehension does: the target, the test, the element -/
def Turn1 (K : PySem.W.Frag) (p : Option Addr) (E : Ev) (g : TG) (tt : TT) (te : TE) (vs : List Nat) (x : PyData) (acc : List PyData) (I : List PyData → Prop) : Prop :=
  ∀ (H0 G H : Hp) (σ : L2.St) (v : V), J p G H → EnvOk K p H0 G H σ E → Dp K G v x → ∀ Q : L2.St → Hp → Prop,
    (∀ σ2 E2, EnvOk K p H0 G H σ2 E2 → wipe σ2 vs = wipe σ vs → WT K p E2 tt (fun b => (b = true → W K p E2 te fun y => I (acc ++ [y])) ∧ (b = false → I acc)) → Q σ2 H) → g v (wipe σ vs) H Q
theorem turn_name {i : Nat} {x : PyData} {acc : List PyData} {I : List PyData → Prop} (hi : i < E.length)
    (h : WT K p (E.set i (.d x)) tt fun b => (b = true → W K p (E.set i (.d x)) te fun y => I (acc ++ [y])) ∧ (b = false → I acc)) : Turn1 K p E (gName i) tt te [i] x acc I := by
  intro H0 G H σ v j e dv Q q
  have hs : i < σ.length := by rw [e.len]; exact hi
  show Q ((σ.set i none).set i (some v)) H
  rw [List.set_set]
  refine q _ _ (e.setD hs dv) ?_ h
  show (σ.set i (some v)).set i none = σ.set i none
  rw [List.set_set]
/-- two names of a pair -/
theorem turn_pair {i k : Nat} {a b : PyData} {acc : List PyData} {I : List PyData → Prop} (hi : i < E.length) (hk : k < E.length) (hik : i ≠ k)
    (h : WT K p ((E.set i (.d a)).set k (.d b)) tt fun c => (c = true → W K p ((E.set i (.d a)).set k (.d b)) te fun y => I (acc ++ [y])) ∧ (c = false → I acc)) :
    Turn1 K p E (gTup K 2 (gCons (gName i) (gCons (gName k) gNil))) tt te [i, k] (.tuple [a, b]) acc I := by
  intro H0 G H σ v j e dv Q q
  have hs : i < σ.length := by rw [e.len]; exact hi
  have hs2 : k < σ.length := by rw [e.len]; exact hk
  obtain ⟨ad, xs, rfl, hsq, ha⟩ := dp_tup dv
  cases ha with
  | cons d1 ha =>
    cases ha with
    | cons d2 ha =>
      cases ha
      refine ⟨ad, _, rfl, sqT_mono j.sub hsq, rfl, _, _, rfl, _, _, rfl, rfl, ?_⟩
      have e2 := (e.setD hs d1).setD (by rw [List.length_set]; exact hs2) d2
      have w1 : wipe σ [i, k] = (σ.set k none).set i none := rfl
      rename_i v1 v2
      have w2 : (((σ.set k none).set i none).set i (some v1)).set k (some v2) = (σ.set i (some v1)).set k (some v2) := by
        rw [List.set_set, List.set_comm _ _ (Ne.symm hik), List.set_set]
      rw [w1, w2]
      refine q _ _ e2 ?_ h
      show ((((σ.set i (some v1)).set k (some v2)).set k none).set i none) = (σ.set k none).set i none
      rw [List.set_set, List.set_comm _ _ hik, List.set_set, List.set_comm _ _ (Ne.symm hik)]

/-- the list of a comprehension while it grows -/
def Grow (K : PySem.W.Frag) (p : Option Addr) (G1 H1 : Hp) (D : Addr) (k : Nat) (I : List PyData → Prop) (H : Hp) : Prop :=
  ∃ G us acc, Xt p G1 H1 G H ∧ J p G H ∧ H D = some (.lst us) ∧ G D = none ∧ DpAll K G us acc ∧ acc.length ≤ k ∧ I acc
theorem grow_turn {G1 H1 H0 : Hp} {D : Addr} {k : Nat} {I I' : List PyData → Prop} {H : Hp} {σ : L2.St} {g : TG} {vs : List Nat} {x : PyData} {v : V}
    (hD : H1 D = none) (hp : p ≠ some D) (e : EnvOk K p H0 G1 H1 σ E) (dv : Dp K G1 v x) (hk : k < sizeLine) (q : Grow K p G1 H1 D k I H)
    (h : ∀ acc, I acc → Turn1 K p E g tt te vs x acc I') :
    g v (wipe σ vs) H fun σ2 H2 => wipe σ2 vs = wipe σ vs ∧ tt σ2 H2 fun b H3 =>
      if b = true then te σ2 H3 fun y H4 => ∃ acc, H4 D = some (.lst acc) ∧ acc.length < sizeLine ∧ Grow K p G1 H1 D (k + 1) I' (upd H4 D (.lst (acc ++ [y]))) else Grow K p G1 H1 D (k + 1) I' H3 := by
  obtain ⟨G, us, acc, x1, j1, h1, h2, h3, h4, h5⟩ := q
  refine h acc h5 H0 G H σ v j1 (e.mono x1) (dp_mono x1.gg x v dv) _ fun σ2 E2 e2 w2 wt => ⟨w2, ?_⟩
  refine wt H0 G H σ2 j1 e2 _ fun b G3 H3 x3 j3 hb => ?_
  have hD3 := x3.hh D _ hp h1
  have hG3 := x3.fr D hp (by rw [h1]; exact Option.some_ne_none _) h2
  cases b with
  | false => exact iteF ⟨G3, us, acc, x1.trans x3, j3, hD3, hG3, dpA_mono x3.gg acc us h3, by omega, hb.2 rfl⟩
  | true =>
    refine iteT (hb.1 rfl H0 G3 H3 σ2 j3 (e2.mono x3) _ fun y d G4 H4 x4 j4 dy hd => ?_)
    have hD4 := x4.hh D _ hp hD3
    have hG4 := x4.fr D hp (by rw [hD3]; exact Option.some_ne_none _) hG3
    have d4 := dpA_mono (x3.gg.trans x4.gg) acc us h3
    refine ⟨us, hD4, by rw [dpA_len d4]; omega, G4, us ++ [y], acc ++ [d], ((x1.trans x3).trans x4).chg hD, j4.made hG4 hp, upd_same, hG4, dpA_append d4 (.cons dy .nil), ?_, hd⟩
    rw [List.length_append, List.length_singleton]
    omega
theorem grow_start {G1 H1 : Hp} {D : Addr} {I : List PyData → Prop} (hD : H1 D = none) (j : J p G1 H1) (i : I []) : Grow K p G1 H1 D 0 I (upd H1 D (.lst [])) :=
  ⟨G1, [], [], Xt.made j hD, j.made (j.free hD) (j.ne hD), upd_same, j.free hD, .nil, Nat.le_refl _, i⟩
/-- [te for g in a list if tt] -/
theorem WM_lcL {g : TG} {vs : List Nat}
    (h : W K p E tl fun d => ∃ ds, d = .list ds ∧ ds.length ≤ sizeLine ∧ ∃ Inv : Nat → List PyData → Prop, Inv 0 [] ∧
      (∀ k x acc, ds[k]? = some x → Inv k acc → Turn1 K p E g tt te vs x acc (Inv (k + 1))) ∧ ∀ acc, Inv ds.length acc → Φ acc) :
    WM K p E (tLc (iList K tl) g tt te vs) Φ := by
  intro H0 G H σ j e Q q
  refine h H0 G H σ j e _ fun v d G1 H1 x1 j1 dv h1 => ?_
  obtain ⟨ds, rfl, hz, Inv, i0, is, id⟩ := h1
  obtain ⟨a, xs, rfl, hs, ha⟩ := dp_lst dv
  refine ⟨a, rfl, ⟨xs, j1.sub.seq hs⟩, fun D hD => ?_⟩
  refine lc_list (xs := xs) (fun k H' => Grow K p G1 H1 D k (Inv k) H') (grow_start hD j1 i0) ?_ ?_ ?_
  · rintro k H' _ ⟨G', us, acc, x', j', _⟩
    exact (x'.gg.trans j'.sub).seq hs
  · intro k y H' hy hg
    obtain ⟨d, hd, dy⟩ := dpA_at ha hy
    have hk : k < xs.length := (List.getElem?_eq_some_iff.mp hy).1
    exact grow_turn hD (j1.ne hD) (e.mono x1) dy (by rw [dpA_len ha] at hk; omega) hg fun acc i => is k d acc hd i
  · rintro H' ⟨G', us, acc, x', j', hD', hG', da, hl, hi⟩
    have hn : H D = none := by
      cases z : H D with
      | none => rfl
      | some o =>
        rw [x1.hh D o (j1.ne hD) z] at hD
        cases hD
    rw [dpA_len ha] at hi
    exact q D us acc G' H' (x1.trans x') j' hn hD' hG' da (id acc hi)
/-- [te for g in a tuple if tt] -/
theorem WM_lcT {g : TG} {vs : List Nat}
    (h : W K p E tl fun d => ∃ ds, d = .tuple ds ∧ ds.length ≤ sizeLine ∧ ∃ Inv : Nat → List PyData → Prop, Inv 0 [] ∧
      (∀ k x acc, ds[k]? = some x → Inv k acc → Turn1 K p E g tt te vs x acc (Inv (k + 1))) ∧ ∀ acc, Inv ds.length acc → Φ acc) :
    WM K p E (tLc (iTup K tl) g tt te vs) Φ := by
  intro H0 G H σ j e Q q
  refine h H0 G H σ j e _ fun v d G1 H1 x1 j1 dv h1 => ?_
  obtain ⟨ds, rfl, hz, Inv, i0, is, id⟩ := h1
  obtain ⟨a, xs, rfl, hs, ha⟩ := dp_tup dv
  refine ⟨a, rfl, ⟨xs, sqT_mono j1.sub hs⟩, fun D hD => ?_⟩
  refine lc_tup (xs := xs) (fun k H' => Grow K p G1 H1 D k (Inv k) H') (grow_start hD j1 i0) ?_ ?_ ?_
  · rintro k H' _ ⟨G', us, acc, x', j', _⟩
    exact sqT_mono (x'.gg.trans j'.sub) hs
  · intro k y H' hy hg
    obtain ⟨d, hd, dy⟩ := dpA_at ha hy
    have hk : k < xs.length := (List.getElem?_eq_some_iff.mp hy).1
    exact grow_turn hD (j1.ne hD) (e.mono x1) dy (by rw [dpA_len ha] at hk; omega) hg fun acc i => is k d acc hd i
  · rintro H' ⟨G', us, acc, x', j', hD', hG', da, hl, hi⟩
    have hn : H D = none := by
      cases z : H D with
      | none => rfl
      | some o =>
        rw [x1.hh D o (j1.ne hD) z] at hD
        cases hD
    rw [dpA_len ha] at hi
    exact q D us acc G' H' (x1.trans x') j' hn hD' hG' da (id acc hi)
/-- [te for g in range(n) if tt] -/
theorem WM_lcR1 {g : TG} {vs : List Nat} {tr : TA}
    (h : WA K p E tr fun ds => ∃ n : Int, ds = [.int n] ∧ n ≤ (sizeLine : Int) ∧ -(2 ^ 62) ≤ n ∧ ∃ Inv : Nat → List PyData → Prop, Inv 0 [] ∧
      (∀ (k : Nat) acc, (k : Int) < n → Inv k acc → Turn1 K p E g tt te vs (.int k) acc (Inv (k + 1))) ∧ ∀ acc, Inv n.toNat acc → Φ acc) :
    WM K p E (tLc (iRng1 tr) g tt te vs) Φ := by
  intro H0 G H σ j e Q q
  refine h H0 G H σ j e _ fun ws ds G1 H1 x1 j1 dv h1 => ?_
  obtain ⟨n, rfl, hz, hlo, Inv, i0, is, id⟩ := h1
  cases dv with
  | cons da db =>
    cases db
    cases da
    have hsz : sizeLine = 16777216 := sizeLine_eq
    refine ⟨n, rfl, hlo, by omega, fun D hD => ?_⟩
    refine lc_range (lo := 0) (n := n.toNat) (fun k H' => Grow K p G1 H1 D k (Inv k) H') (grow_start hD j1 i0) ?_ ?_
    · intro k H' hk hg
      have e0 : (0 : Int) + (k : Int) = (k : Int) := Int.zero_add _
      rw [e0]
      exact grow_turn hD (j1.ne hD) (e.mono x1) (.int (k : Int)) (by omega) hg fun acc i => is k acc (by omega) i
    · rintro H' ⟨G', us, acc, x', j', hD', hG', da, hl, hi⟩
      have hn : H D = none := by
        cases z : H D with
        | none => rfl
        | some o =>
          rw [x1.hh D o (j1.ne hD) z] at hD
          cases hD
      exact q D us acc G' H' (x1.trans x') j' hn hD' hG' da (id acc hi)
end

/-! ### a def's body against its promise -/
def ends (E : List PyData) (n : Nat) : Ev := E.map Sl.d ++ List.replicate n Sl.un
theorem env_start {K : PySem.W.Frag} {p : Option Addr} {G H : Hp} {N : List Str} {vs : List V} {ds : List PyData} (h : DpAll K G vs ds) (n : Nat) (hn : N.length = vs.length + n) :
    EnvOk K p H G H (start N vs) (ends ds n) := by
  have hl := dpA_len h
  have e1 : N.length - vs.length = n := by omega
  unfold L2.start ends
  rw [e1]
  refine ⟨by rw [List.length_append, List.length_append, List.length_map, List.length_map, List.length_replicate, List.length_replicate, hl], fun i s hs => ?_, fun a b ds' es l _ ha => ?_⟩
  · by_cases hi : i < ds.length
    · rw [List.getElem?_append_left (by rw [List.length_map]; exact hi), List.getElem?_map] at hs
      rw [List.getElem?_append_left (by rw [List.length_map, hl]; exact hi), List.getElem?_map]
      have hd : ds[i]? = some (ds[i]'hi) := List.getElem?_eq_getElem hi
      obtain ⟨v, h1, h2⟩ := dpA_get h hd
      rw [hd] at hs
      cases hs
      rw [h1]
      exact ⟨v, rfl, h2⟩
    · rw [List.getElem?_append_right (by rw [List.length_map]; omega), List.getElem?_replicate] at hs
      split at hs
      · cases hs
        trivial
      · cases hs
  · exfalso
    by_cases hi : a < ds.length
    · rw [List.getElem?_append_left (by rw [List.length_map]; exact hi), List.getElem?_map] at ha
      cases z : ds[a]? with
      | none => rw [z] at ha; cases ha
      | some d => rw [z] at ha; cases ha
    · rw [List.getElem?_append_right (by rw [List.length_map]; omega), List.getElem?_replicate] at ha
      split at ha
      · cases ha
      · cases ha
/-- the body of a def of data -/
theorem body_D {K : PySem.W.Frag} {ι : Type} {n : Nat} {args : ι → List PyData} {pre : ι → Prop} {out : ι → PyData → Prop} {t : TS} {N : List Str} {vs : List V} {H : Hp} {Q : VK} {E : XK} (m : Nat)
    (hN : N.length = n + m) (hsp : spD K n args pre out vs H Q E)
    (h : ∀ (p : Option Addr) (i : ι), pre i → (args i).length = n → S K p (ends (args i) m) t (fun _ => out i .none) (out i) Nev Nev) :
    t { nx := fun _ H' => Q .non H', rt := Q } (start N vs) H := by
  obtain ⟨hn, p, G, i, j, dv, hp, k⟩ := hsp
  refine h p i hp ((dpA_len dv).symm.trans hn) G H G H _ Xt.refl j (env_start dv m (by rw [hn]; exact hN)) _ ?_
  exact ⟨fun σ E G' H' x j' e o => k _ _ G' H' x j' .non o, fun v d G' H' x j' dv' o => k v d G' H' x j' dv' o, fun _ _ _ _ _ _ _ z => z.elim, fun _ _ _ _ _ _ _ z => z.elim⟩
/-- the body of a def whose first argument is the pail -/
theorem body_P {K : PySem.W.Frag} {ι : Type} {n : Nat} {args : ι → List PyData} {pre : ι → Prop} {out : ι → PyData → Prop} {t : TS} {N : List Str} {vs : List V} {H : Hp} {Q : VK} {E : XK} (m : Nat)
    (hN : N.length = n + m) (hsp : spP K n args pre out vs H Q E)
    (h : ∀ (a : Addr) (i : ι), pre i → (args i).length + 1 = n → S K (some a) (.v (.ref a) :: ends (args i) m) t (fun _ => out i .none) (out i) Nev Nev) :
    t { nx := fun _ H' => Q .non H', rt := Q } (start N vs) H := by
  obtain ⟨hn, a, ws, G, i, rfl, j, dv, hp, k⟩ := hsp
  rw [List.length_cons] at hn
  have e := env_start (K := K) (p := some a) (G := G) (H := H) (N := N.tail) dv m (by rw [List.length_tail]; omega)
  have e2 : start N (.ref a :: ws) = some (.ref a) :: start N.tail ws := by
    unfold L2.start
    rw [List.length_tail, List.length_cons, List.map_cons, List.cons_append]
    congr 3
    omega
  rw [e2]
  refine h a i hp (by rw [← dpA_len dv]; exact hn) G H G H _ Xt.refl j ⟨by rw [List.length_cons, List.length_cons, e.len], fun x s hs => ?_, fun x y ds es l hxy hx hy hl => ?_⟩ _ ?_
  · cases x with
    | zero =>
      cases hs
      exact rfl
    | succ x => exact e.at_ x s hs
  · cases x with
    | zero => cases hx
    | succ x =>
      cases y with
      | zero => cases hy
      | succ y => exact e.ap x y ds es l (fun z => hxy (by rw [z])) hx hy hl
  · exact ⟨fun σ E G' H' x j' e o => k _ _ G' H' x j' .non o, fun v d G' H' x j' dv' o => k v d G' H' x j' dv' o, fun _ _ _ _ _ _ _ z => z.elim, fun _ _ _ _ _ _ _ z => z.elim⟩
end Rim

/-! RimB: built-ins and operators over data. -/
namespace Rim
open PySem PySem.Spec L2

/-! ### readings by name -/
def CDivX (_ j : Int) : Prop := j ≠ 0 ∧ j.natAbs.log2 < 9000
abbrev rAdd : R2 := rI0 fun i j => .int (i + j)
abbrev rSub : R2 := rI0 fun i j => .int (i - j)
abbrev rMul : R2 := rI CMulX fun i j => .int (i * j)
abbrev rDiv : R2 := rI CDivX fun i j => .int (i.fdiv j)
abbrev rMod : R2 := rI (fun _ j => 0 < j) fun i j => .int (i % j)
abbrev rPow : R2 := rI CPow fun i j => .int (i ^ j.toNat)
abbrev rLt : R2 := rI0 fun i j => .bl (decide (i < j))
abbrev rLe : R2 := rI0 fun i j => .bl (decide (i ≤ j))
abbrev rGt : R2 := rI0 fun i j => .bl (decide (j < i))
abbrev rGe : R2 := rI0 fun i j => .bl (decide (j ≤ i))
section
variable {X : Cx}
theorem op_fdivX : OpR X (binaryOp .FloorDiv) rDiv := opI fun _ _ _ _ _ _ _ hc q => PyProof.Rows.floordiv_int hc.1 q (Or.inl (PyProof.noPylong_of_log2 hc.2))
def rRepr (K : PySem.W.Frag) : List V → Hp → VK → Prop := fun xs H Q => ∃ (x : V) (d : PyData), xs = [x] ∧ Dp K H x d ∧
  PyData.showable d = true ∧ PyData.hasDict d = false ∧ PyData.depth d ≤ 60 ∧ (PyData.shown d).length ≤ sizeLine ∧ Q (.str (PyData.shown d)) H
theorem cr_repr (hg : X.A.guards = some []) (hu : X.A.units + 64 < cLine) : CallR X (.builtin "repr") (rRepr X.K) := by
  intro pins s σ H xs us Q I r h
  obtain ⟨x, d, rfl, hd, h1, h2, h3, h4, q⟩ := h
  cases r with
  | @cons a b c e r0 r1 =>
    cases r1
    obtain ⟨as, rd⟩ := Dp.reads I d x b hd r0
    have fin : ∀ h' tk, (∀ b o, s.heap.get? b = some o → h'.get? b = some o) →
        EP X pins σ Q (.str (PyData.shown d) tk) { s with heap := h', toks := tk + 1 } := fun h' tk k => ⟨.str _, H, I.kept (t' := tk + 1) k, ⟨_, rfl⟩, q⟩
    cases d with
    | none =>
      cases hd
      cases r0
      exact PySem.P.repr_of_none ⟨.str _, H, I.tok _, ⟨_, rfl⟩, q⟩
    | bool k =>
      cases hd
      cases r0
      refine PySem.P.repr_of_bool ⟨.str _, H, I.tok _, ⟨_, rfl⟩, ?_⟩
      cases k <;> exact q
    | int i =>
      cases hd
      obtain ⟨t, rfl⟩ := r0
      exact PySem.P.repr_of_int (of_decide_eq_true (by simpa only [PyData.showable] using h1)) ⟨.str _, H, I.tok _, ⟨_, rfl⟩, q⟩
    | str y =>
      cases hd
      obtain ⟨t, rfl⟩ := r0
      exact PySem.P.repr_of_str ⟨.str _, H, I.tok _, ⟨_, rfl⟩, q⟩ h4
    | list ds =>
      cases hd
      cases r0
      exact repr_of_reads' rd h1 (PyData.noDict_hsm h2) hg (by omega) (fun _ _ e => e) (fun h' u tk k => ⟨.str _, H, I.kept k, ⟨_, rfl⟩, q⟩) h4
    | tuple ds =>
      cases hd
      cases r0
      exact repr_of_reads' rd h1 (PyData.noDict_hsm h2) hg (by omega) (fun _ _ e => e) (fun h' u tk k => ⟨.str _, H, I.kept k, ⟨_, rfl⟩, q⟩) h4
    | dict kvs => cases hd
def rLenS (K : PySem.W.Frag) : List V → Hp → VK → Prop := fun xs H Q => ∃ p ys, xs = [.ref p] ∧ (SqL K H p ys ∨ SqT K H p ys) ∧ Q (.int ys.length) H
theorem cr_len : CallR X (.builtin "len") (rLenS X.K) := call_len_seq
def rAbs : List V → Hp → VK → Prop := fun xs H Q => ∃ i, xs = [.int i] ∧ Q (.int (if i < 0 then -i else i)) H
theorem cr_abs : CallR X (.builtin "abs") rAbs := call_abs
def rInt1 : List V → Hp → VK → Prop := fun xs H Q => (∃ i, xs = [.int i] ∧ Q (.int i) H) ∨ ∃ k, xs = [.bl k] ∧ Q (.int (if k then 1 else 0)) H
theorem cr_int : CallR X (.type "int") rInt1 := call_int1
def rStrI : List V → Hp → VK → Prop := fun xs H Q => ∃ i, xs = [.int i] ∧ i.natAbs.log2 < 1920 ∧ Q (.str (toString i)) H
theorem cr_strI : CallR X (.type "str") rStrI := call_str_int
def rDivmod : List V → Hp → VK → Prop := fun xs H Q => ∃ i j, xs = [.int i, .int j] ∧ CDiv i j ∧ ∀ p, H p = none → Q (.ref p) (upd H p (.tup [.int (i / j), .int (i % j)]))
theorem cr_divmod : CallR X (.builtin "divmod") rDivmod := call_divmod
def rMax2 : List V → Hp → VK → Prop := fun xs H Q => ∃ i j, xs = [.int i, .int j] ∧ Q (.int (if j > i then j else i)) H
theorem cr_max2 (hc : X.calm = true) : CallR X (.builtin "max") rMax2 := call_max2 hc
def rMin2 : List V → Hp → VK → Prop := fun xs H Q => ∃ i j, xs = [.int i, .int j] ∧ Q (.int (if j < i then j else i)) H
theorem cr_min2 (hc : X.calm = true) : CallR X (.builtin "min") rMin2 := call_min2 hc
def rTupOf (K : PySem.W.Frag) : List V → Hp → VK → Prop := fun xs H Q => ∃ p ys, xs = [.ref p] ∧ ((SqL K H p ys ∧ ∀ l, H l = none → Q (.ref l) (upd H l (.tup ys))) ∨ (SqT K H p ys ∧ Q (.ref p) H))
theorem cr_tupOf : CallR X (.type "tuple") (rTupOf X.K) := call_tuple_of
def rLstOf (K : PySem.W.Frag) : List V → Hp → VK → Prop := fun xs H Q => ∃ p ys, xs = [.ref p] ∧ (SqL K H p ys ∨ SqT K H p ys) ∧ ∀ l, H l = none → Q (.ref l) (upd H l (.lst ys))
theorem cr_lstOf : CallR X (.type "list") (rLstOf X.K) := call_list_of
end

/-! ### what may be shown -/
mutual
def Shw : PyData → Prop
  | .none => True
  | .bool _ => True
  | .int i => i.natAbs < 2 ^ 1900
  | .str x => ∀ c ∈ x.cps.toList, c < 16 ^ 8
  | .list xs => ShwAll xs
  | .tuple xs => ShwAll xs
  | .dict _ => False
def ShwAll : List PyData → Prop
  | [] => True
  | x :: xs => Shw x ∧ ShwAll xs
end
mutual
def cnt : PyData → Nat
  | .none => 1
  | .bool _ => 1
  | .int _ => 1
  | .str x => x.length + 1
  | .list xs => 1 + cntAll xs
  | .tuple xs => 1 + cntAll xs
  | .dict _ => 0
def cntAll : List PyData → Nat
  | [] => 0
  | x :: xs => cnt x + cntAll xs
end
theorem log_of {i : Int} (h : i.natAbs < 2 ^ 1900) : i.natAbs.log2 < 1920 := Nat.lt_of_lt_of_le (PySem.Flt.log2_lt_of (by decide) h) (by decide)
mutual
theorem shw_ok : ∀ d : PyData, Shw d → PyData.showable d = true ∧ PyData.hasDict d = false ∧ (PyData.shown d).length + 2 ≤ 2000 * cnt d
  | .none, _ => ⟨by simp only [PyData.showable], by simp only [PyData.hasDict], by simp only [PyData.shown, cnt]; decide⟩
  | .bool b, _ => ⟨by simp only [PyData.showable], by simp only [PyData.hasDict], by simp only [PyData.shown, cnt]; cases b <;> decide⟩
  | .int i, h => by
    have h1 : i.natAbs < 2 ^ 1900 := by simpa only [Shw] using h
    refine ⟨by simp only [PyData.showable]; exact decide_eq_true (log_of h1), by simp only [PyData.hasDict], ?_⟩
    have h2 := int_text_length_le (k := 1920) (by decide) (log_of h1)
    simp only [PyData.shown, cnt, ofString_length]
    omega
  | .str x, h => by
    have h1 : ∀ c ∈ x.cps.toList, c < 16 ^ 8 := by simpa only [Shw] using h
    refine ⟨by simp only [PyData.showable], by simp only [PyData.hasDict], ?_⟩
    have h2 := StrLaws.reprText_len x h1
    simp only [PyData.shown, cnt]
    omega
  | .list xs, h => by
    obtain ⟨h1, h2, h3⟩ := shwAll_ok xs (by simpa only [Shw] using h)
    refine ⟨by simpa only [PyData.showable] using h1, by simpa only [PyData.hasDict] using h2, ?_⟩
    have h4 := listText_len_le (PyData.shownAll xs)
    have h5 := shownAll_len xs
    simp only [PyData.shown, cnt]
    omega
  | .tuple xs, h => by
    obtain ⟨h1, h2, h3⟩ := shwAll_ok xs (by simpa only [Shw] using h)
    refine ⟨by simpa only [PyData.showable] using h1, by simpa only [PyData.hasDict] using h2, ?_⟩
    have h4 := tupleText_len_le (PyData.shownAll xs)
    have h5 := shownAll_len xs
    simp only [PyData.shown, cnt]
    omega
  | .dict _, h => by simp only [Shw] at h
theorem shownAll_len : ∀ xs : List PyData, (PyData.shownAll xs).length = xs.length
  | [] => by simp only [PyData.shownAll, List.length_nil]
  | x :: xs => by simp only [PyData.shownAll, List.length_cons, shownAll_len xs]
theorem shwAll_ok : ∀ xs : List PyData, ShwAll xs → PyData.showableAll xs = true ∧ PyData.hasDictAll xs = false ∧ ((PyData.shownAll xs).map (·.length)).sum + 2 * xs.length ≤ 2000 * cntAll xs
  | [], _ => ⟨by simp only [PyData.showableAll], by simp only [PyData.hasDictAll], by simp only [PyData.shownAll, cntAll, List.map_nil, List.sum_nil, List.length_nil]; decide⟩
  | x :: xs, h => by
    have h0 : Shw x ∧ ShwAll xs := by simpa only [ShwAll] using h
    obtain ⟨a1, a2, a3⟩ := shw_ok x h0.1
    obtain ⟨b1, b2, b3⟩ := shwAll_ok xs h0.2
    refine ⟨by simp only [PyData.showableAll, a1, b1]; rfl, by simp only [PyData.hasDictAll, a2, b2]; rfl, ?_⟩
    simp only [PyData.shownAll, cntAll, List.map_cons, List.sum_cons, List.length_cons]
    omega
end

/-! ### rules -/
section
variable {K : PySem.W.Frag} {p : Option Addr} {E : Ev} {ta tb te : TE} {Φ : PyData → Prop} {Ψ : List PyData → Prop}
theorem WC_repr {d : PyData} (h : Shw d) (hc : cnt d ≤ 8000) (hd : PyData.depth d ≤ 60) (k : Φ (.str (PyData.shown d))) : WC K p (rRepr K) [d] Φ := by
  intro G H vs j dv Q q
  cases dv with
  | @cons v _ _ _ a b =>
    cases b
    obtain ⟨h1, h2, h3⟩ := shw_ok d h
    refine ⟨v, d, rfl, dp_mono j.sub d v a, h1, h2, hd, ?_, q _ _ G H Xt.refl j (.str _) k⟩
    rw [sizeLine_eq]
    omega
theorem WC_lenT {ds : List PyData} (k : Φ (.int ds.length)) : WC K p (rLenS K) [.tuple ds] Φ := by
  intro G H vs j dv Q q
  cases dv with
  | cons a b =>
    cases b
    obtain ⟨l, xs, rfl, hs, ha⟩ := dp_tup a
    refine ⟨l, xs, rfl, Or.inr (sqT_mono j.sub hs), q _ (.int ds.length) G H Xt.refl j ?_ k⟩
    rw [dpA_len ha]
    exact .int _
theorem WC_lenL {ds : List PyData} (k : Φ (.int ds.length)) : WC K p (rLenS K) [.list ds] Φ := by
  intro G H vs j dv Q q
  cases dv with
  | cons a b =>
    cases b
    obtain ⟨l, xs, rfl, hs, ha⟩ := dp_lst a
    refine ⟨l, xs, rfl, Or.inl (j.sub.seq hs), q _ (.int ds.length) G H Xt.refl j ?_ k⟩
    rw [dpA_len ha]
    exact .int _
/-- len of a list of one's own -/
theorem W_lenM {i : Nat} {ds : List PyData} (hs : E[i]? = some (.m ds)) (k : Φ (.int ds.length)) : W K p E (tCB (rLenS K) (tCons (tVar i) tNil)) Φ := by
  intro H0 G H σ j e Q q
  obtain ⟨l, vs, h1, h2, h3, _⟩ := e.own hs
  refine ⟨_, h1, l, vs, rfl, Or.inl (SqL.of h2), q _ (.int ds.length) G H Xt.refl j ?_ k⟩
  rw [dpA_len h3]
  exact .int _
theorem WC_abs {i : Int} (k : Φ (.int (if i < 0 then -i else i))) : WC K p rAbs [.int i] Φ := by
  intro G H vs j dv Q q
  cases dv with
  | cons a b =>
    cases b
    rw [dp_int a]
    exact ⟨i, rfl, q _ _ G H Xt.refl j (.int _) k⟩
theorem WC_int {i : Int} (k : Φ (.int i)) : WC K p rInt1 [.int i] Φ := by
  intro G H vs j dv Q q
  cases dv with
  | cons a b =>
    cases b
    rw [dp_int a]
    exact Or.inl ⟨i, rfl, q _ _ G H Xt.refl j (.int _) k⟩
theorem WC_gcd {a b : Int} (k : Φ (.int ((Nat.gcd a.natAbs b.natAbs : Nat) : Int))) : WC K p rGcd [.int a, .int b] Φ := by
  intro G H vs j dv Q q
  cases dv with
  | cons x y =>
    cases y with
    | cons y z =>
      cases z
      rw [dp_int x, dp_int y]
      exact ⟨a, b, rfl, q _ _ G H Xt.refl j (.int _) k⟩
theorem WC_max2 {a b : Int} (k : Φ (.int (if b > a then b else a))) : WC K p rMax2 [.int a, .int b] Φ := by
  intro G H vs j dv Q q
  cases dv with
  | cons x y =>
    cases y with
    | cons y z =>
      cases z
      rw [dp_int x, dp_int y]
      exact ⟨a, b, rfl, q _ _ G H Xt.refl j (.int _) k⟩
theorem WC_min2 {a b : Int} (k : Φ (.int (if b < a then b else a))) : WC K p rMin2 [.int a, .int b] Φ := by
  intro G H vs j dv Q q
  cases dv with
  | cons x y =>
    cases y with
    | cons y z =>
      cases z
      rw [dp_int x, dp_int y]
      exact ⟨a, b, rfl, q _ _ G H Xt.refl j (.int _) k⟩
theorem WC_divmod {a b : Int} (h : 0 < b ∧ b < 1073741824) (k : Φ (.tuple [.int (a / b), .int (a % b)])) : WC K p rDivmod [.int a, .int b] Φ := by
  intro G H vs j dv Q q
  cases dv with
  | cons x y =>
    cases y with
    | cons y z =>
      cases z
      rw [dp_int x, dp_int y]
      refine ⟨a, b, rfl, h, fun l hl => ?_⟩
      exact q _ _ _ _ (Xt.laid j hl) (j.laid hl) (.tup (SqT.of upd_same) (.cons (.int _) (.cons (.int _) .nil))) k
theorem WC_tupL {ds : List PyData} (k : Φ (.tuple ds)) : WC K p (rTupOf K) [.list ds] Φ := by
  intro G H vs j dv Q q
  cases dv with
  | cons a b =>
    cases b
    obtain ⟨l, xs, rfl, hs, ha⟩ := dp_lst a
    refine ⟨l, xs, rfl, Or.inl ⟨j.sub.seq hs, fun m hm => ?_⟩⟩
    have x2 := Xt.laid (p := p) j (o := .tup xs) hm
    exact q _ _ _ _ x2 (j.laid hm) (.tup (SqT.of upd_same) (dpA_mono x2.gg ds xs ha)) k
theorem WC_tupT {ds : List PyData} (k : Φ (.tuple ds)) : WC K p (rTupOf K) [.tuple ds] Φ := by
  intro G H vs j dv Q q
  cases dv with
  | cons a b =>
    cases b
    obtain ⟨l, xs, rfl, hs, ha⟩ := dp_tup a
    exact ⟨l, xs, rfl, Or.inr ⟨sqT_mono j.sub hs, q _ _ G H Xt.refl j (.tup hs ha) k⟩⟩
/-- tuple(xs), xs a list of one's own -/
theorem W_tupM {i : Nat} {ds : List PyData} (hs : E[i]? = some (.m ds)) (k : Φ (.tuple ds)) : W K p E (tCB (rTupOf K) (tCons (tVar i) tNil)) Φ := by
  intro H0 G H σ j e Q q
  obtain ⟨l, vs, h1, h2, h3, _⟩ := e.own hs
  refine ⟨_, h1, l, vs, rfl, Or.inl ⟨SqL.of h2, fun m hm => ?_⟩⟩
  have x2 := Xt.laid (p := p) j (o := .tup vs) hm
  exact q _ _ _ _ x2 (j.laid hm) (.tup (SqT.of upd_same) (dpA_mono x2.gg ds vs h3)) k
/-- list(t) -/
theorem WM_lstOf {tr : TA} (h : WA K p E tr fun xs => ∃ ds, (xs = [.tuple ds] ∨ xs = [.list ds]) ∧ Ψ ds) : WM K p E (tCB (rLstOf K) tr) Ψ := by
  intro H0 G H σ j e Q q
  refine h H0 G H σ j e _ fun vs xs G1 H1 x1 j1 dv h1 => ?_
  obtain ⟨ds, hx, hk⟩ := h1
  have fin : ∀ (l : Addr) (us : List V), DpAll K G1 us ds → H1 l = none → Q (.ref l) (upd H1 l (.lst us)) := fun l us da hl => by
    have hn : H l = none := by
      cases z : H l with
      | none => rfl
      | some o =>
        rw [x1.hh l o (j1.ne hl) z] at hl
        cases hl
    exact q l us ds G1 _ (x1.trans (Xt.made j1 hl)) (j1.made (j1.free hl) (j1.ne hl)) hn upd_same (j1.free hl) da hk
  rcases hx with rfl | rfl
  · cases dv with
    | cons a b =>
      cases b
      obtain ⟨m, us, rfl, hs, ha⟩ := dp_tup a
      exact ⟨m, us, rfl, Or.inr (sqT_mono j1.sub hs), fun l hl => fin l us ha hl⟩
  · cases dv with
    | cons a b =>
      cases b
      obtain ⟨m, us, rfl, hs, ha⟩ := dp_lst a
      exact ⟨m, us, rfl, Or.inl (j1.sub.seq hs), fun l hl => fin l us ha hl⟩
theorem WC_all {bs : List Bool} (k : Φ (.bool (bs.all id))) : WC K p (rAll K) [.list (bs.map PyData.bool)] Φ := by
  intro G H vs j dv Q q
  cases dv with
  | cons a b =>
    cases b
    obtain ⟨l, xs, rfl, hs, ha⟩ := dp_lst a
    have e : ∀ (us : List V) (cs : List Bool), DpAll K G us (cs.map PyData.bool) → us = cs.map V.bl := by
      intro us cs
      induction cs generalizing us with
      | nil => intro h; cases h; rfl
      | cons c cs ih =>
        intro h
        cases h with
        | cons h1 h2 => rw [dp_bl h1, ih _ h2]; rfl
    refine ⟨l, bs, rfl, ?_, q _ _ G H Xt.refl j (.bl _) k⟩
    rw [← e xs bs ha]
    exact j.sub.seq hs
/-- t[a:b] of a tuple -/
theorem cut_ds {G : Hp} {vs : List V} {ds : List PyData} (lo hi : Option Int) (h : DpAll K G vs ds) :
    DpAll K G (cutV vs lo hi) ((ds.drop (HT.sIx ds.length 0 lo)).take (HT.sIx ds.length ds.length hi - HT.sIx ds.length 0 lo)) := by
  unfold cutV
  rw [dpA_len h]
  exact dpA_take _ (dpA_drop _ h)

/-! ### isinstance -/
def tyD : PyData → String
  | .none => "NoneType"
  | .bool _ => "bool"
  | .int _ => "int"
  | .str _ => "str"
  | .list _ => "list"
  | .tuple _ => "tuple"
  | .dict _ => "dict"
theorem ty_of {G H : Hp} {v : V} {d : PyData} (s : Same G H) (h : Dp K G v d) : TyX K H v (.type (tyD d)) := by
  cases h with
  | non => exact .base .non
  | bl b => exact .base (.bl b)
  | int i => exact .base (.int i)
  | str x => exact .base (.str x)
  | lst hs ha =>
    rcases s.seq hs with (h | ⟨o, h⟩) | ⟨o, its, n, h1, h2, _⟩
    · exact .base (.lst h)
    · exact .base (.frz h)
    · exact .kList h1 h2
  | tup hs ha =>
    rcases sqT_mono s hs with (h | ⟨o, h⟩) | ⟨o, its, n, h1, h2, _⟩
    · exact .base (.tup h)
    · exact .fTuple h
    · exact .kTuple h1 h2
theorem W_isi {T : String} (h : W K p E ta fun d => ∃ b, kitB (tyD d) T = some b ∧ Φ (.bool b)) : W K p E (tCB (rIsi K) (tCons ta (tCons (tC (.ty T)) tNil))) Φ := by
  intro H0 G H σ j e Q q
  refine h H0 G H σ j e _ fun v d G1 H1 x1 j1 dv h1 => ?_
  obtain ⟨b, hb, hk⟩ := h1
  exact ⟨v, .ty T, _, _, b, rfl, .ty T, ty_of j1.sub dv, kit_ty hb, q _ _ G1 H1 x1 j1 (.bl b) hk⟩
def is_int : PyData → Bool
  | .bool _ => true
  | .int _ => true
  | _ => false
theorem kit_int : ∀ d : PyData, kitB (tyD d) "int" = some (is_int d)
  | .none  => (by decide +kernel : kitB "NoneType" "int" = some false)
  | .bool _ => (by decide +kernel : kitB "bool" "int" = some true)
  | .int _ => (by decide +kernel : kitB "int" "int" = some true)
  | .str _ => (by decide +kernel : kitB "str" "int" = some false)
  | .list _ => (by decide +kernel : kitB "list" "int" = some false)
  | .tuple _ => (by decide +kernel : kitB "tuple" "int" = some false)
  | .dict _ => (by decide +kernel : kitB "dict" "int" = some false)
def is_bool : PyData → Bool
  | .bool _ => true
  | _ => false
theorem kit_bool : ∀ d : PyData, kitB (tyD d) "bool" = some (is_bool d)
  | .none  => (by decide +kernel : kitB "NoneType" "bool" = some false)
  | .bool _ => (by decide +kernel : kitB "bool" "bool" = some true)
  | .int _ => (by decide +kernel : kitB "int" "bool" = some false)
  | .str _ => (by decide +kernel : kitB "str" "bool" = some false)
  | .list _ => (by decide +kernel : kitB "list" "bool" = some false)
  | .tuple _ => (by decide +kernel : kitB "tuple" "bool" = some false)
  | .dict _ => (by decide +kernel : kitB "dict" "bool" = some false)
def is_tuple : PyData → Bool
  | .tuple _ => true
  | _ => false
theorem kit_tuple : ∀ d : PyData, kitB (tyD d) "tuple" = some (is_tuple d)
  | .none  => (by decide +kernel : kitB "NoneType" "tuple" = some false)
  | .bool _ => (by decide +kernel : kitB "bool" "tuple" = some false)
  | .int _ => (by decide +kernel : kitB "int" "tuple" = some false)
  | .str _ => (by decide +kernel : kitB "str" "tuple" = some false)
  | .list _ => (by decide +kernel : kitB "list" "tuple" = some false)
  | .tuple _ => (by decide +kernel : kitB "tuple" "tuple" = some true)
  | .dict _ => (by decide +kernel : kitB "dict" "tuple" = some false)
def is_list : PyData → Bool
  | .list _ => true
  | _ => false
theorem kit_list : ∀ d : PyData, kitB (tyD d) "list" = some (is_list d)
  | .none  => (by decide +kernel : kitB "NoneType" "list" = some false)
  | .bool _ => (by decide +kernel : kitB "bool" "list" = some false)
  | .int _ => (by decide +kernel : kitB "int" "list" = some false)
  | .str _ => (by decide +kernel : kitB "str" "list" = some false)
  | .list _ => (by decide +kernel : kitB "list" "list" = some true)
  | .tuple _ => (by decide +kernel : kitB "tuple" "list" = some false)
  | .dict _ => (by decide +kernel : kitB "dict" "list" = some false)
def is_str : PyData → Bool
  | .str _ => true
  | _ => false
theorem kit_str : ∀ d : PyData, kitB (tyD d) "str" = some (is_str d)
  | .none  => (by decide +kernel : kitB "NoneType" "str" = some false)
  | .bool _ => (by decide +kernel : kitB "bool" "str" = some false)
  | .int _ => (by decide +kernel : kitB "int" "str" = some false)
  | .str _ => (by decide +kernel : kitB "str" "str" = some true)
  | .list _ => (by decide +kernel : kitB "list" "str" = some false)
  | .tuple _ => (by decide +kernel : kitB "tuple" "str" = some false)
  | .dict _ => (by decide +kernel : kitB "dict" "str" = some false)
end
end Rim

/-! RimM: fractions as data, their sizes. -/
namespace Rim
open PySem PySem.Spec L2

/-! ### sizes -/
def Bd (n : Nat) (i : Int) : Prop := i.natAbs < 2 ^ n
theorem Bd.mono {n m : Nat} {i : Int} (h : Bd n i) (k : n ≤ m) : Bd m i := Nat.lt_of_lt_of_le h (Nat.pow_le_pow_right (by decide) k)
theorem Bd.mul {n m : Nat} {i j : Int} (h : Bd n i) (k : Bd m j) : Bd (n + m) (i * j) := by
  unfold Bd
  rw [Int.natAbs_mul, Nat.pow_add]
  exact Nat.mul_lt_mul'' h k
theorem Bd.add {n m : Nat} {i j : Int} (h : Bd n i) (k : Bd m j) : Bd (max n m + 1) (i + j) := by
  have h1 := h.mono (Nat.le_max_left n m)
  have k1 := k.mono (Nat.le_max_right n m)
  unfold Bd at *
  rw [Nat.pow_succ]
  omega
theorem Bd.neg {n : Nat} {i : Int} (h : Bd n i) : Bd n (-i) := by
  unfold Bd at *
  rw [Int.natAbs_neg]
  exact h
theorem Bd.sub {n m : Nat} {i j : Int} (h : Bd n i) (k : Bd m j) : Bd (max n m + 1) (i - j) := by
  rw [Int.sub_eq_add_neg]
  exact h.add k.neg
theorem Bd.lit {n : Nat} {i : Int} (h : i.natAbs < 2 ^ n) : Bd n i := h
theorem Bd.le {n : Nat} {i j : Int} (h : i.natAbs ≤ j.natAbs) (k : Bd n j) : Bd n i := Nat.lt_of_le_of_lt h k
theorem mul_ok {n m : Nat} {i j : Int} (h : Bd n i) (k : Bd m j) (z : n + m ≤ 134217728) : CMulX i j := mulx_ok h k z
theorem div_ok {n : Nat} {i j : Int} (h : Bd n j) (h0 : j ≠ 0) (z : n ≤ 8000) : CDivX i j := by
  refine ⟨h0, Nat.lt_of_le_of_lt ?_ (show 8000 < 9000 by decide)⟩
  have h1 : j.natAbs < 2 ^ 8000 := h.mono z
  have h2 : j.natAbs ≠ 0 := by omega
  exact Nat.le_of_lt ((Nat.log2_lt h2).mpr h1)

/-! ### results by name -/
section
variable {K : PySem.W.Frag} {p : Option Addr} {Φ : PyData → Prop} {i k : Int}
theorem WR_add (q : Φ (.int (i + k))) : WR K p rAdd (.int i) (.int k) Φ := WR_I0 rfl q
theorem WR_sub (q : Φ (.int (i - k))) : WR K p rSub (.int i) (.int k) Φ := WR_I0 rfl q
theorem WR_mul (c : CMulX i k) (q : Φ (.int (i * k))) : WR K p rMul (.int i) (.int k) Φ := WR_I c rfl q
theorem WR_div (c : CDivX i k) (q : Φ (.int (i.fdiv k))) : WR K p rDiv (.int i) (.int k) Φ := WR_I c rfl q
theorem WR_mod (c : 0 < k) (q : Φ (.int (i % k))) : WR K p rMod (.int i) (.int k) Φ := WR_I c rfl q
theorem WR_pow (c : CPow i k) (q : Φ (.int (i ^ k.toNat))) : WR K p rPow (.int i) (.int k) Φ := WR_I c rfl q
theorem WR_lt (q : Φ (.bool (decide (i < k)))) : WR K p rLt (.int i) (.int k) Φ := WR_I0 rfl q
theorem WR_le (q : Φ (.bool (decide (i ≤ k)))) : WR K p rLe (.int i) (.int k) Φ := WR_I0 rfl q
theorem WR_gt (q : Φ (.bool (decide (k < i)))) : WR K p rGt (.int i) (.int k) Φ := WR_I0 rfl q
theorem WR_ge (q : Φ (.bool (decide (k ≤ i)))) : WR K p rGe (.int i) (.int k) Φ := WR_I0 rfl q
theorem S_never {E : Ev} {N B C : Ev → Prop} {R : PyData → Prop} (h : False) : S K p E tNever N R B C := h.elim
end

/-! ### fractions -/
@[reducible] def fr (q : Rat) : PyData := .tuple [.int q.num, .int q.den]
def Rs (n : Nat) (q : Rat) : Prop := Bd n q.num ∧ Bd n (q.den : Int)
theorem Rs.num {n : Nat} {q : Rat} (h : Rs n q) : Bd n q.num := h.1
theorem Rs.den {n : Nat} {q : Rat} (h : Rs n q) : Bd n (q.den : Int) := h.2
theorem Rs.mono {n m : Nat} {q : Rat} (h : Rs n q) (k : n ≤ m) : Rs m q := ⟨h.1.mono k, h.2.mono k⟩
theorem den_ne (q : Rat) : (q.den : Int) ≠ 0 := by have := q.den_nz; omega
theorem den_pos (q : Rat) : 0 < (q.den : Int) := by have := q.den_nz; omega

/-- n over m -/
abbrev qd (n m : Int) : Rat := Rat.divInt n m
theorem qd_div (n m : Int) : qd n m = (n : Rat) / (m : Rat) := Rat.divInt_eq_div n m
theorem q_self (q : Rat) : qd q.num (q.den : Int) = q := Rat.num_divInt_den q
theorem q_over (q : Rat) : q = (q.num : Rat) / ((q.den : Int) : Rat) := by
  rw [← qd_div, q_self]
theorem c_ne {m : Int} (h : m ≠ 0) : (m : Rat) ≠ 0 := fun z => h (Rat.intCast_eq_zero_iff.mp z)
theorem d_ne (q : Rat) : ((q.den : Int) : Rat) ≠ 0 := c_ne (den_ne q)
theorem sgn_gcd (a b : Int) : ((b.gcd a : Nat) : Int) ∣ b.sign * a := by
  have h : ((b.gcd a : Nat) : Int) ∣ a := Int.gcd_dvd_right ..
  exact Int.dvd_trans h (Int.dvd_mul_left _ _)
theorem rs_of {n : Nat} {a b : Int} (ha : Bd n a) (hb : Bd n b) (h0 : b ≠ 0) : Rs n (qd a b) := by
  constructor
  · show (qd a b).num.natAbs < 2 ^ n
    rw [Rat.num_divInt, Int.natAbs_ediv_of_dvd (sgn_gcd a b), Int.natAbs_mul]
    refine Nat.lt_of_le_of_lt (Nat.div_le_self _ _) ?_
    rw [Int.natAbs_sign_of_ne_zero h0, Nat.one_mul]
    exact ha
  · show ((qd a b).den : Int).natAbs < 2 ^ n
    rw [Rat.den_divInt, if_neg h0, Int.natAbs_natCast]
    exact Nat.lt_of_le_of_lt (Nat.div_le_self _ _) hb
theorem q_add (x y : Rat) : qd (x.num * y.den + y.num * x.den) (x.den * y.den) = x + y := by
  conv => rhs; rw [← q_self x, ← q_self y]
  exact (Rat.divInt_add_divInt _ _ (den_ne x) (den_ne y)).symm
theorem q_sub (x y : Rat) : qd (x.num * y.den - y.num * x.den) (x.den * y.den) = x - y := by
  conv => rhs; rw [← q_self x, ← q_self y]
  exact (Rat.divInt_sub_divInt _ _ (den_ne x) (den_ne y)).symm
theorem q_mul (x y : Rat) : qd (x.num * y.num) (x.den * y.den) = x * y := by
  conv => rhs; rw [← q_self x, ← q_self y]
  exact (Rat.divInt_mul_divInt _ _).symm
theorem q_div (x y : Rat) (h : y ≠ 0) : qd (x.num * y.den) (x.den * y.num) = x / y := by
  have h1 := d_ne x
  have h2 := d_ne y
  have h3 : (y.num : Rat) ≠ 0 := c_ne fun z => h (Rat.num_eq_zero.mp z)
  rw [qd_div]
  conv => rhs; rw [q_over x, q_over y]
  rw [Rat.intCast_mul, Rat.intCast_mul]
  generalize ((x.den : Int) : Rat) = a at *
  generalize ((y.den : Int) : Rat) = b at *
  generalize (x.num : Rat) = c at *
  generalize (y.num : Rat) = d at *
  grind
theorem Rs.add {n m : Nat} {x y : Rat} (hx : Rs n x) (hy : Rs m y) : Rs (n + m + 1) (x + y) := by
  rw [← q_add]
  refine rs_of (((hx.1.mul hy.2).add (hy.1.mul hx.2)).mono ?_) ((hx.2.mul hy.2).mono ?_) ?_
  · omega
  · omega
  · exact Int.mul_ne_zero (den_ne x) (den_ne y)
theorem Rs.sub {n m : Nat} {x y : Rat} (hx : Rs n x) (hy : Rs m y) : Rs (n + m + 1) (x - y) := by
  rw [← q_sub]
  refine rs_of (((hx.1.mul hy.2).sub (hy.1.mul hx.2)).mono ?_) ((hx.2.mul hy.2).mono ?_) ?_
  · omega
  · omega
  · exact Int.mul_ne_zero (den_ne x) (den_ne y)
theorem Rs.mul {n m : Nat} {x y : Rat} (hx : Rs n x) (hy : Rs m y) : Rs (n + m) (x * y) := by
  rw [← q_mul]
  exact rs_of (hx.1.mul hy.1) (hx.2.mul hy.2) (Int.mul_ne_zero (den_ne x) (den_ne y))
theorem Rs.div {n m : Nat} {x y : Rat} (hx : Rs n x) (hy : Rs m y) (h : y ≠ 0) : Rs (n + m) (x / y) := by
  rw [← q_div x y h]
  exact rs_of (hx.1.mul hy.2) (hx.2.mul hy.1) (Int.mul_ne_zero (den_ne x) fun z => h (Rat.num_eq_zero.mp z))
theorem Rs.neg {n : Nat} {x : Rat} (hx : Rs n x) : Rs n (-x) := by
  constructor
  · exact (show (-x).num = -x.num from rfl) ▸ hx.1.neg
  · exact hx.2
/-- what reduced reckons -/
theorem red_pos (n m : Int) (h : 0 < m) : n.fdiv ((Nat.gcd n.natAbs m.natAbs : Nat) : Int) = (qd n m).num ∧ m.fdiv ((Nat.gcd n.natAbs m.natAbs : Nat) : Int) = ((qd n m).den : Int) := by
  have e : Nat.gcd n.natAbs m.natAbs = m.gcd n := by rw [Nat.gcd_comm]; rfl
  have hg : (0 : Int) ≤ ((m.gcd n : Nat) : Int) := Int.natCast_nonneg _
  rw [e, Int.fdiv_eq_ediv_of_nonneg _ hg, Int.fdiv_eq_ediv_of_nonneg _ hg]
  constructor
  · rw [Rat.num_divInt, Int.sign_eq_one_of_pos h, Int.one_mul]
  · rw [Rat.den_divInt, if_neg (by omega), Int.natCast_ediv, Int.natAbs_of_nonneg (by omega)]
theorem red_neg (n m : Int) (h : m < 0) : n.fdiv (-((Nat.gcd n.natAbs m.natAbs : Nat) : Int)) = (qd n m).num ∧ m.fdiv (-((Nat.gcd n.natAbs m.natAbs : Nat) : Int)) = ((qd n m).den : Int) := by
  have h1 := red_pos (-n) (-m) (by omega)
  rw [Int.natAbs_neg, Int.natAbs_neg] at h1
  have e : qd (-n) (-m) = qd n m := by
    rw [qd_div, qd_div, Rat.intCast_neg, Rat.intCast_neg]
    have h2 : (m : Rat) ≠ 0 := c_ne (by omega)
    grind
  rw [e] at h1
  have e2 : ∀ a b : Int, a.fdiv (-b) = (-a).fdiv b := fun a b => by
    rw [← Int.neg_fdiv_neg]
    rw [Int.neg_neg]
  rw [e2, e2]
  exact h1

/-! ### numbers -/
structure Cn where
  re : Rat
  im : Rat
@[reducible] def nm (z : Cn) : PyData := .tuple [fr z.re, fr z.im]
def Cs (n : Nat) (z : Cn) : Prop := Rs n z.re ∧ Rs n z.im
theorem Cs.re {n : Nat} {z : Cn} (h : Cs n z) : Rs n z.re := h.1
theorem Cs.im {n : Nat} {z : Cn} (h : Cs n z) : Rs n z.im := h.2
theorem Cs.mono {n m : Nat} {z : Cn} (h : Cs n z) (k : n ≤ m) : Cs m z := ⟨h.1.mono k, h.2.mono k⟩
namespace Cn
def add (x y : Cn) : Cn := ⟨x.re + y.re, x.im + y.im⟩
def sub (x y : Cn) : Cn := ⟨x.re - y.re, x.im - y.im⟩
def mul (x y : Cn) : Cn := ⟨x.re * y.re - x.im * y.im, x.re * y.im + x.im * y.re⟩
def conj (x : Cn) : Cn := ⟨x.re, -x.im⟩
def nsq (x : Cn) : Rat := x.re * x.re + x.im * x.im
def scale (x : Cn) (q : Rat) : Cn := ⟨x.re * q, x.im * q⟩
def div (x y : Cn) : Cn := ⟨(x.re * y.re + x.im * y.im) / y.nsq, (x.im * y.re - x.re * y.im) / y.nsq⟩
end Cn
theorem Cs.add {n m : Nat} {x y : Cn} (hx : Cs n x) (hy : Cs m y) : Cs (n + m + 1) (x.add y) := ⟨hx.1.add hy.1, hx.2.add hy.2⟩
theorem Cs.sub {n m : Nat} {x y : Cn} (hx : Cs n x) (hy : Cs m y) : Cs (n + m + 1) (x.sub y) := ⟨hx.1.sub hy.1, hx.2.sub hy.2⟩
theorem Cs.mul {n m : Nat} {x y : Cn} (hx : Cs n x) (hy : Cs m y) : Cs (n + m + (n + m) + 1) (x.mul y) := ⟨(hx.1.mul hy.1).sub (hx.2.mul hy.2), (hx.1.mul hy.2).add (hx.2.mul hy.1)⟩
theorem Cs.conj {n : Nat} {x : Cn} (hx : Cs n x) : Cs n x.conj := ⟨hx.1, hx.2.neg⟩
theorem Cs.nsq {n : Nat} {x : Cn} (hx : Cs n x) : Rs (n + n + (n + n) + 1) x.nsq := (hx.1.mul hx.1).add (hx.2.mul hx.2)
end Rim

/-! RimH: constants of the top as data; how keywords bind. -/
namespace Rim
open PySem PySem.Spec L2

mutual
/-- the value u of the written part reads as the data d -/
def kD (K : PySem.W.Frag) (u : Value) : PyData → Bool
  | .none => (match u with
    | .none => true
    | _ => false)
  | .bool b => (match u with
    | .bool c => b == c
    | _ => false)
  | .int i => (match u with
    | .int j _ => decide (i = j)
    | _ => false)
  | .str x => (match u with
    | .str y _ => decide (x = y)
    | _ => false)
  | .tuple ds => (match u with
    | .ref a => (match K.lookup a with
      | some ⟨.type c, _, .seq its _, _⟩ => decide (c = "tuple") && (decide (its.size ≤ sizeLine) && kDs K its.toList ds)
      | _ => false)
    | _ => false)
  | _ => false
def kDs (K : PySem.W.Frag) (us : List Value) : List PyData → Bool
  | [] => (match us with
    | [] => true
    | _ => false)
  | d :: ds => (match us with
    | u :: us => kD K u d && kDs K us ds
    | _ => false)
end
mutual
theorem kD_ok {K : PySem.W.Frag} : ∀ (d : PyData) (u : Value), kD K u d = true → ∃ v, RelV v u ∧ ∀ G, Dp K G v d
  | .none, u, h => by
    unfold kD at h
    cases u with
    | none => exact ⟨.non, rfl, fun G => .non⟩
    | _ => cases h
  | .bool b, u, h => by
    unfold kD at h
    cases u with
    | bool c =>
      have e : b = c := eq_of_beq h
      exact ⟨.bl b, by rw [e]; rfl, fun G => .bl b⟩
    | _ => cases h
  | .int i, u, h => by
    unfold kD at h
    cases u with
    | int j t =>
      have e : i = j := of_decide_eq_true h
      exact ⟨.int i, ⟨t, by rw [e]⟩, fun G => .int i⟩
    | _ => cases h
  | .str x, u, h => by
    unfold kD at h
    cases u with
    | str j t =>
      have e : x = j := of_decide_eq_true h
      exact ⟨.str x, ⟨t, by rw [e]⟩, fun G => .str x⟩
    | _ => cases h
  | .tuple ds, u, h => by
    unfold kD at h
    cases u with
    | ref a =>
      dsimp only at h
      cases q : K.lookup a with
      | none =>
        rw [q] at h
        cases h
      | some o =>
        obtain ⟨oc, od, dt, sl⟩ := o
        rw [q] at h
        cases oc with
        | type c =>
          cases dt with
          | seq its n =>
            obtain ⟨h1, h2⟩ := He.ba h
            obtain ⟨h3, h4⟩ := He.ba h2
            obtain ⟨vs, r, hd⟩ := kDs_ok ds its.toList h4
            refine ⟨.ref a, rfl, fun G => .tup (Or.inr ⟨_, its, n, q, ?_, rfl, of_decide_eq_true h3, r⟩) (hd G)⟩
            exact congrArg Value.type (of_decide_eq_true h1)
          | _ => cases h
        | _ => cases h
    | _ => cases h
  | .list _, u, h => by
    unfold kD at h
    cases h
  | .dict _, u, h => by
    unfold kD at h
    cases h
theorem kDs_ok {K : PySem.W.Frag} : ∀ (ds : List PyData) (us : List Value), kDs K us ds = true → ∃ vs, Vals vs us ∧ ∀ G, DpAll K G vs ds
  | [], us, h => by
    unfold kDs at h
    cases us with
    | nil => exact ⟨[], .nil, fun G => .nil⟩
    | cons _ _ => cases h
  | d :: ds, us, h => by
    unfold kDs at h
    cases us with
    | nil => cases h
    | cons u us =>
      obtain ⟨h1, h2⟩ := He.ba h
      obtain ⟨v, r, a⟩ := kD_ok d u h1
      obtain ⟨vs, rs, as⟩ := kDs_ok ds us h2
      exact ⟨v :: vs, .cons r rs, fun G => .cons (a G) (as G)⟩
end
/-- the module's name x is the data d -/
def conB (K : PySem.W.Frag) (q : Str × PyData) : Bool := match PySem.W.nsIn K mainGlobals q.1 with
  | some (some u) => kD K u q.2
  | _ => false
def impB (K : PySem.W.Frag) (q : Str × String) : Bool := He.eqO (PySem.W.nsIn K mainGlobals q.1) (some (some (.builtin q.2)))
def exB (cs : List (Str × PyData)) (is : List (Str × String)) (K : PySem.W.Frag) : Bool := cs.all (conB K) && is.all (impB K)
structure Con (K : PySem.W.Frag) (mg : Str → Option Value) (x : Str) (d : PyData) : Prop where
  ex : ∃ (v : V) (u : Value), mg x = some u ∧ RelV v u ∧ ∀ G, Dp K G v d
theorem con_ok {K : PySem.W.Frag} {h : Heap} {mg : Str → Option Value} {cs : List (Str × PyData)} {is : List (Str × String)} (X : K.In h) (G : h.Ns mainGlobals mg) (e : exB cs is K = true) (i : Nat) {q : Str × PyData} (hi : cs[i]? = some q) : Con K mg q.1 q.2 := by
  have h1 := List.all_eq_true.mp (He.ba e).1 q (List.mem_of_getElem? hi)
  unfold conB at h1
  cases z : PySem.W.nsIn K mainGlobals q.1 with
  | none =>
    rw [z] at h1
    cases h1
  | some o =>
    cases o with
    | none =>
      rw [z] at h1
      cases h1
    | some u =>
      rw [z] at h1
      obtain ⟨v, r, d⟩ := kD_ok q.2 u h1
      exact ⟨v, u, PySem.W.mg_of X G z, r, d⟩
theorem imp_ok {K : PySem.W.Frag} {h : Heap} {mg : Str → Option Value} {cs : List (Str × PyData)} {is : List (Str × String)} (X : K.In h) (G : h.Ns mainGlobals mg) (e : exB cs is K = true) (i : Nat) {q : Str × String} (hi : is[i]? = some q) : mg q.1 = some (.builtin q.2) :=
  PySem.W.mg_of X G (He.eqO_ok (List.all_eq_true.mp (He.ba e).2 q (List.mem_of_getElem? hi)))

/-! ### keywords -/
section
variable {K : PySem.W.Frag} {x qual : Str} {params : Arguments} {body : List Stmt} {scope : Scope} {dvs : List V} {f : Addr} {fd : FuncData} {ps : List Str}
/-- no defaults, all by keywords: g puts them in order -/
theorem kb_none (F : FunD K x qual params body scope [] [] f fd) (ks : List Str) (g : {α : Type} → List α → List α) (hrel : ∀ {zs : List V} {ws : List Value}, Vals zs ws → Vals (g zs) (g ws))
    (h : ∀ (kV doc pm : Value) (an : Option Addr) (cdv ct : Value) (ws : List Value), ws.length = ks.length → bindArgs (PySem.W.fnOf x qual params body scope .none kV doc pm an cdv ct) ⟨[], ks.zip ws⟩ = pure (ps.zip (g ws))) :
    KBn K fd ps 0 ks (fun _ ws => g ws) (fun _ zs => g zs) := by
  obtain ⟨oc, od, dV, kV, doc, pm, an, cdv, ct, osl, rfl, lk, hcd, hD, hK⟩ := F.ex
  rcases hD with ⟨_, rfl⟩ | ⟨e, _⟩
  · refine ⟨fun s us ws _ hu hw => ?_, fun _ r => hrel r⟩
    cases us with
    | nil => exact .of_eq (h kV doc pm an cdv ct ws hw)
    | cons _ _ => cases hu
  · exact absurd rfl e
/-- defaults, none of which is wanted -/
theorem kb_dfl (F : FunD K x qual params body scope dvs [] f fd) (hd : dvs ≠ []) (ks : List Str) (g : {α : Type} → List α → List α) (hrel : ∀ {zs : List V} {ws : List Value}, Vals zs ws → Vals (g zs) (g ws))
    (h : ∀ (T : Addr) (kV doc pm : Value) (an : Option Addr) (cdv ct : Value) (ws its : List Value), ws.length = ks.length → its.length = dvs.length →
      ∃ k, bindArgs (PySem.W.fnOf x qual params body scope (.ref T) kV doc pm an cdv ct) ⟨[], ks.zip ws⟩ = seqItems? (.ref T) >>= k ∧ k (some its.toArray) = pure (ps.zip (g ws))) :
    KBn K fd ps 0 ks (fun _ ws => g ws) (fun _ zs => g zs) := by
  obtain ⟨oc, od, dV, kV, doc, pm, an, cdv, ct, osl, rfl, lk, hcd, hD, hK⟩ := F.ex
  rcases hD with ⟨e, _⟩ | ⟨_, T, o, its, m, rfl, lT, oT, rT⟩
  · exact absurd e hd
  · refine ⟨fun s us ws X hu hw => ?_, fun _ r => hrel r⟩
    cases us with
    | nil =>
      obtain ⟨k, e1, e2⟩ := h T kV doc pm an cdv ct ws its hw rT.length.symm
      refine BindsTo.of_looks fun M => ?_
      rw [e1]
      exact looks_items X lT oT (.of_pure e2)
    | cons _ _ => cases hu
end
end Rim

/-! RimL: what the laws' own helpers want: the pail, slices, a law's last row. -/
namespace Rim
open PySem PySem.Spec L2

theorem szl_of {n : Nat} (h : Nat.ble n 1000 = true) : n ≤ sizeLine := Nat.le_trans (Nat.le_of_ble_eq_true h) (by decide)
abbrev rMulS : R2 := rI CMul fun i j => .int (i * j)

section
variable {K : PySem.W.Frag} {p : Option Addr} {E : Ev} {ta tb te : TE} {Φ : PyData → Prop} {Ψ : List PyData → Prop} {N B C : Ev → Prop} {R : PyData → Prop} {a : Addr}
theorem WR_mulS {i k : Int} (c : CMul i k) (q : Φ (.int (i * k))) : WR K p rMulS (.int i) (.int k) Φ := WR_I c rfl q

/-! ### slices -/
def cutD (ds : List PyData) (lo hi : Option Int) : List PyData := (ds.drop (HT.sIx ds.length 0 lo)).take (HT.sIx ds.length ds.length hi - HT.sIx ds.length 0 lo)
def WO (K : PySem.W.Frag) (p : Option Addr) (E : Ev) (t : TO) (Θ : Option Int → Prop) : Prop :=
  ∀ (H0 G H : Hp) (σ : L2.St), J p G H → EnvOk K p H0 G H σ E → ∀ Q : Option Int → Hp → Prop,
    (∀ o G' H', Xt p G H G' H' → J p G' H' → Θ o → Q o H') → t σ H Q
theorem WO_none {Θ : Option Int → Prop} (k : Θ none) : WO K p E tNoPart Θ := fun H0 G H σ j e Q q => q none G H Xt.refl j k
theorem WO_some {Θ : Option Int → Prop} (h : W K p E te fun d => ∃ i, d = .int i ∧ Θ (some i)) : WO K p E (tPart te) Θ := fun H0 G H σ j e Q q =>
  h H0 G H σ j e _ fun v d G' H' x j' dv hd => by
    obtain ⟨i, rfl, k⟩ := hd
    exact ⟨i, dp_int dv, q (some i) G' H' x j' k⟩
theorem WM_slL {tl th : TO} (h : W K p E te fun d => ∃ ds, d = .list ds ∧ WO K p E tl fun lo => WO K p E th fun hi => Ψ (cutD ds lo hi)) : WM K p E (tSl (rSlL K) te tl th) Ψ := by
  intro H0 G H σ j e Q q
  refine h H0 G H σ j e _ fun v d G1 H1 x1 j1 dv h1 => ?_
  obtain ⟨ds, rfl, h1⟩ := h1
  refine h1 H0 G1 H1 σ j1 (e.mono x1) _ fun lo G2 H2 x2 j2 h2 => ?_
  refine h2 H0 G2 H2 σ j2 ((e.mono x1).mono x2) _ fun hi G3 H3 x3 j3 h3 => ?_
  obtain ⟨l, xs, rfl, hs, ha⟩ := dp_lst dv
  have x13 := x1.trans (x2.trans x3)
  have g13 := x2.gg.trans x3.gg
  refine ⟨l, xs, rfl, (g13.trans j3.sub).seq hs, fun m hm => ?_⟩
  have hn : H m = none := by
    cases z : H m with
    | none => rfl
    | some o =>
      rw [x13.hh m o (j3.ne hm) z] at hm
      cases hm
  exact q m _ _ G3 _ (x13.trans (Xt.made j3 hm)) (j3.made (j3.free hm) (j3.ne hm)) hn upd_same (j3.free hm) (cut_ds lo hi (dpA_mono g13 ds xs ha)) h3
/-- t[a:b], not the whole -/
theorem W_slT {tl th : TO} (h : W K p E te fun d => ∃ ds, d = .tuple ds ∧ WO K p E tl fun lo => WO K p E th fun hi =>
    ¬ (HT.sIx ds.length 0 lo = 0 ∧ HT.sIx ds.length ds.length hi = ds.length) ∧ Φ (.tuple (cutD ds lo hi))) : W K p E (tSl (rSlT K) te tl th) Φ := by
  intro H0 G H σ j e Q q
  refine h H0 G H σ j e _ fun v d G1 H1 x1 j1 dv h1 => ?_
  obtain ⟨ds, rfl, h1⟩ := h1
  refine h1 H0 G1 H1 σ j1 (e.mono x1) _ fun lo G2 H2 x2 j2 h2 => ?_
  refine h2 H0 G2 H2 σ j2 ((e.mono x1).mono x2) _ fun hi G3 H3 x3 j3 h3 => ?_
  obtain ⟨l, xs, rfl, hs, ha⟩ := dp_tup dv
  have x13 := x1.trans (x2.trans x3)
  have g13 := x2.gg.trans x3.gg
  have hl := dpA_len ha
  refine ⟨l, xs, rfl, sqT_mono (g13.trans j3.sub) hs, ?_, fun m hm => ?_⟩
  · rw [hl]
    exact h3.1
  · have x4 := Xt.laid (p := p) j3 (o := .tup (cutV xs lo hi)) hm
    exact q _ _ _ _ (x13.trans x4) (j3.laid hm) (.tup (SqT.of upd_same) (dpA_mono x4.gg _ _ (cut_ds lo hi (dpA_mono g13 ds xs ha)))) h3.2

/-- xs + ys, xs a list of one's own, ys a new one -/
theorem WM_catV {i : Nat} {ds : List PyData} (hs : E[i]? = some (.m ds)) (h : WM K p E tb fun es => ds.length + es.length ≤ sizeLine ∧ Ψ (ds ++ es)) : WM K p E (tOp rCat (tVar i) tb) Ψ := by
  intro H0 G H σ j e Q q
  obtain ⟨l, vs, z1, z2, z3, z4, z5, z6⟩ := e.own hs
  refine ⟨_, z1, h H0 G H σ j e _ fun m us es G1 H1 x1 j1 hn hl hg dv h1 => ?_⟩
  have d3 := dpA_mono x1.gg ds vs z3
  refine ⟨l, m, vs, us, rfl, rfl, x1.hh l _ z5 z2, hl, by rw [dpA_len d3, dpA_len dv]; exact h1.1, fun n hnn => ?_⟩
  have hn0 : H n = none := by
    cases z : H n with
    | none => rfl
    | some o =>
      rw [x1.hh n o (j1.ne hnn) z] at hnn
      cases hnn
  exact q n _ _ G1 _ (x1.trans (Xt.made j1 hnn)) (j1.made (j1.free hnn) (j1.ne hnn)) hn0 upd_same (j1.free hnn) (dpA_append d3 dv) h1.2
/-- [te for x in a list], each by a function -/
theorem WM_mapL {i : Nat} {f : PyData → PyData} {tl : TE} (hi : i < E.length)
    (h : W K p E tl fun d => ∃ ds, d = .list ds ∧ ds.length ≤ sizeLine ∧ (∀ x, x ∈ ds → W K p (E.set i (.d x)) te fun y => y = f x) ∧ Ψ (ds.map f)) :
    WM K p E (tLc (iList K tl) (gName i) tYes te [i]) Ψ := by
  refine WM_lcL (h.imp fun d hd => ?_)
  obtain ⟨ds, rfl, hz, hw, hk⟩ := hd
  refine ⟨ds, rfl, hz, fun k acc => acc = (ds.take k).map f, by simp, fun k x acc hx ha => turn_name hi (WT_yes ⟨fun _ => (hw x (List.mem_of_getElem? hx)).imp fun y hy => ?_, fun z => Bool.noConfusion z⟩), fun acc ha => ?_⟩
  · show acc ++ [y] = List.map f (List.take (k + 1) ds)
    rw [show acc = List.map f (List.take k ds) from ha, hy, List.take_add_one, hx]
    simp
  · rw [ha, List.take_length]
    exact hk

/-! ### the pail -/
theorem W_pail {k : Nat} {i : Int} (h0 : 0 ≤ i ∧ i < 3) (ha : E[k]? = some (.v (.ref a))) (q : ∀ x, Φ (.int x)) : W K (some a) E (tOp (rIxL K) (tVar k) (tC (.int i))) Φ := by
  intro H0 G H σ j e Q z
  obtain ⟨_, x, y, w, hp⟩ := j.pl a rfl
  refine ⟨_, e.val ha, ?_⟩
  have hc : i = 0 ∨ i = 1 ∨ i = 2 := by omega
  rcases hc with rfl | rfl | rfl
  · exact ⟨a, _, 0, .int x, rfl, rfl, SqL.of hp, rfl, z _ _ G H Xt.refl j (.int x) (q x)⟩
  · exact ⟨a, _, 1, .int y, rfl, rfl, SqL.of hp, rfl, z _ _ G H Xt.refl j (.int y) (q y)⟩
  · exact ⟨a, _, 2, .int w, rfl, rfl, SqL.of hp, rfl, z _ _ G H Xt.refl j (.int w) (q w)⟩
theorem pail_upd {G H : Hp} {us : List V} (j : J (some a) G H) (h : ∃ x y z : Int, us = [.int x, .int y, .int z]) : J (some a) G (upd H a (.lst us)) ∧ Xt (some a) G H G (upd H a (.lst us)) := by
  obtain ⟨x, y, z, rfl⟩ := h
  have hg := (j.pl a rfl).1
  refine ⟨⟨fun b o e => ?_, fun b hb => ?_⟩, ⟨Same.refl G, fun b o hb e => ?_, fun b _ _ h => h⟩⟩
  · rw [upd_ne (ne_of_none e hg)]
    exact j.sub b o e
  · cases hb
    exact ⟨hg, x, y, z, upd_same⟩
  · have hne : b ≠ a := fun q => hb (by rw [q])
    rw [upd_ne hne]
    exact e
theorem set_three {x y z w : Int} {n : Nat} : ∃ a b c : Int, ([.int x, .int y, .int z] : List V).set n (.int w) = [.int a, .int b, .int c] := by
  match n with
  | 0 => exact ⟨w, y, z, rfl⟩
  | 1 => exact ⟨x, w, z, rfl⟩
  | 2 => exact ⟨x, y, w, rfl⟩
  | n + 3 => exact ⟨x, y, z, rfl⟩
theorem ix_three {i : Int} (h0 : 0 ≤ i ∧ i < 3) : ixN 3 i = some i.toNat := by
  unfold ixN
  rw [if_pos h0.1, if_pos (by omega)]
/-- pail[i] = e -/
theorem S_pail {k : Nat} {i : Int} (h0 : 0 ≤ i ∧ i < 3) (ha : E[k]? = some (.v (.ref a))) (h : W K (some a) E te fun d => ∃ x, d = .int x ∧ N E) :
    S K (some a) E (tAsg te (gSub (tVar k) (tC (.int i)) rSetL)) N R B C := fun G0 H0 G H σ x j e D q =>
  h H0 G H σ j e _ fun v d G1 H1 x1 j1 dv h1 => by
    obtain ⟨w, rfl, hn⟩ := h1
    obtain ⟨_, y1, y2, y3, hp⟩ := j1.pl a rfl
    have e1 := e.mono x1
    refine ⟨_, e1.val ha, a, _, i, i.toNat, rfl, rfl, hp, ix_three h0, ?_⟩
    rw [dp_int dv]
    obtain ⟨j2, x2⟩ := pail_upd (us := ([.int y1, .int y2, .int y3] : List V).set i.toNat (.int w)) j1 set_three
    exact q.nx σ E G1 _ ((x.trans x1).trans x2) j2 (e1.mono x2) hn
/-- pail[i], x = e -/
theorem S_pailP {k m : Nat} {i : Int} (h0 : 0 ≤ i ∧ i < 3) (ha : E[k]? = some (.v (.ref a))) (hm : m < E.length) (h : W K (some a) E te fun d => ∃ x y, d = .tuple [.int x, .int y] ∧ N (E.set m (.d (.int y)))) :
    S K (some a) E (tAsg te (gTup K 2 (gCons (gSub (tVar k) (tC (.int i)) rSetL) (gCons (gName m) gNil)))) N R B C := fun G0 H0 G H σ x j e D q =>
  h H0 G H σ j e _ fun v d G1 H1 x1 j1 dv h1 => by
    obtain ⟨w, u, rfl, hn⟩ := h1
    obtain ⟨b, xs, rfl, hs, hxs⟩ := dp_tup dv
    cases hxs with
    | cons d1 hxs =>
      cases hxs with
      | cons d2 hxs =>
        cases hxs
        cases d1
        cases d2
        obtain ⟨_, y1, y2, y3, hp⟩ := j1.pl a rfl
        have e1 := e.mono x1
        refine ⟨b, _, rfl, sqT_mono j1.sub hs, rfl, _, _, rfl, _, e1.val ha, a, _, i, i.toNat, rfl, rfl, hp, ix_three h0, ?_⟩
        obtain ⟨j2, x2⟩ := pail_upd (us := ([.int y1, .int y2, .int y3] : List V).set i.toNat (.int w)) j1 set_three
        refine ⟨_, _, rfl, rfl, ?_⟩
        exact q.nx _ _ G1 _ ((x.trans x1).trans x2) j2 ((e1.mono x2).setD (by rw [e.len]; exact hm) (.int u)) hn

/-! ### a def that hands back a new list of its own -/
def SM (K : PySem.W.Frag) (p : Option Addr) (E : Ev) (t : TS) (RM : List PyData → Prop) : Prop :=
  ∀ (G0 H0 G H : Hp) (σ : L2.St), Xt p G0 H0 G H → J p G H → EnvOk K p H0 G H σ E → ∀ D : Ends,
    (∀ l vs ds G' H', Xt p G0 H0 G' H' → J p G' H' → H0 l = none → H' l = some (.lst vs) → G' l = none → DpAll K G' vs ds → RM ds → D.rt (.ref l) H') → t D σ H
theorem SM_seq {t u : TS} {RM : List PyData → Prop} (h : S K p E t (fun E' => SM K p E' u RM) (fun _ => False) Nev Nev) : SM K p E (tSeq t u) RM := fun G0 H0 G H σ x j e D q =>
  h G0 H0 G H σ x j e { D with nx := u D } ⟨fun σ' E' G' H' x' j' e' s => s G0 H0 G' H' σ' x' j' e' D q, fun _ _ _ _ _ _ _ z => z.elim, fun _ _ _ _ _ _ _ z => z.elim, fun _ _ _ _ _ _ _ z => z.elim⟩
theorem SM_ret {RM : List PyData → Prop} (h : WM K p E te RM) : SM K p E (tRet te) RM := fun G0 H0 G H σ x j e D q =>
  h H0 G H σ j e _ fun l vs ds G' H' x' j' hn hl hg dv hd => q l vs ds G' H' (x.trans x') j' (x.fresh j hn) hl hg dv hd
end

def spPail (K : PySem.W.Frag) : Sp := fun vs H Q _ => vs.length = 2 ∧ ∃ (G : Hp) (ns : List Int) (t : Int), J none G H ∧ DpAll K G vs [.list (ns.map .int), .int t] ∧ 0 ≤ t ∧
  ∀ l (x y z : Int) G' H', Xt none G H G' H' → J none G' H' → H l = none → G' l = none → H' l = some (.lst [.int x, .int y, .int z]) → Q (.ref l) H'
theorem body_pail {K : PySem.W.Frag} {t : TS} {N : List Str} {vs : List V} {H : Hp} {Q : VK} {E : XK} (m : Nat) (hN : N.length = 2 + m) (hsp : spPail K vs H Q E)
    (h : ∀ (ns : List Int) (t0 : Int), 0 ≤ t0 → SM K none (ends [.list (ns.map .int), .int t0] m) t fun ds => ∃ x y z : Int, ds = [.int x, .int y, .int z]) :
    t { nx := fun _ H' => Q .non H', rt := Q } (L2.start N vs) H := by
  obtain ⟨hn, G, ns, t0, j, dv, ht, k⟩ := hsp
  refine h ns t0 ht G H G H _ Xt.refl j (env_start dv m (by rw [hn]; exact hN)) _ fun l us ds G' H' x' j' h0 hl hg da hr => ?_
  obtain ⟨x, y, z, rfl⟩ := hr
  cases da with
  | cons d1 da =>
    cases da with
    | cons d2 da =>
      cases da with
      | cons d3 da =>
        cases da
        cases d1
        cases d2
        cases d3
        exact k l x y z G' H' x' j' h0 hg hl
/-- right(pail(script, turn)) -/
theorem W_turn {K : PySem.W.Frag} {E : Ev} {tr : TA} {X Y : XK} {Φ : PyData → Prop} {ι : Type} {args : ι → List PyData} {pre : ι → Prop} {out : ι → PyData → Prop} (i : ι) (hi : args i = []) (hp : pre i)
    (h : WA K none E tr fun ds => ∃ (ns : List Int) (t : Int), ds = [.list (ns.map .int), .int t] ∧ 0 ≤ t ∧ ∀ d, out i d → Φ d) :
    W K none E (tCall (spP K 1 args pre out) [] Y (tCons (tCall (spPail K) [] X tr) tNil)) Φ := by
  intro H0 G H σ j e Q q
  refine h H0 G H σ j e _ fun vs ds G1 H1 x1 j1 dv h1 => ?_
  obtain ⟨ns, t, rfl, ht, hk⟩ := h1
  rw [List.append_nil]
  refine ⟨dpA_len dv, G1, ns, t, j1, dv, ht, fun l x y z G2 H2 x2 j2 hn hg hl => ?_⟩
  have j3 : J (some l) G2 H2 := ⟨j2.sub, fun b hb => by
    cases hb
    exact ⟨hg, x, y, z, hl⟩⟩
  refine ⟨rfl, l, [], G2, i, rfl, j3, by rw [hi]; exact .nil, hp, fun v d G3 H3 x3 j4 dv' hd => ?_⟩
  have hn0 : H l = none := by
    cases w : H l with
    | none => rfl
    | some o =>
      rw [x1.hh l o (by simp) w] at hn
      cases hn
  have x12 := x1.trans x2
  refine q v d G3 H3 ⟨x12.gg.trans x3.gg, fun b o _ hb => ?_, fun b _ hb hG => ?_⟩ ⟨j4.sub, fun b hb => by cases hb⟩ dv' (hk d hd)
  · have hne : some l ≠ some b := fun w => by
      cases w
      rw [hn0] at hb
      cases hb
    exact x3.hh b o hne (x12.hh b o (by simp) hb)
  · have hne : some l ≠ some b := fun w => by
      cases w
      exact hb hn0
    refine x3.fr b hne ?_ (x12.fr b (by simp) hb hG)
    cases w : H b with
    | none => exact absurd w hb
    | some o =>
      rw [x12.hh b o (by simp) w]
      exact Option.some_ne_none o
/-- the law's own promise -/
def spLaw (K : PySem.W.Frag) : Sp := fun vs H Q _ => vs.length = 1 ∧ ∃ (a : Addr) (ns : List Int), vs = [.ref a] ∧ SqL K H a (ns.map V.int) ∧ ns.length ≤ 63 ∧ ∀ H', Q (.bl true) H'
theorem dp_ints {K : PySem.W.Frag} {G : Hp} : ∀ ns : List Int, DpAll K G (ns.map V.int) (ns.map PyData.int)
  | [] => .nil
  | n :: r => .cons (.int n) (dp_ints r)
theorem body_law {K : PySem.W.Frag} {t : TS} {N : List Str} {vs : List V} {H : Hp} {Q : VK} {E : XK} (m : Nat) (hN : N.length = 1 + m) (hsp : spLaw K vs H Q E)
    (h : ∀ ns : List Int, ns.length ≤ 63 → S K none (ends [.list (ns.map .int)] m) t (fun _ => False) (fun d => d = .bool true) Nev Nev) :
    t { nx := fun _ H' => Q .non H', rt := Q } (L2.start N vs) H := by
  obtain ⟨hn, a, ns, rfl, hs, hl, k⟩ := hsp
  have j : J none H H := ⟨Same.refl H, fun b hb => by cases hb⟩
  refine h ns hl H H H H _ Xt.refl j (env_start (vs := [.ref a]) (ds := [.list (ns.map .int)]) (.cons (.lst hs (dp_ints ns)) .nil) m hN) _ ?_
  refine ⟨fun _ _ _ _ _ _ _ z => z.elim, fun v d G' H' _ _ dv z => ?_, fun _ _ _ _ _ _ _ z => z.elim, fun _ _ _ _ _ _ _ z => z.elim⟩
  subst z
  cases dv
  exact k H'
end Rim

namespace Rim
open PySem PySem.Spec L2
section
variable {K : PySem.W.Frag} {p : Option Addr} {E : Ev} {N : Ev → Prop} {R : PyData → Prop} {B C : Ev → Prop}
/-- a, b, c = e1, e2, e3 into three names -/
theorem S_par3 {i k m : Nat} {tr : TA} (hi : i < E.length) (hk : k < E.length) (hm : m < E.length) (h : WA K p E tr fun ds => ∃ a b c, ds = [a, b, c] ∧ N (((E.set i (.d a)).set k (.d b)).set m (.d c))) : S K p E (tPar3 i k m tr) N R B C := fun G0 H0 G H σ x j e D q =>
  h H0 G H σ j e _ fun vs ds G' H' x' j' dv hd => by
    obtain ⟨a, b, c, rfl, hn⟩ := hd
    cases dv with
    | cons da dv =>
      cases dv with
      | cons db dv =>
        cases dv with
        | cons dc dv =>
          cases dv
          refine ⟨_, _, _, rfl, q.nx _ _ G' H' (x.trans x') j' ((((e.mono x').setD (by rw [e.len]; exact hi) da).setD ?_ db).setD ?_ dc) hn⟩
          · rw [List.length_set, e.len]
            exact hk
          · rw [List.length_set, List.length_set, e.len]
            exact hm
end
end Rim

/-! RimO: an environment written out anew. -/
namespace Rim
open PySem PySem.Spec L2
/-- the environment by another name -/
theorem S_env {K : PySem.W.Frag} {p : Option Addr} {E E2 : Ev} {t : TS} {N B C : Ev → Prop} {R : PyData → Prop} (e : E = E2) (h : S K p E2 t N R B C) : S K p E t N R B C := e ▸ h
end Rim

namespace Rim
open PySem PySem.Spec L2
def top (i : Nat) : Stmt := PySem.Challenge.pw_withinrim_k02_whole_fractions_and_number.main.body.getD i (.Pass ⟨0, 0, 0, 0⟩)
abbrev s_reduced : Stmt := top 10
abbrev s_fraction_plus : Stmt := top 11
abbrev s_fraction_less : Stmt := top 12
abbrev s_fraction_times : Stmt := top 13
abbrev s_order : Stmt := top 14
abbrev s_number_from : Stmt := top 15
abbrev s_plus : Stmt := top 16
abbrev s_less : Stmt := top 17
abbrev s_times : Stmt := top 18
abbrev s_mirror : Stmt := top 19
abbrev s_size_of : Stmt := top 20
abbrev s_scaled : Stmt := top 21
abbrev s_over : Stmt := top 22
abbrev s_is_whole : Stmt := top 24
abbrev s_is_fraction : Stmt := top 25
abbrev s_is_number : Stmt := top 26
abbrev s_need_whole : Stmt := top 27
abbrev s_need_bottom : Stmt := top 28
abbrev s_need_fraction : Stmt := top 29
abbrev s_need_number : Stmt := top 30
abbrev s_fraction_of : Stmt := top 31
abbrev s_number_of : Stmt := top 32
abbrev s_compared : Stmt := top 33
abbrev s_number_sum : Stmt := top 34
abbrev s_number_less : Stmt := top 35
abbrev s_number_product : Stmt := top 36
abbrev s_number_over : Stmt := top 37
abbrev s_mirrored : Stmt := top 38
abbrev s_size : Stmt := top 39
abbrev s_lies : Stmt := top 40
abbrev s__law_pail : Stmt := top 42
abbrev s__law_dip : Stmt := top 43
abbrev s__law_one_of : Stmt := top 44
abbrev s__law_gcd : Stmt := top 45
abbrev s__law_cut : Stmt := top 46
abbrev s__law_add : Stmt := top 47
abbrev s__law_less : Stmt := top 48
abbrev s__law_times : Stmt := top 49
abbrev s__law_over : Stmt := top 50
abbrev s__law_bent : Stmt := top 51
abbrev s__law_fraction : Stmt := top 52
abbrev s__law_size : Stmt := top 53
abbrev s__law_told : Stmt := top 54
abbrev s__law_whole : Stmt := top 55
abbrev s__law_below : Stmt := top 56
abbrev s__law_triple : Stmt := top 57
abbrev s__law_where : Stmt := top 58
abbrev s__law_fractions : Stmt := top 59
abbrev s__law_right : Stmt := top 60
abbrev s_law : Stmt := top 61
def d_reduced : He.DefD := ⟨("reduced", none), "reduced", "reduced", defArgs s_reduced, defBody s_reduced, defScope s_reduced, [], []⟩
def d_fraction_plus : He.DefD := ⟨("fraction_plus", none), "fraction_plus", "fraction_plus", defArgs s_fraction_plus, defBody s_fraction_plus, defScope s_fraction_plus, [], []⟩
def d_fraction_less : He.DefD := ⟨("fraction_less", none), "fraction_less", "fraction_less", defArgs s_fraction_less, defBody s_fraction_less, defScope s_fraction_less, [], []⟩
def d_fraction_times : He.DefD := ⟨("fraction_times", none), "fraction_times", "fraction_times", defArgs s_fraction_times, defBody s_fraction_times, defScope s_fraction_times, [], []⟩
def d_order : He.DefD := ⟨("order", none), "order", "order", defArgs s_order, defBody s_order, defScope s_order, [], []⟩
def d_number_from : He.DefD := ⟨("number_from", none), "number_from", "number_from", defArgs s_number_from, defBody s_number_from, defScope s_number_from, [], []⟩
def d_plus : He.DefD := ⟨("plus", none), "plus", "plus", defArgs s_plus, defBody s_plus, defScope s_plus, [], []⟩
def d_less : He.DefD := ⟨("less", none), "less", "less", defArgs s_less, defBody s_less, defScope s_less, [], []⟩
def d_times : He.DefD := ⟨("times", none), "times", "times", defArgs s_times, defBody s_times, defScope s_times, [], []⟩
def d_mirror : He.DefD := ⟨("mirror", none), "mirror", "mirror", defArgs s_mirror, defBody s_mirror, defScope s_mirror, [], []⟩
def d_size_of : He.DefD := ⟨("size_of", none), "size_of", "size_of", defArgs s_size_of, defBody s_size_of, defScope s_size_of, [], []⟩
def d_scaled : He.DefD := ⟨("scaled", none), "scaled", "scaled", defArgs s_scaled, defBody s_scaled, defScope s_scaled, [], []⟩
def d_over : He.DefD := ⟨("over", none), "over", "over", defArgs s_over, defBody s_over, defScope s_over, [], []⟩
def d_is_whole : He.DefD := ⟨("is_whole", none), "is_whole", "is_whole", defArgs s_is_whole, defBody s_is_whole, defScope s_is_whole, [], []⟩
def d_is_fraction : He.DefD := ⟨("is_fraction", none), "is_fraction", "is_fraction", defArgs s_is_fraction, defBody s_is_fraction, defScope s_is_fraction, [], []⟩
def d_is_number : He.DefD := ⟨("is_number", none), "is_number", "is_number", defArgs s_is_number, defBody s_is_number, defScope s_is_number, [], []⟩
def d_need_whole : He.DefD := ⟨("need_whole", none), "need_whole", "need_whole", defArgs s_need_whole, defBody s_need_whole, defScope s_need_whole, [], []⟩
def d_need_bottom : He.DefD := ⟨("need_bottom", none), "need_bottom", "need_bottom", defArgs s_need_bottom, defBody s_need_bottom, defScope s_need_bottom, [], []⟩
def d_need_fraction : He.DefD := ⟨("need_fraction", none), "need_fraction", "need_fraction", defArgs s_need_fraction, defBody s_need_fraction, defScope s_need_fraction, [], []⟩
def d_need_number : He.DefD := ⟨("need_number", none), "need_number", "need_number", defArgs s_need_number, defBody s_need_number, defScope s_need_number, [], []⟩
def d_fraction_of : He.DefD := ⟨("fraction_of", none), "fraction_of", "fraction_of", defArgs s_fraction_of, defBody s_fraction_of, defScope s_fraction_of, [.int 1], []⟩
def d_number_of : He.DefD := ⟨("number_of", none), "number_of", "number_of", defArgs s_number_of, defBody s_number_of, defScope s_number_of, [.int 0, .int 1], []⟩
def d_compared : He.DefD := ⟨("compared", none), "compared", "compared", defArgs s_compared, defBody s_compared, defScope s_compared, [], []⟩
def d_number_sum : He.DefD := ⟨("number_sum", none), "number_sum", "number_sum", defArgs s_number_sum, defBody s_number_sum, defScope s_number_sum, [], []⟩
def d_number_less : He.DefD := ⟨("number_less", none), "number_less", "number_less", defArgs s_number_less, defBody s_number_less, defScope s_number_less, [], []⟩
def d_number_product : He.DefD := ⟨("number_product", none), "number_product", "number_product", defArgs s_number_product, defBody s_number_product, defScope s_number_product, [], []⟩
def d_number_over : He.DefD := ⟨("number_over", none), "number_over", "number_over", defArgs s_number_over, defBody s_number_over, defScope s_number_over, [], []⟩
def d_mirrored : He.DefD := ⟨("mirrored", none), "mirrored", "mirrored", defArgs s_mirrored, defBody s_mirrored, defScope s_mirrored, [], []⟩
def d_size : He.DefD := ⟨("size", none), "size", "size", defArgs s_size, defBody s_size, defScope s_size, [], []⟩
def d_lies : He.DefD := ⟨("lies", none), "lies", "lies", defArgs s_lies, defBody s_lies, defScope s_lies, [], []⟩
def d__law_pail : He.DefD := ⟨("_law_pail", none), "_law_pail", "_law_pail", defArgs s__law_pail, defBody s__law_pail, defScope s__law_pail, [], []⟩
def d__law_dip : He.DefD := ⟨("_law_dip", none), "_law_dip", "_law_dip", defArgs s__law_dip, defBody s__law_dip, defScope s__law_dip, [], []⟩
def d__law_one_of : He.DefD := ⟨("_law_one_of", none), "_law_one_of", "_law_one_of", defArgs s__law_one_of, defBody s__law_one_of, defScope s__law_one_of, [], []⟩
def d__law_gcd : He.DefD := ⟨("_law_gcd", none), "_law_gcd", "_law_gcd", defArgs s__law_gcd, defBody s__law_gcd, defScope s__law_gcd, [], []⟩
def d__law_cut : He.DefD := ⟨("_law_cut", none), "_law_cut", "_law_cut", defArgs s__law_cut, defBody s__law_cut, defScope s__law_cut, [], []⟩
def d__law_add : He.DefD := ⟨("_law_add", none), "_law_add", "_law_add", defArgs s__law_add, defBody s__law_add, defScope s__law_add, [], []⟩
def d__law_less : He.DefD := ⟨("_law_less", none), "_law_less", "_law_less", defArgs s__law_less, defBody s__law_less, defScope s__law_less, [], []⟩
def d__law_times : He.DefD := ⟨("_law_times", none), "_law_times", "_law_times", defArgs s__law_times, defBody s__law_times, defScope s__law_times, [], []⟩
def d__law_over : He.DefD := ⟨("_law_over", none), "_law_over", "_law_over", defArgs s__law_over, defBody s__law_over, defScope s__law_over, [], []⟩
def d__law_bent : He.DefD := ⟨("_law_bent", none), "_law_bent", "_law_bent", defArgs s__law_bent, defBody s__law_bent, defScope s__law_bent, [], []⟩
def d__law_fraction : He.DefD := ⟨("_law_fraction", none), "_law_fraction", "_law_fraction", defArgs s__law_fraction, defBody s__law_fraction, defScope s__law_fraction, [], []⟩
def d__law_size : He.DefD := ⟨("_law_size", none), "_law_size", "_law_size", defArgs s__law_size, defBody s__law_size, defScope s__law_size, [], []⟩
def d__law_told : He.DefD := ⟨("_law_told", none), "_law_told", "_law_told", defArgs s__law_told, defBody s__law_told, defScope s__law_told, [], []⟩
def d__law_whole : He.DefD := ⟨("_law_whole", none), "_law_whole", "_law_whole", defArgs s__law_whole, defBody s__law_whole, defScope s__law_whole, [], []⟩
def d__law_below : He.DefD := ⟨("_law_below", none), "_law_below", "_law_below", defArgs s__law_below, defBody s__law_below, defScope s__law_below, [], []⟩
def d__law_triple : He.DefD := ⟨("_law_triple", none), "_law_triple", "_law_triple", defArgs s__law_triple, defBody s__law_triple, defScope s__law_triple, [], []⟩
def d__law_where : He.DefD := ⟨("_law_where", none), "_law_where", "_law_where", defArgs s__law_where, defBody s__law_where, defScope s__law_where, [], []⟩
def d__law_fractions : He.DefD := ⟨("_law_fractions", none), "_law_fractions", "_law_fractions", defArgs s__law_fractions, defBody s__law_fractions, defScope s__law_fractions, [], []⟩
def d__law_right : He.DefD := ⟨("_law_right", none), "_law_right", "_law_right", defArgs s__law_right, defBody s__law_right, defScope s__law_right, [], []⟩
def d_law : He.DefD := ⟨("law", none), "law", "law", defArgs s_law, defBody s_law, defScope s_law, [], []⟩
def fns_0 : List He.DefD := [d_reduced, d_fraction_plus, d_fraction_less, d_fraction_times, d_order, d_number_from, d_plus, d_less, d_times, d_mirror]
def fns_1 : List He.DefD := [d_size_of, d_scaled, d_over, d_is_whole, d_is_fraction, d_is_number, d_need_whole, d_need_bottom, d_need_fraction, d_need_number]
def fns_2 : List He.DefD := [d_fraction_of, d_number_of, d_compared, d_number_sum, d_number_less, d_number_product, d_number_over, d_mirrored, d_size, d_lies]
def fns_3 : List He.DefD := [d__law_pail, d__law_dip, d__law_one_of, d__law_gcd, d__law_cut, d__law_add, d__law_less, d__law_times, d__law_over, d__law_bent]
def fns_4 : List He.DefD := [d__law_fraction, d__law_size, d__law_told, d__law_whole, d__law_below, d__law_triple, d__law_where, d__law_fractions, d__law_right, d_law]
def fns : List He.DefD := fns_0 ++ (fns_1 ++ (fns_2 ++ (fns_3 ++ (fns_4))))
def fas_0 : List He.Fa := [.glo "reduced", .glo "fraction_plus", .glo "fraction_less", .glo "fraction_times", .glo "order", .glo "number_from", .glo "plus", .glo "less", .glo "times", .glo "mirror"]
def fas_1 : List He.Fa := [.glo "size_of", .glo "scaled", .glo "over", .glo "is_whole", .glo "is_fraction", .glo "is_number", .glo "need_whole", .glo "need_bottom", .glo "need_fraction", .glo "need_number"]
def fas_2 : List He.Fa := [.glo "fraction_of", .glo "number_of", .glo "compared", .glo "number_sum", .glo "number_less", .glo "number_product", .glo "number_over", .glo "mirrored", .glo "size", .glo "lies"]
def fas_3 : List He.Fa := [.glo "_law_pail", .glo "_law_dip", .glo "_law_one_of", .glo "_law_gcd", .glo "_law_cut", .glo "_law_add", .glo "_law_less", .glo "_law_times", .glo "_law_over", .glo "_law_bent"]
def fas_4 : List He.Fa := [.glo "_law_fraction", .glo "_law_size", .glo "_law_told", .glo "_law_whole", .glo "_law_below", .glo "_law_triple", .glo "_law_where", .glo "_law_fractions", .glo "_law_right", .glo "law"]
def fas_5 : List He.Fa := [.free "abs", .free "all", .free "bool", .free "divmod", .free "int", .free "isinstance", .free "len", .free "max", .free "min", .free "range"]
def fas_6 : List He.Fa := [.free "repr", .free "tuple"]
def fas : List He.Fa := fas_0 ++ (fas_1 ++ (fas_2 ++ (fas_3 ++ (fas_4 ++ (fas_5 ++ (fas_6))))))
def names_0 : List Str := ["__name__", "RimError", "InvalidFraction", "InvalidNumber", "InvalidWhole", "NotNow", "ONE", "NOUGHT", "reduced", "fraction_plus"]
def names_1 : List Str := ["fraction_less", "fraction_times", "order", "number_from", "plus", "less", "times", "mirror", "size_of", "scaled"]
def names_2 : List Str := ["over", "is_whole", "is_fraction", "is_number", "need_whole", "need_bottom", "need_fraction", "need_number", "fraction_of", "number_of"]
def names_3 : List Str := ["compared", "number_sum", "number_less", "number_product", "number_over", "mirrored", "size", "lies", "_law_pail", "_law_dip"]
def names_4 : List Str := ["_law_one_of", "_law_gcd", "_law_cut", "_law_add", "_law_less", "_law_times", "_law_over", "_law_bent", "_law_fraction", "_law_size"]
def names_5 : List Str := ["_law_told", "_law_whole", "_law_below", "_law_triple", "_law_where", "_law_fractions", "_law_right"]
def names : List Str := names_0 ++ (names_1 ++ (names_2 ++ (names_3 ++ (names_4 ++ (names_5)))))
def cons : List (Str × PyData) := [("ONE", fr 1), ("NOUGHT", nm ⟨0, 0⟩)]
def imps : List (Str × String) := [("gcd", "math.gcd")]
abbrev Rw : PySem.W.OpenRow := PySem.W.OpenLaw.row PySem.Challenge.rw_withinrim_k02_whole_fractions_and_number
abbrev hk : PySem.W.Hook := He.hookX 4 fas fns [] [] (exB cons imps)
def ob (s : PySem.W.SharedT) : He.AlX := He.obsX 4 fas fns [] [] (exB cons imps) (HandSHeadRun.getT s)
theorem ob_eq (s : PySem.W.SharedT) : ob s = hk.obs s.abs := He.obsX_eq (HandSHeadRun.getT_eq s)
theorem run (w : World) : HandSHeadRun.RunEqI Rw (PySem.W.view Rw.prog [0, 61]) hk ob 6000 names w := by
  show Option.map _ _ = _
  kernel_rfl
structure Txt (K : PySem.W.Frag) (mg : Str → Option Value) : Prop where
  g_reduced : mg "reduced" = some (.ref (He.ga K "reduced"))
  f_reduced : ∃ fd, FunD K "reduced" "reduced" (defArgs s_reduced) (defBody s_reduced) (defScope s_reduced) [] [] (He.ga K "reduced") fd
  g_fraction_plus : mg "fraction_plus" = some (.ref (He.ga K "fraction_plus"))
  f_fraction_plus : ∃ fd, FunD K "fraction_plus" "fraction_plus" (defArgs s_fraction_plus) (defBody s_fraction_plus) (defScope s_fraction_plus) [] [] (He.ga K "fraction_plus") fd
  g_fraction_less : mg "fraction_less" = some (.ref (He.ga K "fraction_less"))
  f_fraction_less : ∃ fd, FunD K "fraction_less" "fraction_less" (defArgs s_fraction_less) (defBody s_fraction_less) (defScope s_fraction_less) [] [] (He.ga K "fraction_less") fd
  g_fraction_times : mg "fraction_times" = some (.ref (He.ga K "fraction_times"))
  f_fraction_times : ∃ fd, FunD K "fraction_times" "fraction_times" (defArgs s_fraction_times) (defBody s_fraction_times) (defScope s_fraction_times) [] [] (He.ga K "fraction_times") fd
  g_order : mg "order" = some (.ref (He.ga K "order"))
  f_order : ∃ fd, FunD K "order" "order" (defArgs s_order) (defBody s_order) (defScope s_order) [] [] (He.ga K "order") fd
  g_number_from : mg "number_from" = some (.ref (He.ga K "number_from"))
  f_number_from : ∃ fd, FunD K "number_from" "number_from" (defArgs s_number_from) (defBody s_number_from) (defScope s_number_from) [] [] (He.ga K "number_from") fd
  g_plus : mg "plus" = some (.ref (He.ga K "plus"))
  f_plus : ∃ fd, FunD K "plus" "plus" (defArgs s_plus) (defBody s_plus) (defScope s_plus) [] [] (He.ga K "plus") fd
  g_less : mg "less" = some (.ref (He.ga K "less"))
  f_less : ∃ fd, FunD K "less" "less" (defArgs s_less) (defBody s_less) (defScope s_less) [] [] (He.ga K "less") fd
  g_times : mg "times" = some (.ref (He.ga K "times"))
  f_times : ∃ fd, FunD K "times" "times" (defArgs s_times) (defBody s_times) (defScope s_times) [] [] (He.ga K "times") fd
  g_mirror : mg "mirror" = some (.ref (He.ga K "mirror"))
  f_mirror : ∃ fd, FunD K "mirror" "mirror" (defArgs s_mirror) (defBody s_mirror) (defScope s_mirror) [] [] (He.ga K "mirror") fd
  g_size_of : mg "size_of" = some (.ref (He.ga K "size_of"))
  f_size_of : ∃ fd, FunD K "size_of" "size_of" (defArgs s_size_of) (defBody s_size_of) (defScope s_size_of) [] [] (He.ga K "size_of") fd
  g_scaled : mg "scaled" = some (.ref (He.ga K "scaled"))
  f_scaled : ∃ fd, FunD K "scaled" "scaled" (defArgs s_scaled) (defBody s_scaled) (defScope s_scaled) [] [] (He.ga K "scaled") fd
  g_over : mg "over" = some (.ref (He.ga K "over"))
  f_over : ∃ fd, FunD K "over" "over" (defArgs s_over) (defBody s_over) (defScope s_over) [] [] (He.ga K "over") fd
  g_is_whole : mg "is_whole" = some (.ref (He.ga K "is_whole"))
  f_is_whole : ∃ fd, FunD K "is_whole" "is_whole" (defArgs s_is_whole) (defBody s_is_whole) (defScope s_is_whole) [] [] (He.ga K "is_whole") fd
  g_is_fraction : mg "is_fraction" = some (.ref (He.ga K "is_fraction"))
  f_is_fraction : ∃ fd, FunD K "is_fraction" "is_fraction" (defArgs s_is_fraction) (defBody s_is_fraction) (defScope s_is_fraction) [] [] (He.ga K "is_fraction") fd
  g_is_number : mg "is_number" = some (.ref (He.ga K "is_number"))
  f_is_number : ∃ fd, FunD K "is_number" "is_number" (defArgs s_is_number) (defBody s_is_number) (defScope s_is_number) [] [] (He.ga K "is_number") fd
  g_need_whole : mg "need_whole" = some (.ref (He.ga K "need_whole"))
  f_need_whole : ∃ fd, FunD K "need_whole" "need_whole" (defArgs s_need_whole) (defBody s_need_whole) (defScope s_need_whole) [] [] (He.ga K "need_whole") fd
  g_need_bottom : mg "need_bottom" = some (.ref (He.ga K "need_bottom"))
  f_need_bottom : ∃ fd, FunD K "need_bottom" "need_bottom" (defArgs s_need_bottom) (defBody s_need_bottom) (defScope s_need_bottom) [] [] (He.ga K "need_bottom") fd
  g_need_fraction : mg "need_fraction" = some (.ref (He.ga K "need_fraction"))
  f_need_fraction : ∃ fd, FunD K "need_fraction" "need_fraction" (defArgs s_need_fraction) (defBody s_need_fraction) (defScope s_need_fraction) [] [] (He.ga K "need_fraction") fd
  g_need_number : mg "need_number" = some (.ref (He.ga K "need_number"))
  f_need_number : ∃ fd, FunD K "need_number" "need_number" (defArgs s_need_number) (defBody s_need_number) (defScope s_need_number) [] [] (He.ga K "need_number") fd
  g_fraction_of : mg "fraction_of" = some (.ref (He.ga K "fraction_of"))
  f_fraction_of : ∃ fd, FunD K "fraction_of" "fraction_of" (defArgs s_fraction_of) (defBody s_fraction_of) (defScope s_fraction_of) [.int 1] [] (He.ga K "fraction_of") fd
  g_number_of : mg "number_of" = some (.ref (He.ga K "number_of"))
  f_number_of : ∃ fd, FunD K "number_of" "number_of" (defArgs s_number_of) (defBody s_number_of) (defScope s_number_of) [.int 0, .int 1] [] (He.ga K "number_of") fd
  g_compared : mg "compared" = some (.ref (He.ga K "compared"))
  f_compared : ∃ fd, FunD K "compared" "compared" (defArgs s_compared) (defBody s_compared) (defScope s_compared) [] [] (He.ga K "compared") fd
  g_number_sum : mg "number_sum" = some (.ref (He.ga K "number_sum"))
  f_number_sum : ∃ fd, FunD K "number_sum" "number_sum" (defArgs s_number_sum) (defBody s_number_sum) (defScope s_number_sum) [] [] (He.ga K "number_sum") fd
  g_number_less : mg "number_less" = some (.ref (He.ga K "number_less"))
  f_number_less : ∃ fd, FunD K "number_less" "number_less" (defArgs s_number_less) (defBody s_number_less) (defScope s_number_less) [] [] (He.ga K "number_less") fd
  g_number_product : mg "number_product" = some (.ref (He.ga K "number_product"))
  f_number_product : ∃ fd, FunD K "number_product" "number_product" (defArgs s_number_product) (defBody s_number_product) (defScope s_number_product) [] [] (He.ga K "number_product") fd
  g_number_over : mg "number_over" = some (.ref (He.ga K "number_over"))
  f_number_over : ∃ fd, FunD K "number_over" "number_over" (defArgs s_number_over) (defBody s_number_over) (defScope s_number_over) [] [] (He.ga K "number_over") fd
  g_mirrored : mg "mirrored" = some (.ref (He.ga K "mirrored"))
  f_mirrored : ∃ fd, FunD K "mirrored" "mirrored" (defArgs s_mirrored) (defBody s_mirrored) (defScope s_mirrored) [] [] (He.ga K "mirrored") fd
  g_size : mg "size" = some (.ref (He.ga K "size"))
  f_size : ∃ fd, FunD K "size" "size" (defArgs s_size) (defBody s_size) (defScope s_size) [] [] (He.ga K "size") fd
  g_lies : mg "lies" = some (.ref (He.ga K "lies"))
  f_lies : ∃ fd, FunD K "lies" "lies" (defArgs s_lies) (defBody s_lies) (defScope s_lies) [] [] (He.ga K "lies") fd
  g__law_pail : mg "_law_pail" = some (.ref (He.ga K "_law_pail"))
  f__law_pail : ∃ fd, FunD K "_law_pail" "_law_pail" (defArgs s__law_pail) (defBody s__law_pail) (defScope s__law_pail) [] [] (He.ga K "_law_pail") fd
  g__law_dip : mg "_law_dip" = some (.ref (He.ga K "_law_dip"))
  f__law_dip : ∃ fd, FunD K "_law_dip" "_law_dip" (defArgs s__law_dip) (defBody s__law_dip) (defScope s__law_dip) [] [] (He.ga K "_law_dip") fd
  g__law_one_of : mg "_law_one_of" = some (.ref (He.ga K "_law_one_of"))
  f__law_one_of : ∃ fd, FunD K "_law_one_of" "_law_one_of" (defArgs s__law_one_of) (defBody s__law_one_of) (defScope s__law_one_of) [] [] (He.ga K "_law_one_of") fd
  g__law_gcd : mg "_law_gcd" = some (.ref (He.ga K "_law_gcd"))
  f__law_gcd : ∃ fd, FunD K "_law_gcd" "_law_gcd" (defArgs s__law_gcd) (defBody s__law_gcd) (defScope s__law_gcd) [] [] (He.ga K "_law_gcd") fd
  g__law_cut : mg "_law_cut" = some (.ref (He.ga K "_law_cut"))
  f__law_cut : ∃ fd, FunD K "_law_cut" "_law_cut" (defArgs s__law_cut) (defBody s__law_cut) (defScope s__law_cut) [] [] (He.ga K "_law_cut") fd
  g__law_add : mg "_law_add" = some (.ref (He.ga K "_law_add"))
  f__law_add : ∃ fd, FunD K "_law_add" "_law_add" (defArgs s__law_add) (defBody s__law_add) (defScope s__law_add) [] [] (He.ga K "_law_add") fd
  g__law_less : mg "_law_less" = some (.ref (He.ga K "_law_less"))
  f__law_less : ∃ fd, FunD K "_law_less" "_law_less" (defArgs s__law_less) (defBody s__law_less) (defScope s__law_less) [] [] (He.ga K "_law_less") fd
  g__law_times : mg "_law_times" = some (.ref (He.ga K "_law_times"))
  f__law_times : ∃ fd, FunD K "_law_times" "_law_times" (defArgs s__law_times) (defBody s__law_times) (defScope s__law_times) [] [] (He.ga K "_law_times") fd
  g__law_over : mg "_law_over" = some (.ref (He.ga K "_law_over"))
  f__law_over : ∃ fd, FunD K "_law_over" "_law_over" (defArgs s__law_over) (defBody s__law_over) (defScope s__law_over) [] [] (He.ga K "_law_over") fd
  g__law_bent : mg "_law_bent" = some (.ref (He.ga K "_law_bent"))
  f__law_bent : ∃ fd, FunD K "_law_bent" "_law_bent" (defArgs s__law_bent) (defBody s__law_bent) (defScope s__law_bent) [] [] (He.ga K "_law_bent") fd
  g__law_fraction : mg "_law_fraction" = some (.ref (He.ga K "_law_fraction"))
  f__law_fraction : ∃ fd, FunD K "_law_fraction" "_law_fraction" (defArgs s__law_fraction) (defBody s__law_fraction) (defScope s__law_fraction) [] [] (He.ga K "_law_fraction") fd
  g__law_size : mg "_law_size" = some (.ref (He.ga K "_law_size"))
  f__law_size : ∃ fd, FunD K "_law_size" "_law_size" (defArgs s__law_size) (defBody s__law_size) (defScope s__law_size) [] [] (He.ga K "_law_size") fd
  g__law_told : mg "_law_told" = some (.ref (He.ga K "_law_told"))
  f__law_told : ∃ fd, FunD K "_law_told" "_law_told" (defArgs s__law_told) (defBody s__law_told) (defScope s__law_told) [] [] (He.ga K "_law_told") fd
  g__law_whole : mg "_law_whole" = some (.ref (He.ga K "_law_whole"))
  f__law_whole : ∃ fd, FunD K "_law_whole" "_law_whole" (defArgs s__law_whole) (defBody s__law_whole) (defScope s__law_whole) [] [] (He.ga K "_law_whole") fd
  g__law_below : mg "_law_below" = some (.ref (He.ga K "_law_below"))
  f__law_below : ∃ fd, FunD K "_law_below" "_law_below" (defArgs s__law_below) (defBody s__law_below) (defScope s__law_below) [] [] (He.ga K "_law_below") fd
  g__law_triple : mg "_law_triple" = some (.ref (He.ga K "_law_triple"))
  f__law_triple : ∃ fd, FunD K "_law_triple" "_law_triple" (defArgs s__law_triple) (defBody s__law_triple) (defScope s__law_triple) [] [] (He.ga K "_law_triple") fd
  g__law_where : mg "_law_where" = some (.ref (He.ga K "_law_where"))
  f__law_where : ∃ fd, FunD K "_law_where" "_law_where" (defArgs s__law_where) (defBody s__law_where) (defScope s__law_where) [] [] (He.ga K "_law_where") fd
  g__law_fractions : mg "_law_fractions" = some (.ref (He.ga K "_law_fractions"))
  f__law_fractions : ∃ fd, FunD K "_law_fractions" "_law_fractions" (defArgs s__law_fractions) (defBody s__law_fractions) (defScope s__law_fractions) [] [] (He.ga K "_law_fractions") fd
  g__law_right : mg "_law_right" = some (.ref (He.ga K "_law_right"))
  f__law_right : ∃ fd, FunD K "_law_right" "_law_right" (defArgs s__law_right) (defBody s__law_right) (defScope s__law_right) [] [] (He.ga K "_law_right") fd
  g_law : mg "law" = some (.ref (He.ga K "law"))
  f_law : ∃ fd, FunD K "law" "law" (defArgs s_law) (defBody s_law) (defScope s_law) [] [] (He.ga K "law") fd
  b_abs : mg "abs" = none
  b_all : mg "all" = none
  b_bool : mg "bool" = none
  b_divmod : mg "divmod" = none
  b_int : mg "int" = none
  b_isinstance : mg "isinstance" = none
  b_len : mg "len" = none
  b_max : mg "max" = none
  b_min : mg "min" = none
  b_range : mg "range" = none
  b_repr : mg "repr" = none
  b_tuple : mg "tuple" = none
  c_ONE : Rim.Con K mg "ONE" (fr 1)
  c_NOUGHT : Rim.Con K mg "NOUGHT" (nm ⟨0, 0⟩)
  i_gcd : mg "gcd" = some (.builtin "math.gcd")
theorem txt_of {w : World} {K : PySem.W.Frag} {h : Heap} {mg : Str → Option Value} (X : K.In h) (G : h.Ns mainGlobals mg) (c : He.SaysX fas fns [] [] (exB cons imps) w h K) : Txt K mg where
  g_reduced := He.glo_ok X G (c.t.d.fact 0 (f := .glo "reduced") rfl)
  f_reduced := c.t.d.def_ 0 (d := d_reduced) rfl
  g_fraction_plus := He.glo_ok X G (c.t.d.fact 1 (f := .glo "fraction_plus") rfl)
  f_fraction_plus := c.t.d.def_ 1 (d := d_fraction_plus) rfl
  g_fraction_less := He.glo_ok X G (c.t.d.fact 2 (f := .glo "fraction_less") rfl)
  f_fraction_less := c.t.d.def_ 2 (d := d_fraction_less) rfl
  g_fraction_times := He.glo_ok X G (c.t.d.fact 3 (f := .glo "fraction_times") rfl)
  f_fraction_times := c.t.d.def_ 3 (d := d_fraction_times) rfl
  g_order := He.glo_ok X G (c.t.d.fact 4 (f := .glo "order") rfl)
  f_order := c.t.d.def_ 4 (d := d_order) rfl
  g_number_from := He.glo_ok X G (c.t.d.fact 5 (f := .glo "number_from") rfl)
  f_number_from := c.t.d.def_ 5 (d := d_number_from) rfl
  g_plus := He.glo_ok X G (c.t.d.fact 6 (f := .glo "plus") rfl)
  f_plus := c.t.d.def_ 6 (d := d_plus) rfl
  g_less := He.glo_ok X G (c.t.d.fact 7 (f := .glo "less") rfl)
  f_less := c.t.d.def_ 7 (d := d_less) rfl
  g_times := He.glo_ok X G (c.t.d.fact 8 (f := .glo "times") rfl)
  f_times := c.t.d.def_ 8 (d := d_times) rfl
  g_mirror := He.glo_ok X G (c.t.d.fact 9 (f := .glo "mirror") rfl)
  f_mirror := c.t.d.def_ 9 (d := d_mirror) rfl
  g_size_of := He.glo_ok X G (c.t.d.fact 10 (f := .glo "size_of") rfl)
  f_size_of := c.t.d.def_ 10 (d := d_size_of) rfl
  g_scaled := He.glo_ok X G (c.t.d.fact 11 (f := .glo "scaled") rfl)
  f_scaled := c.t.d.def_ 11 (d := d_scaled) rfl
  g_over := He.glo_ok X G (c.t.d.fact 12 (f := .glo "over") rfl)
  f_over := c.t.d.def_ 12 (d := d_over) rfl
  g_is_whole := He.glo_ok X G (c.t.d.fact 13 (f := .glo "is_whole") rfl)
  f_is_whole := c.t.d.def_ 13 (d := d_is_whole) rfl
  g_is_fraction := He.glo_ok X G (c.t.d.fact 14 (f := .glo "is_fraction") rfl)
  f_is_fraction := c.t.d.def_ 14 (d := d_is_fraction) rfl
  g_is_number := He.glo_ok X G (c.t.d.fact 15 (f := .glo "is_number") rfl)
  f_is_number := c.t.d.def_ 15 (d := d_is_number) rfl
  g_need_whole := He.glo_ok X G (c.t.d.fact 16 (f := .glo "need_whole") rfl)
  f_need_whole := c.t.d.def_ 16 (d := d_need_whole) rfl
  g_need_bottom := He.glo_ok X G (c.t.d.fact 17 (f := .glo "need_bottom") rfl)
  f_need_bottom := c.t.d.def_ 17 (d := d_need_bottom) rfl
  g_need_fraction := He.glo_ok X G (c.t.d.fact 18 (f := .glo "need_fraction") rfl)
  f_need_fraction := c.t.d.def_ 18 (d := d_need_fraction) rfl
  g_need_number := He.glo_ok X G (c.t.d.fact 19 (f := .glo "need_number") rfl)
  f_need_number := c.t.d.def_ 19 (d := d_need_number) rfl
  g_fraction_of := He.glo_ok X G (c.t.d.fact 20 (f := .glo "fraction_of") rfl)
  f_fraction_of := c.t.d.def_ 20 (d := d_fraction_of) rfl
  g_number_of := He.glo_ok X G (c.t.d.fact 21 (f := .glo "number_of") rfl)
  f_number_of := c.t.d.def_ 21 (d := d_number_of) rfl
  g_compared := He.glo_ok X G (c.t.d.fact 22 (f := .glo "compared") rfl)
  f_compared := c.t.d.def_ 22 (d := d_compared) rfl
  g_number_sum := He.glo_ok X G (c.t.d.fact 23 (f := .glo "number_sum") rfl)
  f_number_sum := c.t.d.def_ 23 (d := d_number_sum) rfl
  g_number_less := He.glo_ok X G (c.t.d.fact 24 (f := .glo "number_less") rfl)
  f_number_less := c.t.d.def_ 24 (d := d_number_less) rfl
  g_number_product := He.glo_ok X G (c.t.d.fact 25 (f := .glo "number_product") rfl)
  f_number_product := c.t.d.def_ 25 (d := d_number_product) rfl
  g_number_over := He.glo_ok X G (c.t.d.fact 26 (f := .glo "number_over") rfl)
  f_number_over := c.t.d.def_ 26 (d := d_number_over) rfl
  g_mirrored := He.glo_ok X G (c.t.d.fact 27 (f := .glo "mirrored") rfl)
  f_mirrored := c.t.d.def_ 27 (d := d_mirrored) rfl
  g_size := He.glo_ok X G (c.t.d.fact 28 (f := .glo "size") rfl)
  f_size := c.t.d.def_ 28 (d := d_size) rfl
  g_lies := He.glo_ok X G (c.t.d.fact 29 (f := .glo "lies") rfl)
  f_lies := c.t.d.def_ 29 (d := d_lies) rfl
  g__law_pail := He.glo_ok X G (c.t.d.fact 30 (f := .glo "_law_pail") rfl)
  f__law_pail := c.t.d.def_ 30 (d := d__law_pail) rfl
  g__law_dip := He.glo_ok X G (c.t.d.fact 31 (f := .glo "_law_dip") rfl)
  f__law_dip := c.t.d.def_ 31 (d := d__law_dip) rfl
  g__law_one_of := He.glo_ok X G (c.t.d.fact 32 (f := .glo "_law_one_of") rfl)
  f__law_one_of := c.t.d.def_ 32 (d := d__law_one_of) rfl
  g__law_gcd := He.glo_ok X G (c.t.d.fact 33 (f := .glo "_law_gcd") rfl)
  f__law_gcd := c.t.d.def_ 33 (d := d__law_gcd) rfl
  g__law_cut := He.glo_ok X G (c.t.d.fact 34 (f := .glo "_law_cut") rfl)
  f__law_cut := c.t.d.def_ 34 (d := d__law_cut) rfl
  g__law_add := He.glo_ok X G (c.t.d.fact 35 (f := .glo "_law_add") rfl)
  f__law_add := c.t.d.def_ 35 (d := d__law_add) rfl
  g__law_less := He.glo_ok X G (c.t.d.fact 36 (f := .glo "_law_less") rfl)
  f__law_less := c.t.d.def_ 36 (d := d__law_less) rfl
  g__law_times := He.glo_ok X G (c.t.d.fact 37 (f := .glo "_law_times") rfl)
  f__law_times := c.t.d.def_ 37 (d := d__law_times) rfl
  g__law_over := He.glo_ok X G (c.t.d.fact 38 (f := .glo "_law_over") rfl)
  f__law_over := c.t.d.def_ 38 (d := d__law_over) rfl
  g__law_bent := He.glo_ok X G (c.t.d.fact 39 (f := .glo "_law_bent") rfl)
  f__law_bent := c.t.d.def_ 39 (d := d__law_bent) rfl
  g__law_fraction := He.glo_ok X G (c.t.d.fact 40 (f := .glo "_law_fraction") rfl)
  f__law_fraction := c.t.d.def_ 40 (d := d__law_fraction) rfl
  g__law_size := He.glo_ok X G (c.t.d.fact 41 (f := .glo "_law_size") rfl)
  f__law_size := c.t.d.def_ 41 (d := d__law_size) rfl
  g__law_told := He.glo_ok X G (c.t.d.fact 42 (f := .glo "_law_told") rfl)
  f__law_told := c.t.d.def_ 42 (d := d__law_told) rfl
  g__law_whole := He.glo_ok X G (c.t.d.fact 43 (f := .glo "_law_whole") rfl)
  f__law_whole := c.t.d.def_ 43 (d := d__law_whole) rfl
  g__law_below := He.glo_ok X G (c.t.d.fact 44 (f := .glo "_law_below") rfl)
  f__law_below := c.t.d.def_ 44 (d := d__law_below) rfl
  g__law_triple := He.glo_ok X G (c.t.d.fact 45 (f := .glo "_law_triple") rfl)
  f__law_triple := c.t.d.def_ 45 (d := d__law_triple) rfl
  g__law_where := He.glo_ok X G (c.t.d.fact 46 (f := .glo "_law_where") rfl)
  f__law_where := c.t.d.def_ 46 (d := d__law_where) rfl
  g__law_fractions := He.glo_ok X G (c.t.d.fact 47 (f := .glo "_law_fractions") rfl)
  f__law_fractions := c.t.d.def_ 47 (d := d__law_fractions) rfl
  g__law_right := He.glo_ok X G (c.t.d.fact 48 (f := .glo "_law_right") rfl)
  f__law_right := c.t.d.def_ 48 (d := d__law_right) rfl
  g_law := He.glo_ok X G (c.t.d.fact 49 (f := .glo "law") rfl)
  f_law := c.t.d.def_ 49 (d := d_law) rfl
  b_abs := He.free_ok X G (c.t.d.fact 50 (f := .free "abs") rfl)
  b_all := He.free_ok X G (c.t.d.fact 51 (f := .free "all") rfl)
  b_bool := He.free_ok X G (c.t.d.fact 52 (f := .free "bool") rfl)
  b_divmod := He.free_ok X G (c.t.d.fact 53 (f := .free "divmod") rfl)
  b_int := He.free_ok X G (c.t.d.fact 54 (f := .free "int") rfl)
  b_isinstance := He.free_ok X G (c.t.d.fact 55 (f := .free "isinstance") rfl)
  b_len := He.free_ok X G (c.t.d.fact 56 (f := .free "len") rfl)
  b_max := He.free_ok X G (c.t.d.fact 57 (f := .free "max") rfl)
  b_min := He.free_ok X G (c.t.d.fact 58 (f := .free "min") rfl)
  b_range := He.free_ok X G (c.t.d.fact 59 (f := .free "range") rfl)
  b_repr := He.free_ok X G (c.t.d.fact 60 (f := .free "repr") rfl)
  b_tuple := He.free_ok X G (c.t.d.fact 61 (f := .free "tuple") rfl)
  c_ONE := con_ok X G c.more 0 (q := ("ONE", fr 1)) rfl
  c_NOUGHT := con_ok X G c.more 1 (q := ("NOUGHT", nm ⟨0, 0⟩)) rfl
  i_gcd := imp_ok X G c.more 0 (q := ("gcd", "math.gcd")) rfl

/-! ### what the program's arithmetic comes to -/
theorem gcd_ne (n m : Int) (h : m ≠ 0) : ((Nat.gcd n.natAbs m.natAbs : Nat) : Int) ≠ 0 := by
  have h1 : 0 < Nat.gcd n.natAbs m.natAbs := Nat.gcd_pos_of_pos_right _ (Int.natAbs_pos.mpr h)
  omega
theorem gcd_bd {k : Nat} (n m : Int) (h : m ≠ 0) (hb : Bd k m) : Bd k ((Nat.gcd n.natAbs m.natAbs : Nat) : Int) := by
  refine Bd.le ?_ hb
  rw [Int.natAbs_natCast]
  exact Nat.gcd_le_right _ (Int.natAbs_pos.mpr h)
theorem red_end_neg (n m : Int) (h : m < 0) : PyData.tuple [.int (n.fdiv (-((Nat.gcd n.natAbs m.natAbs : Nat) : Int))), .int (m.fdiv (-((Nat.gcd n.natAbs m.natAbs : Nat) : Int)))] = fr (qd n m) := by
  have z := red_neg n m h
  rw [z.1, z.2]
theorem red_end_pos (n m : Int) (h0 : m ≠ 0) (h : ¬ m < 0) : PyData.tuple [.int (n.fdiv ((Nat.gcd n.natAbs m.natAbs : Nat) : Int)), .int (m.fdiv ((Nat.gcd n.natAbs m.natAbs : Nat) : Int))] = fr (qd n m) := by
  have z := red_pos n m (by omega)
  rw [z.1, z.2]
def ordI (x y : Rat) : Int := if x = y then 0 else if x < y then -1 else 1
theorem q_num (q : Rat) : (q.num : Rat) = q * ((q.den : Int) : Rat) := by
  have h := q_over q
  have h1 := d_ne q
  generalize ((q.den : Int) : Rat) = a at *
  generalize (q.num : Rat) = b at *
  grind
theorem q_eq_iff (x y : Rat) : x.num * y.den = y.num * x.den ↔ x = y := by
  constructor
  · intro h
    have h1 : ((x.num * (y.den : Int) : Int) : Rat) = ((y.num * (x.den : Int) : Int) : Rat) := by rw [h]
    rw [Rat.intCast_mul, Rat.intCast_mul, q_num x, q_num y] at h1
    have h2 := d_ne x
    have h3 := d_ne y
    generalize ((x.den : Int) : Rat) = a at *
    generalize ((y.den : Int) : Rat) = b at *
    grind
  · intro h
    rw [h]
theorem ord_eq (x y : Rat) (h : x.num * y.den = y.num * x.den) : ordI x y = 0 := if_pos ((q_eq_iff x y).mp h)
theorem ord_lt (x y : Rat) (h : ¬ x.num * y.den = y.num * x.den) (k : x.num * y.den < y.num * x.den) : ordI x y = -1 := by
  unfold ordI
  rw [if_neg fun z => h ((q_eq_iff x y).mpr z), if_pos ((Rat.lt_iff x y).mpr k)]
theorem ord_gt (x y : Rat) (h : ¬ x.num * y.den = y.num * x.den) (k : ¬ x.num * y.den < y.num * x.den) : ordI x y = 1 := by
  unfold ordI
  rw [if_neg fun z => h ((q_eq_iff x y).mpr z), if_neg fun z => k ((Rat.lt_iff x y).mp z)]
theorem r_mul {a b p q : Int} : qd (a * b) (p * q) = qd a p * qd b q := (Rat.divInt_mul_divInt a b).symm
theorem c_mul (x y : Cn) : (⟨qd (x.re.num * x.im.den * (y.re.num * y.im.den) - x.im.num * x.re.den * (y.im.num * y.re.den)) (x.re.den * x.im.den * y.re.den * y.im.den),
    qd (x.re.num * x.im.den * (y.im.num * y.re.den) + x.im.num * x.re.den * (y.re.num * y.im.den)) (x.re.den * x.im.den * y.re.den * y.im.den)⟩ : Cn) = x.mul y := by
  have h1 := d_ne x.re
  have h2 := d_ne x.im
  have h3 := d_ne y.re
  have h4 := d_ne y.im
  unfold Cn.mul
  rw [qd_div, qd_div]
  simp only [Rat.intCast_mul, Rat.intCast_add, Rat.intCast_sub, q_num]
  generalize ((x.re.den : Int) : Rat) = a at *
  generalize ((x.im.den : Int) : Rat) = b at *
  generalize ((y.re.den : Int) : Rat) = c at *
  generalize ((y.im.den : Int) : Rat) = d at *
  generalize x.re = e at *
  generalize x.im = f at *
  generalize y.re = g at *
  generalize y.im = h at *
  congr 1
  · grind
  · grind
theorem c_nsq (x : Cn) : qd (x.re.num * x.im.den * (x.re.num * x.im.den) + x.im.num * x.re.den * (x.im.num * x.re.den)) (x.re.den * x.re.den * x.im.den * x.im.den) = x.nsq := by
  have h1 := d_ne x.re
  have h2 := d_ne x.im
  unfold Cn.nsq
  rw [qd_div]
  simp only [Rat.intCast_mul, Rat.intCast_add, q_num]
  generalize ((x.re.den : Int) : Rat) = a at *
  generalize ((x.im.den : Int) : Rat) = b at *
  generalize x.re = e at *
  generalize x.im = f at *
  grind
theorem nsq_nonneg (x : Cn) : 0 ≤ x.nsq := by
  unfold Cn.nsq
  have h1 : 0 ≤ x.re * x.re := by
    rcases Rat.le_total (a := 0) (b := x.re) with h | h
    · exact Rat.mul_nonneg h h
    · have := Rat.mul_nonneg (a := -x.re) (b := -x.re) (by grind) (by grind)
      grind
  have h2 : 0 ≤ x.im * x.im := by
    rcases Rat.le_total (a := 0) (b := x.im) with h | h
    · exact Rat.mul_nonneg h h
    · have := Rat.mul_nonneg (a := -x.im) (b := -x.im) (by grind) (by grind)
      grind
  grind
theorem inv_parts {q : Rat} (h : 0 < q) : (q⁻¹).num = (q.den : Int) ∧ ((q⁻¹).den : Int) = q.num := by
  have hn : 0 < q.num := by
    have z := (Rat.lt_iff 0 q).mp h
    simpa using z
  have e : q⁻¹ = qd (q.den : Int) q.num := by
    rw [qd_div, q_num]
    have h1 := d_ne q
    generalize ((q.den : Int) : Rat) = a at *
    grind
  rw [e]
  have hc : q.num.gcd (q.den : Int) = 1 := q.reduced
  constructor
  · rw [Rat.num_divInt, hc, Int.sign_eq_one_of_pos hn]
    simp
  · rw [Rat.den_divInt, if_neg (by omega), hc]
    simp
    omega
theorem over_eq (y : Cn) (h : y.nsq ≠ 0) : PyData.tuple [.int (y.nsq.den : Int), .int y.nsq.num] = fr (y.nsq⁻¹) := by
  have hp : 0 < y.nsq := by
    have := nsq_nonneg y
    grind
  have z := inv_parts hp
  show _ = PyData.tuple [.int (y.nsq⁻¹).num, .int ((y.nsq⁻¹).den : Int)]
  rw [z.1, z.2]
theorem over_rs {y : Cn} (hy : Cs 500 y) (h : y.nsq ≠ 0) : Rs 3000 (y.nsq⁻¹) := by
  have hp : 0 < y.nsq := by
    have := nsq_nonneg y
    grind
  have z := inv_parts hp
  have hs := (hy.nsq).mono (show _ ≤ 3000 by decide)
  exact ⟨by rw [z.1]; exact hs.2, by rw [z.2]; exact hs.1⟩
theorem c_div (x y : Cn) (h : y.nsq ≠ 0) : (x.mul y.conj).scale (y.nsq⁻¹) = x.div y := by
  unfold Cn.scale Cn.mul Cn.conj Cn.div
  dsimp only
  congr 1
  · grind
  · grind
def isW (d : PyData) : Bool := is_int d && !is_bool d

/-! ### what is a fraction, a number -/
def isFr : PyData → Bool
  | .tuple [.int n, .int m] => decide (0 < m) && decide (((Nat.gcd n.natAbs m.natAbs : Nat) : Int) = 1)
  | _ => false
def isNm : PyData → Bool
  | .tuple [a, b] => isFr a && isFr b
  | _ => false
theorem tuple_of (x : PyData) (h : (!is_tuple x) = false) : ∃ ds, x = .tuple ds := by
  cases x <;> first | exact ⟨_, rfl⟩ | cases h
theorem isFr_no (x : PyData) (h : (!is_tuple x) = true) : isFr x = false := by
  cases x <;> first | rfl | cases h
theorem isNm_no (x : PyData) (h : is_tuple x = false) : isNm x = false := by
  cases x <;> first | rfl | cases h
theorem two_of (ds : List PyData) (h : (!decide ((ds.length : Int) = 2)) = false) : ∃ a b, ds = [a, b] := by
  have h1 : (ds.length : Int) = 2 := by simpa using h
  match ds, h1 with
  | [a, b], _ => exact ⟨a, b, rfl⟩
  | [], h1 => simp at h1
  | [_], h1 => simp at h1
  | _ :: _ :: _ :: _, h1 => simp at h1; omega
theorem isFr_len (ds : List PyData) (h : (!decide ((ds.length : Int) = 2)) = true) : isFr (.tuple ds) = false := by
  match ds, h with
  | [], _ => rfl
  | [a], _ => cases a <;> rfl
  | [a, b], h => exact absurd h (by simp)
  | a :: b :: c :: r, _ => cases a <;> cases b <;> rfl
theorem isNm_len (ds : List PyData) (h : decide ((ds.length : Int) = 2) = false) : isNm (.tuple ds) = false := by
  match ds, h with
  | [], _ => rfl
  | [_], _ => rfl
  | [a, b], h => exact absurd h (by simp)
  | a :: b :: c :: r, _ => rfl
theorem int_of (x : PyData) (h : isW x = true) : ∃ i, x = .int i := by
  cases x <;> first | exact ⟨_, rfl⟩ | cases h
theorem isFr_fst (a b : PyData) (h : isW a = false) : isFr (.tuple [a, b]) = false := by
  cases a <;> first | rfl | cases h
theorem isFr_snd (a b : PyData) (h : isW b = false) : isFr (.tuple [a, b]) = false := by
  cases b <;> first | (cases a <;> rfl) | cases h
theorem isFr_neg (n m : Int) (h : decide (0 < m) = false) : isFr (.tuple [.int n, .int m]) = false := by
  show (decide (0 < m) && _) = false
  rw [h] <;> rfl
theorem isFr_yes (n m : Int) (h : decide (0 < m) = true) : isFr (.tuple [.int n, .int m]) = decide (((Nat.gcd n.natAbs m.natAbs : Nat) : Int) = 1) := by
  show (decide (0 < m) && _) = _
  rw [h, Bool.true_and]
theorem isNm_fst (a b : PyData) (h : isFr a = false) : isNm (.tuple [a, b]) = false := by
  show (isFr a && isFr b) = false
  rw [h] <;> rfl
theorem isNm_yes (a b : PyData) (h : isFr a = true) : isNm (.tuple [a, b]) = isFr b := by
  show (isFr a && isFr b) = _
  rw [h, Bool.true_and]
theorem isW_int (i : Int) : isW (.int i) = true := rfl
theorem isFr_fr (q : Rat) : isFr (fr q) = true := by
  show (decide (0 < (q.den : Int)) && decide (((Nat.gcd q.num.natAbs ((q.den : Int)).natAbs : Nat) : Int) = 1)) = true
  have h1 := den_pos q
  have h2 : Nat.gcd q.num.natAbs q.den = 1 := q.reduced
  rw [Int.natAbs_natCast, h2, decide_eq_true h1] <;> rfl
theorem isNm_nm (z : Cn) : isNm (nm z) = true := by
  show (isFr (fr z.re) && isFr (fr z.im)) = true
  rw [isFr_fr, isFr_fr] <;> rfl
theorem nsq_zero (y : Cn) (h1 : y.re = 0) (h2 : y.im = 0) : y.nsq = 0 := by
  unfold Cn.nsq
  rw [h1, h2]
  grind
theorem nought_nsq (y : Cn) (h : PyData.eqv (nm y) (nm ⟨0, 0⟩) = true) : y.nsq = 0 := by
  have h1 : ((y.re.num == (0 : Rat).num && (((y.re.den : Nat) : Int) == (((0 : Rat).den : Nat) : Int) && true)) && ((y.im.num == (0 : Rat).num && (((y.im.den : Nat) : Int) == (((0 : Rat).den : Nat) : Int) && true)) && true)) = true := h
  simp only [Bool.and_eq_true, beq_iff_eq] at h1
  exact nsq_zero y (Rat.num_eq_zero.mp h1.1.1) (Rat.num_eq_zero.mp h1.2.1.1)
@[irreducible] def whereS (q : Rat) : Str := if q < 1 then "disc" else if q = 1 then "rim" else "beyond"
theorem ord_one {q : Rat} : (ordI q 1 = 0 ↔ q = 1) ∧ (ordI q 1 < 0 ↔ q < 1) := by
  unfold ordI
  by_cases h : q = 1
  · rw [if_pos h]
    constructor
    · exact ⟨fun _ => h, fun _ => rfl⟩
    · constructor
      · intro z
        omega
      · intro z
        grind
  · rw [if_neg h]
    by_cases k : q < 1
    · rw [if_pos k]
      exact ⟨⟨fun z => by omega, fun z => absurd z h⟩, ⟨fun _ => k, fun _ => by omega⟩⟩
    · rw [if_neg k]
      exact ⟨⟨fun z => by omega, fun z => absurd z h⟩, ⟨fun z => by omega, fun z => absurd z k⟩⟩
theorem where_rim (q : Rat) (h : ordI q 1 = 0) : whereS q = "rim" := by
  have z := ord_one.1.mp h
  unfold whereS
  rw [if_neg (by rw [z]; exact Rat.lt_irrefl), if_pos z]
theorem where_disc (q : Rat) (h : ¬ ordI q 1 = 0) (k : ordI q 1 < 0) : whereS q = "disc" := by
  unfold whereS
  rw [if_pos (ord_one.2.mp k)]
theorem where_beyond (q : Rat) (h : ¬ ordI q 1 = 0) (k : ¬ ordI q 1 < 0) : whereS q = "beyond" := by
  unfold whereS
  rw [if_neg fun z => k (ord_one.2.mpr z), if_neg fun z => h (ord_one.1.mpr z)]
theorem lt_one (q : Rat) : q < 1 ↔ q.num < (q.den : Int) := by
  rw [Rat.lt_iff]
  simp
theorem eq_one (q : Rat) : q = 1 ↔ q.num = (q.den : Int) := by
  rw [← q_eq_iff]
  simp
theorem where_disc' (q : Rat) (h : q.num < (q.den : Int)) : whereS q = "disc" := by
  unfold whereS
  rw [if_pos ((lt_one q).mpr h)]
theorem where_rim' (q : Rat) (h : q.num = (q.den : Int)) : whereS q = "rim" := by
  have z := (eq_one q).mpr h
  unfold whereS
  rw [if_neg (by rw [z]; exact Rat.lt_irrefl), if_pos z]
theorem where_beyond' (q : Rat) (h : ¬ q.num < (q.den : Int)) (k : ¬ q.num = (q.den : Int)) : whereS q = "beyond" := by
  unfold whereS
  rw [if_neg fun z => h ((lt_one q).mp z), if_neg fun z => k ((eq_one q).mp z)]
theorem rs_one : Rs 128 1 := ⟨by unfold Bd; decide, by unfold Bd; decide⟩

/-! ### the laws' own triples -/
@[reducible] def tri (a b c : Int) : PyData := .tuple [.int a, .int b, .int c]
def Tr (n : Nat) (z : Cn) (d : PyData) : Prop := ∃ a b c : Int, d = tri a b c ∧ 0 < c ∧ Bd n a ∧ Bd n b ∧ Bd n c ∧ z = ⟨qd a c, qd b c⟩
theorem Tr.mono {n m : Nat} {z : Cn} {d : PyData} (h : Tr n z d) (k : n ≤ m) : Tr m z d := by
  obtain ⟨a, b, c, h1, h2, h3, h4, h5, h6⟩ := h
  exact ⟨a, b, c, h1, h2, h3.mono k, h4.mono k, h5.mono k, h6⟩
theorem Tr.cs {n : Nat} {z : Cn} {d : PyData} (h : Tr n z d) : Cs n z := by
  obtain ⟨a, b, c, h1, h2, h3, h4, h5, rfl⟩ := h
  exact ⟨rs_of h3 h5 (by omega), rs_of h4 h5 (by omega)⟩
theorem cast_mul_ne {a b : Int} (h : a * b ≠ 0) : (a : Rat) ≠ 0 ∧ (b : Rat) ≠ 0 :=
  ⟨c_ne fun z => h (by rw [z, Int.zero_mul]), c_ne fun z => h (by rw [z, Int.mul_zero])⟩
theorem qd_cancel (a c g : Int) (h : c * g ≠ 0) : qd (a * g) (c * g) = qd a c := by
  obtain ⟨h1, h2⟩ := cast_mul_ne h
  rw [qd_div, qd_div, Rat.intCast_mul, Rat.intCast_mul]
  grind
theorem cut_core (n : Nat) (a b c g : Int) (hg : g ≠ 0) (ga : g ∣ a) (gb : g ∣ b) (gc : g ∣ c) (h0 : c ≠ 0) (hs : 0 < c.fdiv g) (ha : Bd n a) (hb : Bd n b) (hc : Bd n c) :
    Tr n ⟨qd a c, qd b c⟩ (.tuple [.int (a.fdiv g), .int (b.fdiv g), .int (c.fdiv g)]) := by
  obtain ⟨x, rfl⟩ := ga
  obtain ⟨y, rfl⟩ := gb
  obtain ⟨z, rfl⟩ := gc
  have e : ∀ t : Int, (g * t).fdiv g = t := fun t => Int.mul_fdiv_cancel_left _ hg
  rw [e, e, e]
  rw [e] at hs
  have le : ∀ t : Int, Bd n (g * t) → Bd n t := fun t h => by
    refine Bd.le ?_ h
    rw [Int.natAbs_mul]
    exact Nat.le_mul_of_pos_left _ (Int.natAbs_pos.mpr hg)
  refine ⟨x, y, z, rfl, hs, le x ha, le y hb, le z hc, ?_⟩
  rw [Int.mul_comm g x, Int.mul_comm g y, Int.mul_comm g z]
  rw [qd_cancel x z g (by rw [Int.mul_comm]; exact h0), qd_cancel y z g (by rw [Int.mul_comm]; exact h0)]
theorem gcd3 (a b c : Int) : ((Nat.gcd (((Nat.gcd a.natAbs b.natAbs : Nat) : Int)).natAbs c.natAbs : Nat) : Int) ∣ a ∧ ((Nat.gcd (((Nat.gcd a.natAbs b.natAbs : Nat) : Int)).natAbs c.natAbs : Nat) : Int) ∣ b ∧ ((Nat.gcd (((Nat.gcd a.natAbs b.natAbs : Nat) : Int)).natAbs c.natAbs : Nat) : Int) ∣ c := by
  rw [Int.natAbs_natCast]
  refine ⟨Int.ofNat_dvd_left.mpr ?_, Int.ofNat_dvd_left.mpr ?_, Int.ofNat_dvd_left.mpr ?_⟩
  · exact Nat.dvd_trans (Nat.gcd_dvd_left _ _) (Nat.gcd_dvd_left _ _)
  · exact Nat.dvd_trans (Nat.gcd_dvd_left _ _) (Nat.gcd_dvd_right _ _)
  · exact Nat.gcd_dvd_right _ _
theorem cut_pos (n : Nat) (a b c : Int) (h0 : c ≠ 0) (h : ¬ c < 0) (ha : Bd n a) (hb : Bd n b) (hc : Bd n c) :
    Tr n ⟨qd a c, qd b c⟩ (.tuple [.int (a.fdiv ((Nat.gcd (((Nat.gcd a.natAbs b.natAbs : Nat) : Int)).natAbs c.natAbs : Nat) : Int)), .int (b.fdiv ((Nat.gcd (((Nat.gcd a.natAbs b.natAbs : Nat) : Int)).natAbs c.natAbs : Nat) : Int)), .int (c.fdiv ((Nat.gcd (((Nat.gcd a.natAbs b.natAbs : Nat) : Int)).natAbs c.natAbs : Nat) : Int))]) := by
  obtain ⟨h1, h2, h3⟩ := gcd3 a b c
  have hg := gcd_ne (((Nat.gcd a.natAbs b.natAbs : Nat) : Int)) c h0
  have hp : 0 < ((Nat.gcd (((Nat.gcd a.natAbs b.natAbs : Nat) : Int)).natAbs c.natAbs : Nat) : Int) := by omega
  refine cut_core n a b c _ hg h1 h2 h3 h0 ?_ ha hb hc
  rw [Int.fdiv_eq_ediv_of_nonneg _ (by omega)]
  exact Int.ediv_pos_of_pos_of_dvd (by omega) (by omega) h3
theorem cut_neg (n : Nat) (a b c : Int) (h0 : c ≠ 0) (h : c < 0) (ha : Bd n a) (hb : Bd n b) (hc : Bd n c) :
    Tr n ⟨qd a c, qd b c⟩ (.tuple [.int (a.fdiv (0 - ((Nat.gcd (((Nat.gcd a.natAbs b.natAbs : Nat) : Int)).natAbs c.natAbs : Nat) : Int))), .int (b.fdiv (0 - ((Nat.gcd (((Nat.gcd a.natAbs b.natAbs : Nat) : Int)).natAbs c.natAbs : Nat) : Int))), .int (c.fdiv (0 - ((Nat.gcd (((Nat.gcd a.natAbs b.natAbs : Nat) : Int)).natAbs c.natAbs : Nat) : Int)))]) := by
  obtain ⟨h1, h2, h3⟩ := gcd3 a b c
  have hg := gcd_ne (((Nat.gcd a.natAbs b.natAbs : Nat) : Int)) c h0
  have hg2 : 0 ≤ ((Nat.gcd (((Nat.gcd a.natAbs b.natAbs : Nat) : Int)).natAbs c.natAbs : Nat) : Int) := Int.natCast_nonneg _
  generalize ((Nat.gcd (((Nat.gcd a.natAbs b.natAbs : Nat) : Int)).natAbs c.natAbs : Nat) : Int) = g at *
  have hn : ∀ t : Int, g ∣ t → (0 - g) ∣ t := fun t k => by
    rw [Int.zero_sub]
    exact Int.neg_dvd.mpr k
  refine cut_core n a b c (0 - g) (by omega) (hn a h1) (hn b h2) (hn c h3) h0 ?_ ha hb hc
  obtain ⟨z, rfl⟩ := h3
  have e : (g * z).fdiv (0 - g) = -z := by
    have : g * z = (0 - g) * (-z) := by rw [Int.zero_sub, Int.neg_mul_neg]
    rw [this, Int.mul_fdiv_cancel_left _ (by omega)]
  rw [e]
  have hg3 : 0 < g := by omega
  rcases Int.lt_or_le z 0 with q | q
  · omega
  · exact absurd (Int.mul_nonneg hg2 q) (by omega)
theorem cut_ints {ns : List Int} {lo hi : Option Int} {k : Nat} {x : PyData} (h : (cutD (ns.map PyData.int) lo hi)[k]? = some x) : ∃ n : Int, x = .int n := by
  have h1 := List.mem_of_getElem? h
  have h2 := List.mem_of_mem_drop (List.mem_of_mem_take h1)
  obtain ⟨n, _, rfl⟩ := List.mem_map.mp h2
  exact ⟨n, rfl⟩
theorem bd30 {r : Int} (h0 : 0 ≤ r) (h1 : r < 1073741824) : Bd 30 r := by
  show r.natAbs < 2 ^ 30
  omega
theorem bd_zero {n : Nat} : Bd n 0 := Nat.pow_pos (by decide)
theorem top_of {d : PyData} (h : d ∈ [PyData.int 3, .int 10, .int 10, .int 61, .int 1000, .int (10 ^ (6 : Int).toNat)]) : ∃ i : Int, d = .int i ∧ 0 < i ∧ i ≤ 1000000 := by
  simp only [List.mem_cons, List.not_mem_nil, or_false] at h
  rcases h with rfl | rfl | rfl | rfl | rfl | rfl <;> exact ⟨_, rfl, by decide, by decide⟩
theorem whole_bd1 {r s : Int} (h1 : 0 ≤ r) (h2 : r < 1073741824) (h3 : 0 ≤ s) (h4 : s < 2) : Bd 150 (r * (1 - 2 * s)) := by
  have h : s = 0 ∨ s = 1 := by omega
  show (r * (1 - 2 * s)).natAbs < 2 ^ 150
  rcases h with rfl | rfl
  · refine Nat.lt_of_lt_of_le (m := 2 ^ 30) ?_ (by decide)
    omega
  · refine Nat.lt_of_lt_of_le (m := 2 ^ 30) ?_ (by decide)
    omega
theorem whole_bd2 {r s t : Int} (h1 : 0 ≤ r) (h2 : r < 1073741824) (h3 : 0 ≤ s) (h4 : s < 2) (h5 : 0 ≤ t) (h6 : t < 1000) : Bd 150 (r * (1 - 2 * s) * 10 ^ (33 : Int).toNat + t) := by
  have h : s = 0 ∨ s = 1 := by omega
  show (r * (1 - 2 * s) * 10 ^ 33 + t).natAbs < 2 ^ 150
  rcases h with rfl | rfl
  · refine Nat.lt_of_lt_of_le (m := 2000000000 * 10 ^ 33) ?_ (by decide)
    omega
  · refine Nat.lt_of_lt_of_le (m := 2000000000 * 10 ^ 33) ?_ (by decide)
    omega
theorem abs_ne {v : Int} (h : v ≠ 0) : (if v < 0 then -v else v) ≠ 0 := by split <;> omega
theorem abs_bd {n : Nat} {v : Int} (h : Bd n v) : Bd n (if v < 0 then -v else v) := by
  split
  · exact h.neg
  · exact h
theorem ne_same {a b : Str} (h : a = b) (hb : (!decide (a = b)) = true) : False := by
  rw [decide_eq_true h] at hb
  cases hb
theorem fr_int (k : Int) : fr (qd k 1) = .tuple [.int k, .int 1] := by
  have e : qd k 1 = (k : Rat) := by
    rw [qd_div]
    grind
  rw [e]
  rfl
theorem rs_int {k : Int} (h : Bd 150 k) : Rs 150 (qd k 1) := rs_of h (Bd.lit (by decide)) (by decide)
theorem cs_of {a b c : Int} (ha : Bd 150 a) (hb : Bd 150 b) (hc : Bd 150 c) (h0 : c ≠ 0) : Cs 150 ⟨qd a c, qd b c⟩ := ⟨rs_of ha hc h0, rs_of hb hc h0⟩
theorem cs_int {a b : Int} (ha : Bd 150 a) (hb : Bd 150 b) : Cs 150 ⟨qd a 1, qd b 1⟩ := ⟨rs_int ha, rs_int hb⟩
theorem cs_int0 {a : Int} (ha : Bd 150 a) : Cs 150 ⟨qd a 1, qd 0 1⟩ := ⟨rs_int ha, rs_int bd_zero⟩
theorem nm_int (a : Int) : nm ⟨qd a 1, qd 0 1⟩ = .tuple [.tuple [.int a, .int 1], .tuple [.int 0, .int 1]] := by
  show PyData.tuple [fr (qd a 1), fr (qd 0 1)] = _
  rw [fr_int, fr_int]
theorem tr_one {a b : Int} (ha : Bd 150 a) (hb : Bd 150 b) : Tr 1800 ⟨qd a 1, qd b 1⟩ (.tuple [.int a, .int b, .int 1]) := ⟨a, b, 1, rfl, by decide, ha.mono (by decide), hb.mono (by decide), Bd.lit (Nat.lt_of_lt_of_le (show _ < 2 ^ 1 by decide) (Nat.pow_le_pow_right (by decide) (by decide))), rfl⟩
theorem tr_lit {a b : Int} (ha : Bd 1 a) (hb : Bd 1 b) : Tr 300 ⟨qd a 1, qd b 1⟩ (.tuple [.int a, .int b, .int 1]) := ⟨a, b, 1, rfl, by decide, ha.mono (by decide), hb.mono (by decide), Bd.lit (Nat.lt_of_lt_of_le (show _ < 2 ^ 1 by decide) (Nat.pow_le_pow_right (by decide) (by decide))), rfl⟩
theorem pick4 {X B Z : PyData} {x b : Cn} (hx : Tr 150 x X) (hb : Tr 300 b B) (h : Z ∈ [X, B, .tuple [.int 0, .int 0, .int 1], .tuple [.int 1, .int 0, .int 1]]) : ∃ y, Tr 300 y Z := by
  simp only [List.mem_cons, List.not_mem_nil, or_false] at h
  rcases h with rfl | rfl | rfl | rfl
  · exact ⟨_, hx.mono (by decide)⟩
  · exact ⟨_, hb⟩
  · exact ⟨_, tr_lit (by unfold Bd; decide) (by unfold Bd; decide)⟩
  · exact ⟨_, tr_lit (by unfold Bd; decide) (by unfold Bd; decide)⟩
theorem abs_ex {v : Int} (hv : Bd 150 v) (h0 : v ≠ 0) : ∃ j, (if v < 0 then -v else v) = j ∧ 0 < j ∧ Bd 150 j := ⟨_, rfl, by split <;> omega, abs_bd hv⟩
theorem ord_bd {x y : Rat} : Bd 150 (ordI x y) := by
  unfold ordI Bd
  split
  · decide
  · split <;> decide
theorem ord_swap (x y : Rat) : ordI y x = 0 - ordI x y := by
  unfold ordI
  by_cases h : x = y
  · rw [if_pos h, if_pos h.symm]
    rfl
  · rw [if_neg h, if_neg fun z => h z.symm]
    by_cases k : x < y
    · rw [if_pos k, if_neg (by grind)]
      rfl
    · rw [if_neg k, if_pos (by grind)]
      rfl
theorem ord_s1 {x y : Rat} (h : x.num * y.den - y.num * x.den < 0) : ordI x y = -1 := ord_lt x y (by omega) (by omega)
theorem ord_s2 {x y : Rat} (h : 0 < x.num * y.den - y.num * x.den) : ordI x y = 1 := ord_gt x y (by omega) (by omega)
theorem ord_s3 {x y : Rat} (h : ¬ x.num * y.den - y.num * x.den < 0) (k : ¬ 0 < x.num * y.den - y.num * x.den) : ordI x y = 0 := ord_eq x y (by omega)
theorem isFr01 : isFr (.tuple [.int 0, .int 1]) = true := by decide +kernel
theorem isFr02 : isFr (.tuple [.int 0, .int 2]) = false := by decide +kernel
theorem isFr_n0 (n : Int) : isFr (.tuple [.int n, .int 0]) = false := rfl
theorem isFr_bt (d : PyData) (b : Bool) : isFr (.tuple [.bool b, d]) = false := by cases d <;> rfl
theorem isFr_tb (d : PyData) (b : Bool) : isFr (.tuple [d, .bool b]) = false := by cases d <;> rfl
theorem isFr_li (l : List PyData) : isFr (.list l) = false := rfl
theorem isFr_1 (d : PyData) : isFr (.tuple [d]) = false := by cases d <;> rfl
theorem isFr_3 (a b c : PyData) (r : List PyData) : isFr (.tuple (a :: b :: c :: r)) = false := by cases a <;> cases b <;> rfl
theorem isFr_i (i : Int) : isFr (.int i) = false := rfl
theorem isFr_b (i : Bool) : isFr (.bool i) = false := rfl
theorem isFr_s (i : Str) : isFr (.str i) = false := rfl
theorem isFr_n : isFr .none = false := rfl
theorem len_where (q : Rat) : (whereS q).length ≤ 6 := by
  unfold whereS
  split
  · decide
  · split <;> decide
theorem cw_where {q : Rat} : cnt (.str (whereS q)) ≤ 7 := by
  simp only [cnt]
  have := len_where q
  omega
theorem cw_cons {x : PyData} {xs : List PyData} {n m : Nat} (h : cnt x ≤ n) (k : cntAll xs ≤ m) : cntAll (x :: xs) ≤ n + m := by
  simp only [cntAll]
  omega
theorem cw_nil : cntAll [] ≤ 0 := by simp only [cntAll]; exact Nat.le_refl _
theorem cw_list {xs : List PyData} {n : Nat} (h : cntAll xs ≤ n) : cnt (.list xs) ≤ n + 1 := by
  simp only [cnt]
  omega
theorem cw_fin {d : PyData} {n : Nat} (h : cnt d ≤ n) (k : n ≤ 8000) : cnt d ≤ 8000 := Nat.le_trans h k
theorem dq_nil : PyData.depthAll [] ≤ 0 := by simp only [PyData.depthAll]; exact Nat.le_refl _
theorem dq_cons {x : PyData} {xs : List PyData} {n m : Nat} (h : PyData.depth x ≤ n) (k : PyData.depthAll xs ≤ m) : PyData.depthAll (x :: xs) ≤ max n m := by
  simp only [PyData.depthAll]
  omega
theorem dq_list {xs : List PyData} {n : Nat} (h : PyData.depthAll xs ≤ n) : PyData.depth (.list xs) ≤ n + 1 := by
  simp only [PyData.depth]
  omega
theorem dq_fin {d : PyData} {n : Nat} (h : PyData.depth d ≤ n) (k : n ≤ 60) : PyData.depth d ≤ 60 := Nat.le_trans h k
theorem shw_bool {b : Bool} : Shw (.bool b) := by simp only [Shw]
theorem shw_none : Shw .none := by simp only [Shw]
theorem shw_int {i : Int} (h : Bd 1900 i) : Shw (.int i) := by
  simp only [Shw]
  exact h
theorem shw_nil : ShwAll [] := by simp only [ShwAll]
theorem shw_cons {x : PyData} {xs : List PyData} (h : Shw x) (k : ShwAll xs) : ShwAll (x :: xs) := by
  simp only [ShwAll]
  exact ⟨h, k⟩
theorem shw_l {xs : List PyData} (h : ShwAll xs) : Shw (.list xs) := by
  simp only [Shw]
  exact h
theorem shw_t {xs : List PyData} (h : ShwAll xs) : Shw (.tuple xs) := by
  simp only [Shw]
  exact h
theorem shw_fr {q : Rat} (h : Rs 1900 q) : Shw (fr q) := shw_t (shw_cons (shw_int h.num) (shw_cons (shw_int h.den) shw_nil))
theorem shw_nm {z : Cn} (h : Cs 1900 z) : Shw (nm z) := shw_t (shw_cons (shw_fr h.re) (shw_cons (shw_fr h.im) shw_nil))
theorem shw_where {q : Rat} : Shw (.str (whereS q)) := by
  simp only [Shw]
  unfold whereS
  split
  · decide
  · split <;> decide
theorem swap3 (x y : Cn) : PyData.shown (.list [nm (y.add x), nm (y.sub x), nm (y.mul x)]) = PyData.shown (.list [nm (x.add y), nm (y.sub x), nm (x.mul y)]) := by
  have h1 : y.add x = x.add y := by
    unfold Cn.add
    congr 1 <;> grind
  have h2 : y.mul x = x.mul y := by
    unfold Cn.mul
    congr 1 <;> grind
  rw [h1, h2]
theorem sub_ne {i : Int} (h : i ≠ 0) : 0 - i ≠ 0 := by omega
theorem sub_bd {i : Int} (h : Bd 7000 i) : Bd 7001 (0 - i) := by
  rw [Int.zero_sub]
  exact h.neg.mono (by decide)
theorem red_end_neg' (n m : Int) (h : m < 0) : PyData.tuple [.int (n.fdiv (0 - ((Nat.gcd n.natAbs m.natAbs : Nat) : Int))), .int (m.fdiv (0 - ((Nat.gcd n.natAbs m.natAbs : Nat) : Int)))] = fr (qd n m) := by
  rw [Int.zero_sub]
  exact red_end_neg n m h
theorem gcd_start (a b : Int) : (((if a < 0 then -a else a) : Int) = (a.natAbs : Int)) ∧ (((if b < 0 then -b else b) : Int) = (b.natAbs : Int)) := by
  constructor <;> split <;> omega
section
variable (a b c d e f : Int) (h0 : c ≠ 0) (k0 : f ≠ 0)
include h0 k0
theorem tr_add : (⟨qd (a * f + d * c) (c * f), qd (b * f + e * c) (c * f)⟩ : Cn) = Cn.add ⟨qd a c, qd b c⟩ ⟨qd d f, qd e f⟩ := by
  have h1 := c_ne h0
  have h2 := c_ne k0
  unfold Cn.add
  simp only [qd_div, Rat.intCast_mul, Rat.intCast_add]
  congr 1
  · grind
  · grind
theorem tr_sub : (⟨qd (a * f - d * c) (c * f), qd (b * f - e * c) (c * f)⟩ : Cn) = Cn.sub ⟨qd a c, qd b c⟩ ⟨qd d f, qd e f⟩ := by
  have h1 := c_ne h0
  have h2 := c_ne k0
  unfold Cn.sub
  simp only [qd_div, Rat.intCast_mul, Rat.intCast_sub]
  congr 1
  · grind
  · grind
theorem tr_mul : (⟨qd (a * d - b * e) (c * f), qd (a * e + b * d) (c * f)⟩ : Cn) = Cn.mul ⟨qd a c, qd b c⟩ ⟨qd d f, qd e f⟩ := by
  have h1 := c_ne h0
  have h2 := c_ne k0
  unfold Cn.mul
  simp only [qd_div, Rat.intCast_mul, Rat.intCast_sub, Rat.intCast_add]
  congr 1
  · grind
  · grind
theorem tr_div (hn : d * d + e * e ≠ 0) : (⟨qd ((a * d + b * e) * f) (c * (d * d + e * e)), qd ((b * d - a * e) * f) (c * (d * d + e * e))⟩ : Cn) = Cn.div ⟨qd a c, qd b c⟩ ⟨qd d f, qd e f⟩ := by
  have h1 := c_ne h0
  have h2 := c_ne k0
  have h3 := c_ne hn
  rw [Rat.intCast_add, Rat.intCast_mul, Rat.intCast_mul] at h3
  unfold Cn.div Cn.nsq
  simp only [qd_div, Rat.intCast_mul, Rat.intCast_sub, Rat.intCast_add]
  generalize (a : Rat) = a at *
  generalize (b : Rat) = b at *
  generalize (c : Rat) = c at *
  generalize (d : Rat) = d at *
  generalize (e : Rat) = e at *
  generalize (f : Rat) = f at *
  have h4 : d / f * (d / f) + e / f * (e / f) = (d * d + e * e) / (f * f) := by grind
  congr 1
  · rw [h4]
    grind
  · rw [h4]
    grind
end
theorem nsq_int (d e f : Int) (k0 : f ≠ 0) (h : Cn.nsq ⟨qd d f, qd e f⟩ ≠ 0) : d * d + e * e ≠ 0 := by
  intro z
  have h2 : d = 0 ∧ e = 0 := by
    have h3 : 0 ≤ d * d := by
      rcases Int.le_total 0 d with q | q
      · exact Int.mul_nonneg q q
      · exact Int.mul_nonneg_of_nonpos_of_nonpos q q
    have h4 : 0 ≤ e * e := by
      rcases Int.le_total 0 e with q | q
      · exact Int.mul_nonneg q q
      · exact Int.mul_nonneg_of_nonpos_of_nonpos q q
    have h5 : d * d = 0 := by omega
    have h6 : e * e = 0 := by omega
    exact ⟨by rcases Int.mul_eq_zero.mp h5 with q | q <;> exact q, by rcases Int.mul_eq_zero.mp h6 with q | q <;> exact q⟩
  obtain ⟨rfl, rfl⟩ := h2
  apply h
  unfold Cn.nsq
  simp only [qd_div]
  grind
theorem tr_nsq (a b c : Int) (h0 : c ≠ 0) : qd (a * a + b * b) (c * c) = Cn.nsq ⟨qd a c, qd b c⟩ := by
  have h1 := c_ne h0
  unfold Cn.nsq
  simp only [qd_div, Rat.intCast_mul, Rat.intCast_add]
  grind
theorem tr_bent (a b c : Int) (h0 : 0 < c) (ha : Bd 300 a) (hb : Bd 300 b) (hc : Bd 300 c) : Tr 300 (Cn.conj ⟨qd a c, qd b c⟩) (.tuple [.int a, .int (0 - b), .int c]) := by
  refine ⟨a, 0 - b, c, rfl, h0, ha, ?_, hc, ?_⟩
  · rw [Int.zero_sub]
    exact hb.neg
  · unfold Cn.conj
    simp only [qd_div, Int.zero_sub, Rat.intCast_neg]
    congr 1
    grind

theorem nz_of {a b c : Int} {z : Cn} (h : 0 < c ∧ Bd 300 a ∧ Bd 300 b ∧ Bd 300 c ∧ z = ⟨qd a c, qd b c⟩) (hb : (!PyData.eqv (.tuple [.int a, .int b]) (.tuple [.int 0, .int 0])) = true) : z.nsq ≠ 0 := by
  obtain ⟨h0, _, _, _, rfl⟩ := h
  have hb1 : (!(a == 0 && (b == 0 && true))) = true := hb
  have hne : ¬ (a = 0 ∧ b = 0) := by
    rintro ⟨rfl, rfl⟩
    exact absurd hb1 (by decide)
  have h1 := c_ne (show c ≠ 0 by omega)
  intro k
  have h2 := tr_nsq a b c (by omega)
  rw [k] at h2
  have h3 : a * a + b * b = 0 := by
    have h4 : ((a * a + b * b : Int) : Rat) / ((c * c : Int) : Rat) = 0 := by rw [← qd_div]; exact h2
    have h5 := c_ne (show c * c ≠ 0 from Int.mul_ne_zero (by omega) (by omega))
    generalize ((c * c : Int) : Rat) = u at *
    have h6 : ((a * a + b * b : Int) : Rat) = 0 := by grind
    exact Rat.intCast_eq_zero_iff.mp h6
  have h7 : 0 ≤ a * a := by
    rcases Int.le_total 0 a with q | q
    · exact Int.mul_nonneg q q
    · exact Int.mul_nonneg_of_nonpos_of_nonpos q q
  have h8 : 0 ≤ b * b := by
    rcases Int.le_total 0 b with q | q
    · exact Int.mul_nonneg q q
    · exact Int.mul_nonneg_of_nonpos_of_nonpos q q
  have h9 : a * a = 0 := by omega
  have h10 : b * b = 0 := by omega
  exact hne ⟨by rcases Int.mul_eq_zero.mp h9 with q | q <;> exact q, by rcases Int.mul_eq_zero.mp h10 with q | q <;> exact q⟩
theorem div_cs {x y : Cn} {X Y : PyData} (hx : Tr 300 x X) (hy : Tr 300 y Y) (hn : y.nsq ≠ 0) : Cs 1800 (x.div y) := by
  obtain ⟨a, b, c, rfl, h0, ha, hb, hc, rfl⟩ := hx
  obtain ⟨d, e, f, rfl, k0, hd, he, hf, rfl⟩ := hy
  have hnz : d * d + e * e ≠ 0 := nsq_int d e f (by omega) hn
  rw [← tr_div a b c d e f (by omega) (by omega) hnz]
  have hdn : Bd 1800 (c * (d * d + e * e)) := (hc.mul ((hd.mul hd).add (he.mul he))).mono (by decide)
  exact ⟨rs_of ((((ha.mul hd).add (hb.mul he)).mul hf).mono (by decide)) hdn (Int.mul_ne_zero (by omega) hnz), rs_of ((((hb.mul hd).sub (ha.mul he)).mul hf).mono (by decide)) hdn (Int.mul_ne_zero (by omega) hnz)⟩

theorem turns_step {acc : List PyData} {k : Nat} (ha : acc = (List.replicate k true).map PyData.bool) : acc ++ [PyData.bool true] = (List.replicate (k + 1) true).map PyData.bool := by
  rw [ha, List.replicate_succ', List.map_append]
  rfl
theorem turns_all {k : Nat} : (List.replicate k true).all id = true := by simp
theorem turns_ex (k : Nat) (h : k ≤ 63) : ∃ n : Int, (if (if (4 : Int) < (k : Int) then (4 : Int) else (k : Int)) > 2 then (if (4 : Int) < (k : Int) then (4 : Int) else (k : Int)) else 2) = n ∧ n ≤ 63 ∧ 0 ≤ n := by
  refine ⟨_, rfl, ?_, ?_⟩
  · split <;> split <;> omega
  · split <;> split <;> omega

def kp_1_0 {α : Type} (l : List α) : List α := match l with | [x0] => [x0] | _ => l
theorem kp_1_0_rel {zs : List V} {ws : List Value} (r : Vals zs ws) : Vals (kp_1_0 zs) (kp_1_0 ws) := by
  cases r with
  | nil => exact .nil
  | cons r0 r =>
    cases r with
    | nil => exact .cons r0 (.nil)
    | cons rn r => exact .cons r0 (.cons rn r)
theorem kp_1_0_dat {K : PySem.W.Frag} (G : Hp) (vs : List V) (ds : List PyData) (h : DpAll K G vs ds) (hn : ds.length = 1) : DpAll K G (kp_1_0 vs) (kp_1_0 ds) := by
  cases h with
  | nil => cases hn
  | cons h0 h =>
    cases h with
    | nil => exact .cons h0 (.nil)
    | cons _ _ => exact absurd hn (by simp)
def kp_2_10 {α : Type} (l : List α) : List α := match l with | [x0, x1] => [x1, x0] | _ => l
theorem kp_2_10_rel {zs : List V} {ws : List Value} (r : Vals zs ws) : Vals (kp_2_10 zs) (kp_2_10 ws) := by
  cases r with
  | nil => exact .nil
  | cons r0 r =>
    cases r with
    | nil => exact .cons r0 (.nil)
    | cons r1 r =>
      cases r with
      | nil => exact .cons r1 (.cons r0 (.nil))
      | cons rn r => exact .cons r0 (.cons r1 (.cons rn r))
theorem kp_2_10_dat {K : PySem.W.Frag} (G : Hp) (vs : List V) (ds : List PyData) (h : DpAll K G vs ds) (hn : ds.length = 2) : DpAll K G (kp_2_10 vs) (kp_2_10 ds) := by
  cases h with
  | nil => cases hn
  | cons h0 h =>
    cases h with
    | nil => cases hn
    | cons h1 h =>
      cases h with
      | nil => exact .cons h1 (.cons h0 (.nil))
      | cons _ _ => exact absurd hn (by simp)
def kp_3_210 {α : Type} (l : List α) : List α := match l with | [x0, x1, x2] => [x2, x1, x0] | _ => l
theorem kp_3_210_rel {zs : List V} {ws : List Value} (r : Vals zs ws) : Vals (kp_3_210 zs) (kp_3_210 ws) := by
  cases r with
  | nil => exact .nil
  | cons r0 r =>
    cases r with
    | nil => exact .cons r0 (.nil)
    | cons r1 r =>
      cases r with
      | nil => exact .cons r0 (.cons r1 (.nil))
      | cons r2 r =>
        cases r with
        | nil => exact .cons r2 (.cons r1 (.cons r0 (.nil)))
        | cons rn r => exact .cons r0 (.cons r1 (.cons r2 (.cons rn r)))
theorem kp_3_210_dat {K : PySem.W.Frag} (G : Hp) (vs : List V) (ds : List PyData) (h : DpAll K G vs ds) (hn : ds.length = 3) : DpAll K G (kp_3_210 vs) (kp_3_210 ds) := by
  cases h with
  | nil => cases hn
  | cons h0 h =>
    cases h with
    | nil => cases hn
    | cons h1 h =>
      cases h with
      | nil => cases hn
      | cons h2 h =>
        cases h with
        | nil => exact .cons h2 (.cons h1 (.cons h0 (.nil)))
        | cons _ _ => exact absurd hn (by simp)

local macro_rules | `(tactic| walk_at "bd") => `(tactic| first
  | assumption
  | exact Rs.num (by assumption)
  | exact Rs.den (by assumption)
  | exact Rs.num (Cs.re (by assumption))
  | exact Rs.den (Cs.re (by assumption))
  | exact Rs.num (Cs.im (by assumption))
  | exact Rs.den (Cs.im (by assumption))
  | (apply Bd.mul <;> walk_at "bd")
  | (apply Bd.add <;> walk_at "bd")
  | (apply Bd.sub <;> walk_at "bd")
  | (apply Bd.neg <;> walk_at "bd")
  | exact ord_bd
  | exact Bd.lit (n := 128) (by decide))
local macro_rules | `(tactic| walk_at "bits") => `(tactic| (apply mul_ok; (focus walk_at "bd"); (focus walk_at "bd"); decide))
local macro_rules | `(tactic| walk_at "bdm") => `(tactic| ((try dsimp only); apply Bd.mono; (focus walk_at "bd"); decide))
local macro_rules | `(tactic| walk_at "nz") => `(tactic| first
  | assumption
  | (dsimp only; walk_at "nz")
  | exact den_ne _
  | (apply Int.mul_ne_zero <;> walk_at "nz")
  | omega
  | decide)
local macro_rules | `(tactic| walk_at "divs") => `(tactic| (apply div_ok; (focus walk_at "bd"); (focus walk_at "nz"); decide))
local macro_rules | `(tactic| walk_at "rs") => `(tactic| first
  | assumption
  | exact rs_of (by assumption) (by assumption) (by assumption)
  | exact rs_int (by assumption)
  | exact Cs.re (by assumption)
  | exact Cs.im (by assumption)
  | exact (Tq.cs (by assumption)).re
  | (apply Rs.add <;> walk_at "rs")
  | (apply Rs.sub <;> walk_at "rs")
  | (apply Rs.mul <;> walk_at "rs")
  | (apply Rs.neg <;> walk_at "rs")
  | exact rs_one
  | (apply Cs.nsq; walk_at "cs"))
local macro_rules | `(tactic| walk_at "rsm") => `(tactic| ((try dsimp only); apply Rs.mono; (focus walk_at "rs"); decide))
local macro_rules | `(tactic| walk_at "tr") => `(tactic| first | assumption | (apply Tr.mono; (focus assumption); exact Nat.le_of_ble_eq_true rfl))
local macro_rules | `(tactic| walk_at "tq") => `(tactic| first | assumption | (apply Tq.mono; (focus assumption); exact Nat.le_of_ble_eq_true rfl))
local macro_rules | `(tactic| walk_at "env") => `(tactic| first | (simp only [ends, List.map_cons, List.map_nil, List.replicate_succ, List.replicate_zero, List.cons_append, List.nil_append, List.set_cons_zero, List.set_cons_succ]; done) | (simp only [ends, List.map_cons, List.map_nil, List.replicate_succ, List.replicate_zero, List.cons_append, List.nil_append, List.set_cons_zero, List.set_cons_succ]; exact rfl) | exact rfl)
local macro_rules | `(tactic| walk_at "bdz") => `(tactic| first | assumption | exact bd_zero)
local macro_rules | `(tactic| walk_at "tr2") => `(tactic| first | assumption | (apply Tr.mono; (focus assumption); exact Nat.le_of_ble_eq_true rfl))
local macro_rules | `(tactic| walk_at "shw") => `(tactic| first
  | (apply shw_both; (focus walk_at "rsm"); (focus walk_at "rsm"))
  | exact shw_bool
  | exact shw_none
  | exact shw_where
  | (refine shw_fr (q := qd _ _) ?_; walk_at "rsm")
  | (apply shw_fr; walk_at "rsm")
  | (apply shw_nm; walk_at "csm")
  | (apply shw_int; walk_at "bdm")
  | (apply shw_l; walk_at "shwa")
  | (apply shw_t; walk_at "shwa"))
local macro_rules | `(tactic| walk_at "shwa") => `(tactic| first
  | exact shw_nil
  | (apply shw_cons; (focus walk_at "shw"); walk_at "shwa"))
local macro_rules | `(tactic| walk_at "cnts") => `(tactic| first | exact Nat.le_of_ble_eq_true rfl | (apply cw_fin; (focus (apply cw_list; walk_at "cnta")); exact Nat.le_of_ble_eq_true rfl))
local macro_rules | `(tactic| walk_at "dep") => `(tactic| first | exact Nat.le_of_ble_eq_true rfl | (apply dq_fin; (focus (apply dq_list; walk_at "depa")); exact Nat.le_of_ble_eq_true rfl))
local macro_rules | `(tactic| walk_at "depa") => `(tactic| first | exact dq_nil | (apply dq_cons; (focus (first | exact depth_both | exact Nat.le_refl _)); walk_at "depa"))
local macro_rules | `(tactic| walk_at "cnta") => `(tactic| first | exact cw_nil | (apply cw_cons; (focus (first | exact cw_where | exact cnt_both | exact Nat.le_refl _)); walk_at "cnta"))
local macro_rules | `(tactic| walk_at "cs") => `(tactic| first
  | assumption
  | (apply Cs.add <;> walk_at "cs")
  | (apply Cs.sub <;> walk_at "cs")
  | (apply Cs.mul <;> walk_at "cs")
  | (apply Cs.conj <;> walk_at "cs")
  | exact div_cs (by assumption) (by assumption) (by assumption)
  | exact Tq.cs (by assumption)
  | exact cs_of (by assumption) (by assumption) (by assumption) (by assumption)
  | exact cs_int0 (by assumption)
  | exact cs_int (by assumption) (by assumption)
  | exact ⟨by walk_at "rs", by walk_at "rs"⟩)
local macro_rules | `(tactic| walk_at "csm") => `(tactic| ((try dsimp only); apply Cs.mono; (focus walk_at "cs"); decide))
local macro_rules | `(tactic| walk_at "muls") => `(tactic| first | exact Or.inr ⟨by omega, by omega⟩ | exact Or.inl ⟨by omega, by omega⟩ | exact Or.inr ⟨by decide, by decide⟩ | exact Or.inl ⟨by decide, by decide⟩)
local macro_rules | `(tactic| walk_at "pows") => `(tactic| exact ⟨by decide, by decide, by decide⟩)

theorem sc_reduced : FnScope ["n", "m", "shared"] ["n", "m"] (defScope s_reduced) := ⟨rfl, rfl, rfl, by decide +kernel, rfl, by decide +kernel, by decide +kernel⟩
theorem ok_reduced {P : Program} {w : World} {K : PySem.W.Frag} {mg : Str → Option Value} {base : Heap} (T : Txt K mg) :
    ∃ fd, FnG P w K mg base CX0 1 (He.ga K "reduced") fd ["n", "m"] (spD (ι := Int × Int) K 2 (fun i => [.int i.1, .int i.2]) (fun i => i.2 ≠ 0 ∧ Bd 8000 i.2) (fun i d => d = fr (qd i.1 i.2))) ∧ FunD K "reduced" "reduced" (defArgs s_reduced) (defBody s_reduced) (defScope s_reduced) [] [] (He.ga K "reduced") fd := by
  obtain ⟨fd, F⟩ := T.f_reduced
  refine ⟨fd, FnG.of F sc_reduced (fun vs H Q E h => h.1) (fun cdv A outer s H vs Q E hr hg h => ⟨_, PSs.nox (pss_cons (ps_set (i := 2) sc_reduced.nd rfl (Or.inl rfl) (pe_callBfun cr_gcd rfl T.i_gcd (pa_cons (pv 0) (pa_cons (pv 1) pa_nil)))) (pss_cons (ps_if (pt_cmpR op_lt (pv 1) pe_int (nomark _)) (pss_one (ps_set (i := 2) sc_reduced.nd rfl (Or.inl rfl) (pe_un un_neg (pv 2)))) pss_nil) (pss_one (ps_ret (pe_tup (pa_cons (pe_op op_fdivX (pv 0) (pv 2)) (pa_cons (pe_op op_fdivX (pv 1) (pv 2)) pa_nil))))))), ?_⟩), F⟩
  refine body_D 1 rfl h fun p i hp hn => ?_
  obtain ⟨n, m⟩ := i
  obtain ⟨h0, hb⟩ := hp
  try dsimp only at *
  have hg0 : ((Nat.gcd n.natAbs m.natAbs : Nat) : Int) ≠ 0 := gcd_ne n m h0
  have hgb : Bd 8000 ((Nat.gcd n.natAbs m.natAbs : Nat) : Int) := gcd_bd n m h0 hb
  refine S_seq ?_
  refine S_asg (Nat.le_of_ble_eq_true rfl) ?_
  refine W_cb ?_
  refine WA_cons ?_
  refine W_var rfl ?_
  refine WA_cons ?_
  refine W_var rfl ?_
  refine WA_nil ?_
  refine WC_gcd ?_
  refine S_env (by walk_at "env") ?_
  refine S_seq ?_
  refine S_if ?_
  refine WT_test ?_
  refine W_op ?_
  refine W_var rfl ?_
  refine W_int ?_
  refine WR_lt ?_
  refine ⟨_, rfl, ?_⟩
  refine ⟨fun hb1 => ?_, fun hb1 => ?_⟩
  · skip
    refine S_asg (Nat.le_of_ble_eq_true rfl) ?_
    refine W_neg ?_
    refine W_var rfl ?_
    refine ⟨_, rfl, ?_⟩
    refine S_env (by walk_at "env") ?_
    refine S_ret ?_
    refine W_tup ?_
    refine WA_cons ?_
    refine W_op ?_
    refine W_var rfl ?_
    refine W_var rfl ?_
    refine WR_div (by walk_at "divs") ?_
    refine WA_cons ?_
    refine W_op ?_
    refine W_var rfl ?_
    refine W_var rfl ?_
    refine WR_div (by walk_at "divs") ?_
    refine WA_nil ?_
    refine ⟨szl_of rfl, ?_⟩
    first
      | exact red_end_neg n m (of_decide_eq_true hb1)
      | exact red_end_pos n m h0 (of_decide_eq_false hb1)
  · skip
    refine S_next ?_
    refine S_env (by walk_at "env") ?_
    refine S_ret ?_
    refine W_tup ?_
    refine WA_cons ?_
    refine W_op ?_
    refine W_var rfl ?_
    refine W_var rfl ?_
    refine WR_div (by walk_at "divs") ?_
    refine WA_cons ?_
    refine W_op ?_
    refine W_var rfl ?_
    refine W_var rfl ?_
    refine WR_div (by walk_at "divs") ?_
    refine WA_nil ?_
    refine ⟨szl_of rfl, ?_⟩
    first
      | exact red_end_neg n m (of_decide_eq_true hb1)
      | exact red_end_pos n m h0 (of_decide_eq_false hb1)
theorem sc_order : FnScope ["x", "y", "left", "right"] ["x", "y"] (defScope s_order) := ⟨rfl, rfl, rfl, by decide +kernel, rfl, by decide +kernel, by decide +kernel⟩
theorem ok_order {P : Program} {w : World} {K : PySem.W.Frag} {mg : Str → Option Value} {base : Heap} (T : Txt K mg) :
    ∃ fd, FnG P w K mg base CX0 1 (He.ga K "order") fd ["x", "y"] (spD (ι := Rat × Rat) K 2 (fun i => [fr i.1, fr i.2]) (fun i => Rs 3000 i.1 ∧ Rs 3000 i.2) (fun i d => d = .int (ordI i.1 i.2))) ∧ FunD K "order" "order" (defArgs s_order) (defBody s_order) (defScope s_order) [] [] (He.ga K "order") fd := by
  obtain ⟨fd, F⟩ := T.f_order
  refine ⟨fd, FnG.of F sc_order (fun vs H Q E h => h.1) (fun cdv A outer s H vs Q E hr hg h => ⟨_, PSs.nox (pss_cons (ps_par (i := 2) (j := 3) rfl sc_order.nd rfl rfl (by decide) rfl rfl (pa_cons (pe_op op_mulX (pe_ix ix_tup (pv 0) pe_int (fun _ _ => rfl)) (pe_ix ix_tup (pv 1) pe_int (fun _ _ => rfl))) (pa_cons (pe_op op_mulX (pe_ix ix_tup (pv 1) pe_int (fun _ _ => rfl)) (pe_ix ix_tup (pv 0) pe_int (fun _ _ => rfl))) pa_nil)) rfl) (pss_cons (ps_if (pt_cmpR op_eq (pv 2) (pv 3) (nomark _)) (pss_one (ps_ret pe_int)) pss_nil) (pss_one (ps_ret (pe_ifExp (pt_cmpR op_lt (pv 2) (pv 3) (nomark _)) (pe_un un_neg pe_int) pe_int))))), ?_⟩), F⟩
  refine body_D 2 rfl h fun p i hp hn => ?_
  obtain ⟨x, y⟩ := i
  obtain ⟨hx, hy⟩ := hp
  try dsimp only at *
  refine S_seq ?_
  refine S_par (Nat.le_of_ble_eq_true rfl) (Nat.le_of_ble_eq_true rfl) ?_
  refine WA_cons ?_
  refine W_op ?_
  refine W_op ?_
  refine W_var rfl ?_
  refine W_int ?_
  refine WR_ixT rfl ?_
  refine W_op ?_
  refine W_var rfl ?_
  refine W_int ?_
  refine WR_ixT rfl ?_
  refine WR_mul (by walk_at "bits") ?_
  refine WA_cons ?_
  refine W_op ?_
  refine W_op ?_
  refine W_var rfl ?_
  refine W_int ?_
  refine WR_ixT rfl ?_
  refine W_op ?_
  refine W_var rfl ?_
  refine W_int ?_
  refine WR_ixT rfl ?_
  refine WR_mul (by walk_at "bits") ?_
  refine WA_nil ?_
  refine ⟨_, _, rfl, ?_⟩
  refine S_env (by walk_at "env") ?_
  refine S_seq ?_
  refine S_if ?_
  refine WT_test ?_
  refine W_op ?_
  refine W_var rfl ?_
  refine W_var rfl ?_
  refine WR_eqI ?_
  refine ⟨_, rfl, ?_⟩
  refine ⟨fun hb1 => ?_, fun hb1 => ?_⟩
  · skip
    refine S_ret ?_
    refine W_int ?_
    first
      | exact congrArg PyData.int (ord_eq x y (of_decide_eq_true hb1)).symm
      | exact congrArg PyData.int (ord_lt x y (of_decide_eq_false hb1) (of_decide_eq_true hb2)).symm
      | exact congrArg PyData.int (ord_gt x y (of_decide_eq_false hb1) (of_decide_eq_false hb2)).symm
  · skip
    refine S_next ?_
    refine S_env (by walk_at "env") ?_
    refine S_ret ?_
    refine W_if ?_
    refine WT_test ?_
    refine W_op ?_
    refine W_var rfl ?_
    refine W_var rfl ?_
    refine WR_lt ?_
    refine ⟨_, rfl, ?_⟩
    refine ⟨fun hb2 => ?_, fun hb2 => ?_⟩
    · skip
      refine W_neg ?_
      refine W_int ?_
      refine ⟨_, rfl, ?_⟩
      first
        | exact congrArg PyData.int (ord_eq x y (of_decide_eq_true hb1)).symm
        | exact congrArg PyData.int (ord_lt x y (of_decide_eq_false hb1) (of_decide_eq_true hb2)).symm
        | exact congrArg PyData.int (ord_gt x y (of_decide_eq_false hb1) (of_decide_eq_false hb2)).symm
    · skip
      refine W_int ?_
      first
        | exact congrArg PyData.int (ord_eq x y (of_decide_eq_true hb1)).symm
        | exact congrArg PyData.int (ord_lt x y (of_decide_eq_false hb1) (of_decide_eq_true hb2)).symm
        | exact congrArg PyData.int (ord_gt x y (of_decide_eq_false hb1) (of_decide_eq_false hb2)).symm
theorem sc_mirror : FnScope ["x", "n", "m"] ["x"] (defScope s_mirror) := ⟨rfl, rfl, rfl, by decide +kernel, rfl, by decide +kernel, by decide +kernel⟩
theorem ok_mirror {P : Program} {w : World} {K : PySem.W.Frag} {mg : Str → Option Value} {base : Heap} (T : Txt K mg) :
    ∃ fd, FnG P w K mg base CX0 1 (He.ga K "mirror") fd ["x"] (spD (ι := Cn) K 1 (fun i => [nm i]) (fun _ => True) (fun i d => d = nm i.conj)) ∧ FunD K "mirror" "mirror" (defArgs s_mirror) (defBody s_mirror) (defScope s_mirror) [] [] (He.ga K "mirror") fd := by
  obtain ⟨fd, F⟩ := T.f_mirror
  refine ⟨fd, FnG.of F sc_mirror (fun vs H Q E h => h.1) (fun cdv A outer s H vs Q E hr hg h => ⟨_, PSs.nox (pss_cons (ps_asg (pe_ix ix_tup (pv 0) pe_int (fun _ _ => rfl)) (pg_tup rfl (pgs_cons (pg_name (i := 1) sc_mirror.nd rfl (Or.inl rfl)) (pgs_cons (pg_name (i := 2) sc_mirror.nd rfl (Or.inl rfl)) pgs_nil)))) (pss_one (ps_ret (pe_tup (pa_cons (pe_ix ix_tup (pv 0) pe_int (fun _ _ => rfl)) (pa_cons (pe_tup (pa_cons (pe_un un_neg (pv 1)) (pa_cons (pv 2) pa_nil))) pa_nil)))))), ?_⟩), F⟩
  refine body_D 2 rfl h fun p i hp hn => ?_
  try dsimp only at *
  refine S_seq ?_
  refine S_asgG ?_
  refine W_op ?_
  refine W_var rfl ?_
  refine W_int ?_
  refine WR_ixT rfl ?_
  refine TG_tup rfl ?_
  refine TGs_cons ?_
  refine TG_name (Nat.le_of_ble_eq_true rfl) ?_
  refine TGs_cons ?_
  refine TG_name (Nat.le_of_ble_eq_true rfl) ?_
  refine TGs_nil ?_
  refine S_env (by walk_at "env") ?_
  refine S_ret ?_
  refine W_tup ?_
  refine WA_cons ?_
  refine W_op ?_
  refine W_var rfl ?_
  refine W_int ?_
  refine WR_ixT rfl ?_
  refine WA_cons ?_
  refine W_tup ?_
  refine WA_cons ?_
  refine W_neg ?_
  refine W_var rfl ?_
  refine ⟨_, rfl, ?_⟩
  refine WA_cons ?_
  refine W_var rfl ?_
  refine WA_nil ?_
  refine ⟨szl_of rfl, ?_⟩
  refine WA_nil ?_
  refine ⟨szl_of rfl, ?_⟩
  rfl
theorem sc_is_whole : FnScope ["value"] ["value"] (defScope s_is_whole) := ⟨rfl, rfl, rfl, by decide +kernel, rfl, by decide +kernel, by decide +kernel⟩
theorem ok_is_whole {P : Program} {w : World} {K : PySem.W.Frag} {mg : Str → Option Value} {base : Heap} (T : Txt K mg) :
    ∃ fd, FnG P w K mg base CX0 1 (He.ga K "is_whole") fd ["value"] (spD (ι := PyData) K 1 (fun i => [i]) (fun _ => True) (fun i d => d = .bool (isW i))) ∧ FunD K "is_whole" "is_whole" (defArgs s_is_whole) (defBody s_is_whole) (defScope s_is_whole) [] [] (He.ga K "is_whole") fd := by
  obtain ⟨fd, F⟩ := T.f_is_whole
  refine ⟨fd, FnG.of F sc_is_whole (fun vs H Q E h => h.1) (fun cdv A outer s H vs Q E hr hg h => ⟨_, PSs.nox (pss_one (ps_ret (pe_and (pe_callB call_isi rfl T.b_isinstance (by decide +kernel) (pa_cons (pv 0) (pa_cons (pe_bltn (v := .ty "int") rfl T.b_int (by decide +kernel) rfl) pa_nil))) (pe_one (pe_not (pe_callB call_isi rfl T.b_isinstance (by decide +kernel) (pa_cons (pv 0) (pa_cons (pe_bltn (v := .ty "bool") rfl T.b_bool (by decide +kernel) rfl) pa_nil)))))))), ?_⟩), F⟩
  refine body_D 0 rfl h fun p x _ hn => ?_
  try dsimp only at *
  refine S_ret ?_
  refine W_andV ?_
  refine W_isi ?_
  refine W_var rfl ?_
  refine ⟨_, kit_int _, ?_⟩
  refine ⟨_, rfl, ?_⟩
  refine ⟨fun hb1 => ?_, fun hb1 => ?_⟩
  · skip
    refine W_notV ?_
    refine W_isi ?_
    refine W_var rfl ?_
    refine ⟨_, kit_bool _, ?_⟩
    refine ⟨_, rfl, ?_⟩
    simp_all [isW]
  · skip
    simp_all [isW]
theorem sc__law_pail : FnScope ["script", "turn", "cell", "mixed", "each", "rich"] ["script", "turn"] (defScope s__law_pail) := ⟨rfl, rfl, rfl, by decide +kernel, rfl, by decide +kernel, by decide +kernel⟩
theorem ok__law_pail {P : Program} {w : World} {K : PySem.W.Frag} {mg : Str → Option Value} {base : Heap} (T : Txt K mg) :
    ∃ fd, FnG P w K mg base CX0 1 (He.ga K "_law_pail") fd ["script", "turn"] (spPail K) ∧ FunD K "_law_pail" "_law_pail" (defArgs s__law_pail) (defBody s__law_pail) (defScope s__law_pail) [] [] (He.ga K "_law_pail") fd := by
  obtain ⟨fd, F⟩ := T.f__law_pail
  refine ⟨fd, FnG.of F sc__law_pail (fun vs H Q E h => h.1) (fun cdv A outer s H vs Q E hr hg h => ⟨_, PSs.nox (pss_cons (ps_set (i := 2) sc__law_pail.nd rfl (Or.inl rfl) (pe_ifExp (pt_cmpR op_lt (pv 1) (pe_callB cr_len rfl T.b_len (by decide +kernel) (pa_cons (pv 0) pa_nil)) (nomark _)) (pe_callTy cr_int rfl T.b_int (by decide +kernel) (pa_cons (pe_ix ix_list (pv 0) (pv 1) (fun _ _ => rfl)) pa_nil)) (pe_op op_add (pe_op op_mul pe_int (pv 1)) pe_int))) (pss_cons (ps_set (i := 3) sc__law_pail.nd rfl (Or.inl rfl) (pe_op op_add pe_int (pe_op op_mul pe_int (pv 1)))) (pss_cons (ps_for PassesOwn.never rfl (pi_list (pe_slice sl_list (pv 0) po_none (po_some pe_int))) (pg_name (i := 4) sc__law_pail.nd rfl (Or.inl rfl)) (pss_one (ps_set (i := 3) sc__law_pail.nd rfl (Or.inl rfl) (pe_op op_mod (pe_callTy cr_int rfl T.b_int (by decide +kernel) (pa_cons (pe_op op_add (pe_op op_add (pe_op op_mul (pv 3) pe_int) (pe_op op_mul (pe_op op_mod (pe_callTy cr_int rfl T.b_int (by decide +kernel) (pa_cons (pv 4) pa_nil)) pe_int) pe_int)) pe_int) pa_nil)) pe_int)))) (pss_cons (ps_set (i := 5) sc__law_pail.nd rfl (Or.inl rfl) (pe_or (pe_cmpR op_lt (pv 2) pe_int (nomark _)) (pe_one (pe_cmpR op_ge (pv 2) (pe_op op_pow pe_int pe_int) (nomark _))))) (pss_one (ps_ret (pe_lst (pa_cons (pe_ifExp (pt_val (pv 5)) (pe_callB cr_abs rfl T.b_abs (by decide +kernel) (pa_cons (pv 2) pa_nil)) pe_int) (pa_cons (pe_op op_mod (pe_callTy cr_int rfl T.b_int (by decide +kernel) (pa_cons (pe_op op_add (pe_op op_add (pe_op op_mul (pv 3) pe_int) (pe_op op_mul (pe_op op_mod (pe_callTy cr_int rfl T.b_int (by decide +kernel) (pa_cons (pv 2) pa_nil)) pe_int) pe_int)) pe_int) pa_nil)) pe_int) (pa_cons pe_int pa_nil)))))))))), ?_⟩), F⟩
  refine body_pail 4 rfl h fun ns t ht => ?_
  refine SM_seq (S.imp (N := fun E' => ∃ c : Int, E' = [.d (.list (ns.map .int)), .d (.int t), .d (.int c), .un, .un, .un]) (R := fun _ => False) (B := Nev) (C := Nev) ?_ (fun E' hE => ?_) (fun _ h => h) (fun _ h => h) (fun _ h => h))
  · refine S_asg (Nat.le_of_ble_eq_true rfl) ?_
    refine W_if ?_
    refine WT_test ?_
    refine W_op ?_
    refine W_var rfl ?_
    refine W_cb ?_
    refine WA_cons ?_
    refine W_var rfl ?_
    refine WA_nil ?_
    refine WC_lenL ?_
    refine WR_lt ?_
    refine ⟨_, rfl, fun hb => ?_, fun hb => ?_⟩
    · have hb1 := of_decide_eq_true hb
      rw [List.length_map] at hb1
      obtain ⟨k, rfl⟩ : ∃ k : Nat, t = (k : Int) := ⟨t.toNat, by omega⟩
      have hk : k < ns.length := by omega
      refine W_cb ?_
      refine WA_cons ?_
      refine W_op ?_
      refine W_var rfl ?_
      refine W_var rfl ?_
      refine WR_ixL (d := .int ns[k]) (atI_nat (by rw [List.getElem?_map, List.getElem?_eq_getElem hk]; rfl)) ?_
      refine WA_nil ?_
      refine WC_int ?_
      exact ⟨_, rfl⟩
    · refine W_op ?_
      refine W_op ?_
      refine W_int ?_
      refine W_var rfl ?_
      refine WR_mulS (by walk_at "muls") ?_
      refine W_int ?_
      refine WR_add ?_
      exact ⟨_, rfl⟩
  obtain ⟨c, rfl⟩ := hE
  refine SM_seq ?_
  refine S_asg (Nat.le_of_ble_eq_true rfl) ?_
  refine W_op ?_
  refine W_int ?_
  refine W_op ?_
  refine W_int ?_
  refine W_var rfl ?_
  refine WR_mulS (by walk_at "muls") ?_
  refine WR_add ?_
  refine SM_seq (S.imp (N := fun E' => ∃ (m : Int) (sl : Sl), E' = [.d (.list (ns.map .int)), .d (.int t), .d (.int c), .d (.int m), sl, .un]) (R := fun _ => False) (B := Nev) (C := Nev) ?_ (fun E' hE => ?_) (fun _ h => h) (fun _ h => h) (fun _ h => h))
  · refine S_forL ?_
    refine W_of_WM ?_
    refine WM_slL ?_
    refine W_var rfl ?_
    refine ⟨_, rfl, ?_⟩
    refine WO_none ?_
    refine WO_some ?_
    refine W_int ?_
    refine ⟨_, rfl, ?_⟩
    refine ⟨_, rfl, fun _ E' => ∃ (m : Int) (sl : Sl), E' = [.d (.list (ns.map .int)), .d (.int t), .d (.int c), .d (.int m), sl, .un], ⟨_, _, rfl⟩, ?_, fun E' h => h⟩
    rintro k x E' hx ⟨m, sl, rfl⟩
    obtain ⟨n, rfl⟩ := cut_ints hx
    refine TG_name (Nat.le_of_ble_eq_true rfl) ?_
    refine S_asg (Nat.le_of_ble_eq_true rfl) ?_
    refine W_op ?_
    refine W_cb ?_
    refine WA_cons ?_
    refine W_op ?_
    refine W_op ?_
    refine W_op ?_
    refine W_var rfl ?_
    refine W_int ?_
    refine WR_mulS (by walk_at "muls") ?_
    refine W_op ?_
    refine W_op ?_
    refine W_cb ?_
    refine WA_cons ?_
    refine W_var rfl ?_
    refine WA_nil ?_
    refine WC_int ?_
    refine W_int ?_
    refine WR_mod (by decide) ?_
    refine W_int ?_
    refine WR_mulS (by walk_at "muls") ?_
    refine WR_add ?_
    refine W_int ?_
    refine WR_add ?_
    refine WA_nil ?_
    refine WC_int ?_
    refine W_int ?_
    refine WR_mod (by decide) ?_
    exact ⟨_, _, rfl⟩
  obtain ⟨m, sl, rfl⟩ := hE
  refine SM_seq (S.imp (N := fun E' => ∃ b : Bool, E' = [.d (.list (ns.map .int)), .d (.int t), .d (.int c), .d (.int m), sl, .d (.bool b)]) (R := fun _ => False) (B := Nev) (C := Nev) ?_ (fun E' hE => ?_) (fun _ h => h) (fun _ h => h) (fun _ h => h))
  · refine S_asg (Nat.le_of_ble_eq_true rfl) ?_
    refine W_orV ?_
    refine W_op ?_
    refine W_var rfl ?_
    refine W_int ?_
    refine WR_lt ?_
    refine ⟨_, rfl, fun hb => ?_, fun hb => ?_⟩
    · exact ⟨_, rfl⟩
    · refine W_op ?_
      refine W_var rfl ?_
      refine W_op ?_
      refine W_int ?_
      refine W_int ?_
      refine WR_pow ⟨by decide, by decide, by decide⟩ ?_
      refine WR_ge ?_
      exact ⟨_, rfl⟩
  obtain ⟨b, rfl⟩ := hE
  refine SM_ret ?_
  refine WM_lst ?_
  refine WA_cons ?_
  refine W.imp (Φ := fun d => ∃ i : Int, d = .int i) ?_ ?_
  · refine W_if ?_
    refine WT_B ?_
    refine W_var rfl ?_
    refine ⟨_, rfl, fun hb => ?_, fun hb => ?_⟩
    · refine W_cb ?_
      refine WA_cons ?_
      refine W_var rfl ?_
      refine WA_nil ?_
      refine WC_abs ?_
      exact ⟨_, rfl⟩
    · refine W_int ?_
      exact ⟨_, rfl⟩
  rintro _ ⟨i, rfl⟩
  refine WA_cons ?_
  refine W_op ?_
  refine W_cb ?_
  refine WA_cons ?_
  refine W_op ?_
  refine W_op ?_
  refine W_op ?_
  refine W_var rfl ?_
  refine W_int ?_
  refine WR_mulS (by walk_at "muls") ?_
  refine W_op ?_
  refine W_op ?_
  refine W_cb ?_
  refine WA_cons ?_
  refine W_var rfl ?_
  refine WA_nil ?_
  refine WC_int ?_
  refine W_int ?_
  refine WR_mod (by decide) ?_
  refine W_int ?_
  refine WR_mulS (by walk_at "muls") ?_
  refine WR_add ?_
  refine W_int ?_
  refine WR_add ?_
  refine WA_nil ?_
  refine WC_int ?_
  refine W_int ?_
  refine WR_mod (by decide) ?_
  refine WA_cons ?_
  refine W_int ?_
  refine WA_nil ?_
  exact ⟨szl_of rfl, _, _, _, rfl⟩
theorem sc__law_dip : FnScope ["pail", "many", "figure", "one"] ["pail", "many"] (defScope s__law_dip) := ⟨rfl, rfl, rfl, by decide +kernel, rfl, by decide +kernel, by decide +kernel⟩
theorem ok__law_dip {P : Program} {w : World} {K : PySem.W.Frag} {mg : Str → Option Value} {base : Heap} (T : Txt K mg) :
    ∃ fd, FnG P w K mg base CX0 1 (He.ga K "_law_dip") fd ["pail", "many"] (spP (ι := Int) K 2 (fun i => [.int i]) (fun i => 0 < i ∧ i < 1073741824) (fun i d => ∃ r : Int, d = .int r ∧ 0 ≤ r ∧ r < i)) ∧ FunD K "_law_dip" "_law_dip" (defArgs s__law_dip) (defBody s__law_dip) (defScope s__law_dip) [] [] (He.ga K "_law_dip") fd := by
  obtain ⟨fd, F⟩ := T.f__law_dip
  refine ⟨fd, FnG.of F sc__law_dip (fun vs H Q E h => h.1) (fun cdv A outer s H vs Q E hr hg h => ⟨_, PSs.nox (pss_cons (ps_if (pt_cmpR op_gt (pe_ix ix_list (pv 0) pe_int (fun _ _ => rfl)) pe_int (nomark _)) (pss_cons (ps_asg (pe_callB cr_divmod rfl T.b_divmod (by decide +kernel) (pa_cons (pe_ix ix_list (pv 0) pe_int (fun _ _ => rfl)) (pa_cons (pv 1) pa_nil))) (pg_tup rfl (pgs_cons (pg_sub (pv 0) pe_int set_list) (pgs_cons (pg_name (i := 2) sc__law_dip.nd rfl (Or.inl rfl)) pgs_nil)))) (pss_one (ps_ret (pv 2)))) pss_nil) (pss_cons (ps_asg (pe_op op_add (pe_ix ix_list (pv 0) pe_int (fun _ _ => rfl)) pe_int) (pg_sub (pv 0) pe_int set_list)) (pss_cons (ps_set (i := 3) sc__law_dip.nd rfl (Or.inl rfl) (pe_op op_mod (pe_callTy cr_int rfl T.b_int (by decide +kernel) (pa_cons (pe_op op_add (pe_op op_mul (pe_ix ix_list (pv 0) pe_int (fun _ _ => rfl)) pe_int) (pe_op op_mul (pe_ix ix_list (pv 0) pe_int (fun _ _ => rfl)) pe_int)) pa_nil)) pe_int)) (pss_cons (ps_asg (pe_op op_mod (pe_callTy cr_int rfl T.b_int (by decide +kernel) (pa_cons (pe_op op_add (pe_op op_mul (pv 3) (pe_op op_add (pe_op op_fdivX (pv 3) pe_int) (pe_op op_mul pe_int (pe_ix ix_list (pv 0) pe_int (fun _ _ => rfl))))) pe_int) pa_nil)) pe_int) (pg_sub (pv 0) pe_int set_list)) (pss_one (ps_ret (pe_op op_mod (pe_callTy cr_int rfl T.b_int (by decide +kernel) (pa_cons (pe_op op_fdivX (pe_ix ix_list (pv 0) pe_int (fun _ _ => rfl)) pe_int) pa_nil)) (pv 1)))))))), ?_⟩), F⟩
  refine body_P 2 rfl h fun a many hp hn => ?_
  obtain ⟨hm0, hm1⟩ := hp
  try dsimp only at *
  refine S_seq ?_
  refine S_if ?_
  refine WT_test ?_
  refine W_op ?_
  refine W_pail (by decide) rfl fun x => ?_
  refine W_int ?_
  refine WR_gt ?_
  refine ⟨_, rfl, ?_⟩
  refine ⟨fun hb1 => ?_, fun hb1 => ?_⟩
  · refine S_seq ?_
    refine S_pailP (by decide) rfl (Nat.le_of_ble_eq_true rfl) ?_
    refine W_cb ?_
    refine WA_cons ?_
    refine W_pail (by decide) rfl fun y => ?_
    refine WA_cons ?_
    refine W_var rfl ?_
    refine WA_nil ?_
    refine WC_divmod ⟨hm0, hm1⟩ ?_
    refine ⟨_, _, rfl, ?_⟩
    refine S_ret ?_
    refine W_var rfl ?_
    exact ⟨_, rfl, Int.emod_nonneg _ (by omega), Int.emod_lt_of_pos _ hm0⟩
  · refine S_next ?_
    refine S_seq ?_
    refine S_pail (by decide) rfl ?_
    refine W_op ?_
    refine W_pail (by decide) rfl fun y => ?_
    refine W_int ?_
    refine WR_add ?_
    refine ⟨_, rfl, ?_⟩
    refine S_seq ?_
    refine S_asg (Nat.le_of_ble_eq_true rfl) ?_
    refine W_op ?_
    refine W_cb ?_
    refine WA_cons ?_
    refine W_op ?_
    refine W_op ?_
    refine W_pail (by decide) rfl fun u => ?_
    refine W_int ?_
    refine WR_mulS (by walk_at "muls") ?_
    refine W_op ?_
    refine W_pail (by decide) rfl fun v => ?_
    refine W_int ?_
    refine WR_mulS (by walk_at "muls") ?_
    refine WR_add ?_
    refine WA_nil ?_
    refine WC_int ?_
    refine W_int ?_
    refine WR_mod (by decide) ?_
    generalize hone : (u * 48271 + v * 69621) % 2147483629 = one
    have h1 : 0 ≤ one := by rw [← hone]; exact Int.emod_nonneg _ (by decide)
    have h2 : one < 2147483629 := by rw [← hone]; exact Int.emod_lt_of_pos _ (by decide)
    refine S_seq ?_
    refine S_pail (by decide) rfl ?_
    refine W_op ?_
    refine W_cb ?_
    refine WA_cons ?_
    refine W_op ?_
    refine W_op ?_
    refine W_var rfl ?_
    refine W_op ?_
    refine W_op ?_
    refine W_var rfl ?_
    refine W_int ?_
    refine WR_div ⟨by decide, by decide +kernel⟩ ?_
    refine W_op ?_
    refine W_int ?_
    refine W_pail (by decide) rfl fun z => ?_
    refine WR_mulS (by walk_at "muls") ?_
    refine WR_add ?_
    refine WR_mulS (by walk_at "muls") ?_
    refine W_int ?_
    refine WR_add ?_
    refine WA_nil ?_
    refine WC_int ?_
    refine W_int ?_
    refine WR_mod (by decide) ?_
    refine ⟨_, rfl, ?_⟩
    refine S_ret ?_
    refine W_op ?_
    refine W_cb ?_
    refine WA_cons ?_
    refine W_op ?_
    refine W_pail (by decide) rfl fun w => ?_
    refine W_int ?_
    refine WR_div ⟨by decide, by decide +kernel⟩ ?_
    refine WA_nil ?_
    refine WC_int ?_
    refine W_var rfl ?_
    refine WR_mod hm0 ?_
    exact ⟨_, rfl, Int.emod_nonneg _ (by omega), Int.emod_lt_of_pos _ hm0⟩
theorem sc__law_gcd : FnScope ["a", "b"] ["a", "b"] (defScope s__law_gcd) := ⟨rfl, rfl, rfl, by decide +kernel, rfl, by decide +kernel, by decide +kernel⟩
theorem ok__law_gcd {P : Program} {w : World} {K : PySem.W.Frag} {mg : Str → Option Value} {base : Heap} (T : Txt K mg) :
    ∃ fd, FnG P w K mg base CX0 1 (He.ga K "_law_gcd") fd ["a", "b"] (spD (ι := Int × Int) K 2 (fun i => [.int i.1, .int i.2]) (fun _ => True) (fun i d => d = .int ((Nat.gcd i.1.natAbs i.2.natAbs : Nat) : Int))) ∧ FunD K "_law_gcd" "_law_gcd" (defArgs s__law_gcd) (defBody s__law_gcd) (defScope s__law_gcd) [] [] (He.ga K "_law_gcd") fd := by
  obtain ⟨fd, F⟩ := T.f__law_gcd
  refine ⟨fd, FnG.of F sc__law_gcd (fun vs H Q E h => h.1) (fun cdv A outer s H vs Q E hr hg h => ⟨_, PSs.nox (pss_cons (ps_par (i := 0) (j := 1) rfl sc__law_gcd.nd rfl rfl (by decide) rfl rfl (pa_cons (pe_callB cr_abs rfl T.b_abs (by decide +kernel) (pa_cons (pv 0) pa_nil)) (pa_cons (pe_callB cr_abs rfl T.b_abs (by decide +kernel) (pa_cons (pv 1) pa_nil)) pa_nil)) rfl) (pss_cons (ps_while PassesOwn.never (pt_cmpR op_gt (pv 1) pe_int (nomark _)) (pss_one (ps_par (i := 0) (j := 1) rfl sc__law_gcd.nd rfl rfl (by decide) rfl rfl (pa_cons (pv 1) (pa_cons (pe_op op_mod (pe_callTy cr_int rfl T.b_int (by decide +kernel) (pa_cons (pv 0) pa_nil)) (pv 1)) pa_nil)) rfl))) (pss_one (ps_ret (pv 0))))), ?_⟩), F⟩
  refine body_D 0 rfl h fun p i _ hn => ?_
  obtain ⟨a, b⟩ := i
  try dsimp only at *
  refine S_seq ?_
  refine S_par (Nat.le_of_ble_eq_true rfl) (Nat.le_of_ble_eq_true rfl) ?_
  refine WA_cons ?_
  refine W_cb ?_
  refine WA_cons ?_
  refine W_var rfl ?_
  refine WA_nil ?_
  refine WC_abs ?_
  refine WA_cons ?_
  refine W_cb ?_
  refine WA_cons ?_
  refine W_var rfl ?_
  refine WA_nil ?_
  refine WC_abs ?_
  refine WA_nil ?_
  refine ⟨_, _, rfl, ?_⟩
  refine S_cut (M := fun E' => E' = [.d (.int ((Nat.gcd a.natAbs b.natAbs : Nat) : Int)), .d (.int 0)]) ?_ fun E' hE => ?_
  · refine S_while (fun m E' => ∃ x y : Nat, E' = [.d (.int x), .d (.int y)] ∧ Nat.gcd x y = Nat.gcd a.natAbs b.natAbs ∧ m = y) b.natAbs ?_ ?_
    · exact ⟨a.natAbs, b.natAbs, by rw [(gcd_start a b).1, (gcd_start a b).2]; rfl, rfl, rfl⟩
    · rintro m E' ⟨x, y, rfl, hg, rfl⟩
      refine WT_test ?_
      refine W_op ?_
      refine W_var rfl ?_
      refine W_int ?_
      refine WR_gt ?_
      refine ⟨_, rfl, ?_⟩
      refine ⟨fun hb => ?_, fun hb => ?_⟩
      · have hy : (0 : Int) < (m : Int) := of_decide_eq_true hb
        refine S_par (Nat.le_of_ble_eq_true rfl) (Nat.le_of_ble_eq_true rfl) ?_
        refine WA_cons ?_
        refine W_var rfl ?_
        refine WA_cons ?_
        refine W_op ?_
        refine W_cb ?_
        refine WA_cons ?_
        refine W_var rfl ?_
        refine WA_nil ?_
        refine WC_int ?_
        refine W_var rfl ?_
        refine WR_mod hy ?_
        refine WA_nil ?_
        refine ⟨_, _, rfl, x % m, Nat.mod_lt _ (by omega), m, x % m, rfl, ?_, rfl⟩
        rw [← hg, Nat.gcd_comm x m, Nat.gcd_rec m x, Nat.gcd_comm]
      · have hy : m = 0 := by
          have z := of_decide_eq_false hb
          omega
        subst hy
        rw [Nat.gcd_zero_right] at hg
        rw [hg]
        rfl
  · subst hE
    refine S_ret ?_
    refine W_var rfl ?_
    rfl
theorem sc__law_bent : FnScope ["x"] ["x"] (defScope s__law_bent) := ⟨rfl, rfl, rfl, by decide +kernel, rfl, by decide +kernel, by decide +kernel⟩
theorem ok__law_bent {P : Program} {w : World} {K : PySem.W.Frag} {mg : Str → Option Value} {base : Heap} (T : Txt K mg) :
    ∃ fd, FnG P w K mg base CX0 1 (He.ga K "_law_bent") fd ["x"] (spD (ι := PyData × Cn) K 1 (fun i => [i.1]) (fun i => Tr 300 i.2 i.1) (fun i d => Tr 300 i.2.conj d)) ∧ FunD K "_law_bent" "_law_bent" (defArgs s__law_bent) (defBody s__law_bent) (defScope s__law_bent) [] [] (He.ga K "_law_bent") fd := by
  obtain ⟨fd, F⟩ := T.f__law_bent
  refine ⟨fd, FnG.of F sc__law_bent (fun vs H Q E h => h.1) (fun cdv A outer s H vs Q E hr hg h => ⟨_, PSs.nox (pss_one (ps_ret (pe_tup (pa_cons (pe_ix ix_tup (pv 0) pe_int (fun _ _ => rfl)) (pa_cons (pe_op op_sub pe_int (pe_ix ix_tup (pv 0) pe_int (fun _ _ => rfl))) (pa_cons (pe_ix ix_tup (pv 0) pe_int (fun _ _ => rfl)) pa_nil)))))), ?_⟩), F⟩
  refine body_D 0 rfl h fun p i hp hn => ?_
  obtain ⟨_, _⟩ := i
  obtain ⟨a, b, c, rfl, h0, ha, hb, hc, rfl⟩ := hp
  try dsimp only at *
  refine S_ret ?_
  refine W_tup ?_
  refine WA_cons ?_
  refine W_op ?_
  refine W_var rfl ?_
  refine W_int ?_
  refine WR_ixT rfl ?_
  refine WA_cons ?_
  refine W_op ?_
  refine W_int ?_
  refine W_op ?_
  refine W_var rfl ?_
  refine W_int ?_
  refine WR_ixT rfl ?_
  refine WR_sub ?_
  refine WA_cons ?_
  refine W_op ?_
  refine W_var rfl ?_
  refine W_int ?_
  refine WR_ixT rfl ?_
  refine WA_nil ?_
  refine ⟨szl_of rfl, ?_⟩
  exact tr_bent a b c h0 ha hb hc
theorem sc_fraction_plus : FnScope ["x", "y"] ["x", "y"] (defScope s_fraction_plus) := ⟨rfl, rfl, rfl, by decide +kernel, rfl, by decide +kernel, by decide +kernel⟩
theorem ok_fraction_plus {P : Program} {w : World} {K : PySem.W.Frag} {mg : Str → Option Value} {base : Heap} (T : Txt K mg) :
    ∃ fd, FnG P w K mg base CX0 2 (He.ga K "fraction_plus") fd ["x", "y"] (spD (ι := Rat × Rat) K 2 (fun i => [fr i.1, fr i.2]) (fun i => Rs 3000 i.1 ∧ Rs 3000 i.2) (fun i d => d = fr (i.1 + i.2))) ∧ FunD K "fraction_plus" "fraction_plus" (defArgs s_fraction_plus) (defBody s_fraction_plus) (defScope s_fraction_plus) [] [] (He.ga K "fraction_plus") fd := by
  obtain ⟨fd, F⟩ := T.f_fraction_plus
  obtain ⟨fd_reduced, G_reduced, F_reduced⟩ := ok_reduced (P := P) (w := w) (base := base) T
  have B_reduced := F_reduced.bindsN (ps := ["n", "m"]) fun _ _ _ _ _ _ us hl => match us, hl with | [_, _], _ => rfl
  refine ⟨fd, FnG.of F sc_fraction_plus (fun vs H Q E h => h.1) (fun cdv A outer s H vs Q E hr hg h => ⟨_, PSs.nox (pss_one (ps_ret (pe_callG G_reduced (hr.mono (by decide)) hg rfl T.g_reduced F_reduced.kp B_reduced .nil pass0 (pa_cons (pe_op op_add (pe_op op_mulX (pe_ix ix_tup (pv 0) pe_int (fun _ _ => rfl)) (pe_ix ix_tup (pv 1) pe_int (fun _ _ => rfl))) (pe_op op_mulX (pe_ix ix_tup (pv 1) pe_int (fun _ _ => rfl)) (pe_ix ix_tup (pv 0) pe_int (fun _ _ => rfl)))) (pa_cons (pe_op op_mulX (pe_ix ix_tup (pv 0) pe_int (fun _ _ => rfl)) (pe_ix ix_tup (pv 1) pe_int (fun _ _ => rfl))) pa_nil))))), ?_⟩), F⟩
  refine body_D 0 rfl h fun p i hp hn => ?_
  obtain ⟨x, y⟩ := i
  obtain ⟨hx, hy⟩ := hp
  try dsimp only at *
  refine S_ret ?_
  refine W_call ?_
  refine WA_cons ?_
  refine W_op ?_
  refine W_op ?_
  refine W_op ?_
  refine W_var rfl ?_
  refine W_int ?_
  refine WR_ixT rfl ?_
  refine W_op ?_
  refine W_var rfl ?_
  refine W_int ?_
  refine WR_ixT rfl ?_
  refine WR_mul (by walk_at "bits") ?_
  refine W_op ?_
  refine W_op ?_
  refine W_var rfl ?_
  refine W_int ?_
  refine WR_ixT rfl ?_
  refine W_op ?_
  refine W_var rfl ?_
  refine W_int ?_
  refine WR_ixT rfl ?_
  refine WR_mul (by walk_at "bits") ?_
  refine WR_add ?_
  refine WA_cons ?_
  refine W_op ?_
  refine W_op ?_
  refine W_var rfl ?_
  refine W_int ?_
  refine WR_ixT rfl ?_
  refine W_op ?_
  refine W_var rfl ?_
  refine W_int ?_
  refine WR_ixT rfl ?_
  refine WR_mul (by walk_at "bits") ?_
  refine WA_nil ?_
  refine ⟨(_, _), rfl, rfl, by exact ⟨by walk_at "nz", by walk_at "bdm"⟩, ?_⟩
  rintro _ rfl
  exact congrArg fr (q_add x y)
theorem sc_fraction_less : FnScope ["x", "y"] ["x", "y"] (defScope s_fraction_less) := ⟨rfl, rfl, rfl, by decide +kernel, rfl, by decide +kernel, by decide +kernel⟩
theorem ok_fraction_less {P : Program} {w : World} {K : PySem.W.Frag} {mg : Str → Option Value} {base : Heap} (T : Txt K mg) :
    ∃ fd, FnG P w K mg base CX0 2 (He.ga K "fraction_less") fd ["x", "y"] (spD (ι := Rat × Rat) K 2 (fun i => [fr i.1, fr i.2]) (fun i => Rs 3000 i.1 ∧ Rs 3000 i.2) (fun i d => d = fr (i.1 - i.2))) ∧ FunD K "fraction_less" "fraction_less" (defArgs s_fraction_less) (defBody s_fraction_less) (defScope s_fraction_less) [] [] (He.ga K "fraction_less") fd := by
  obtain ⟨fd, F⟩ := T.f_fraction_less
  obtain ⟨fd_reduced, G_reduced, F_reduced⟩ := ok_reduced (P := P) (w := w) (base := base) T
  have B_reduced := F_reduced.bindsN (ps := ["n", "m"]) fun _ _ _ _ _ _ us hl => match us, hl with | [_, _], _ => rfl
  refine ⟨fd, FnG.of F sc_fraction_less (fun vs H Q E h => h.1) (fun cdv A outer s H vs Q E hr hg h => ⟨_, PSs.nox (pss_one (ps_ret (pe_callG G_reduced (hr.mono (by decide)) hg rfl T.g_reduced F_reduced.kp B_reduced .nil pass0 (pa_cons (pe_op op_sub (pe_op op_mulX (pe_ix ix_tup (pv 0) pe_int (fun _ _ => rfl)) (pe_ix ix_tup (pv 1) pe_int (fun _ _ => rfl))) (pe_op op_mulX (pe_ix ix_tup (pv 1) pe_int (fun _ _ => rfl)) (pe_ix ix_tup (pv 0) pe_int (fun _ _ => rfl)))) (pa_cons (pe_op op_mulX (pe_ix ix_tup (pv 0) pe_int (fun _ _ => rfl)) (pe_ix ix_tup (pv 1) pe_int (fun _ _ => rfl))) pa_nil))))), ?_⟩), F⟩
  refine body_D 0 rfl h fun p i hp hn => ?_
  obtain ⟨x, y⟩ := i
  obtain ⟨hx, hy⟩ := hp
  try dsimp only at *
  refine S_ret ?_
  refine W_call ?_
  refine WA_cons ?_
  refine W_op ?_
  refine W_op ?_
  refine W_op ?_
  refine W_var rfl ?_
  refine W_int ?_
  refine WR_ixT rfl ?_
  refine W_op ?_
  refine W_var rfl ?_
  refine W_int ?_
  refine WR_ixT rfl ?_
  refine WR_mul (by walk_at "bits") ?_
  refine W_op ?_
  refine W_op ?_
  refine W_var rfl ?_
  refine W_int ?_
  refine WR_ixT rfl ?_
  refine W_op ?_
  refine W_var rfl ?_
  refine W_int ?_
  refine WR_ixT rfl ?_
  refine WR_mul (by walk_at "bits") ?_
  refine WR_sub ?_
  refine WA_cons ?_
  refine W_op ?_
  refine W_op ?_
  refine W_var rfl ?_
  refine W_int ?_
  refine WR_ixT rfl ?_
  refine W_op ?_
  refine W_var rfl ?_
  refine W_int ?_
  refine WR_ixT rfl ?_
  refine WR_mul (by walk_at "bits") ?_
  refine WA_nil ?_
  refine ⟨(_, _), rfl, rfl, by exact ⟨by walk_at "nz", by walk_at "bdm"⟩, ?_⟩
  rintro _ rfl
  exact congrArg fr (q_sub x y)
theorem sc_fraction_times : FnScope ["x", "y"] ["x", "y"] (defScope s_fraction_times) := ⟨rfl, rfl, rfl, by decide +kernel, rfl, by decide +kernel, by decide +kernel⟩
theorem ok_fraction_times {P : Program} {w : World} {K : PySem.W.Frag} {mg : Str → Option Value} {base : Heap} (T : Txt K mg) :
    ∃ fd, FnG P w K mg base CX0 2 (He.ga K "fraction_times") fd ["x", "y"] (spD (ι := Rat × Rat) K 2 (fun i => [fr i.1, fr i.2]) (fun i => Rs 3000 i.1 ∧ Rs 3000 i.2) (fun i d => d = fr (i.1 * i.2))) ∧ FunD K "fraction_times" "fraction_times" (defArgs s_fraction_times) (defBody s_fraction_times) (defScope s_fraction_times) [] [] (He.ga K "fraction_times") fd := by
  obtain ⟨fd, F⟩ := T.f_fraction_times
  obtain ⟨fd_reduced, G_reduced, F_reduced⟩ := ok_reduced (P := P) (w := w) (base := base) T
  have B_reduced := F_reduced.bindsN (ps := ["n", "m"]) fun _ _ _ _ _ _ us hl => match us, hl with | [_, _], _ => rfl
  refine ⟨fd, FnG.of F sc_fraction_times (fun vs H Q E h => h.1) (fun cdv A outer s H vs Q E hr hg h => ⟨_, PSs.nox (pss_one (ps_ret (pe_callG G_reduced (hr.mono (by decide)) hg rfl T.g_reduced F_reduced.kp B_reduced .nil pass0 (pa_cons (pe_op op_mulX (pe_ix ix_tup (pv 0) pe_int (fun _ _ => rfl)) (pe_ix ix_tup (pv 1) pe_int (fun _ _ => rfl))) (pa_cons (pe_op op_mulX (pe_ix ix_tup (pv 0) pe_int (fun _ _ => rfl)) (pe_ix ix_tup (pv 1) pe_int (fun _ _ => rfl))) pa_nil))))), ?_⟩), F⟩
  refine body_D 0 rfl h fun p i hp hn => ?_
  obtain ⟨x, y⟩ := i
  obtain ⟨hx, hy⟩ := hp
  try dsimp only at *
  refine S_ret ?_
  refine W_call ?_
  refine WA_cons ?_
  refine W_op ?_
  refine W_op ?_
  refine W_var rfl ?_
  refine W_int ?_
  refine WR_ixT rfl ?_
  refine W_op ?_
  refine W_var rfl ?_
  refine W_int ?_
  refine WR_ixT rfl ?_
  refine WR_mul (by walk_at "bits") ?_
  refine WA_cons ?_
  refine W_op ?_
  refine W_op ?_
  refine W_var rfl ?_
  refine W_int ?_
  refine WR_ixT rfl ?_
  refine W_op ?_
  refine W_var rfl ?_
  refine W_int ?_
  refine WR_ixT rfl ?_
  refine WR_mul (by walk_at "bits") ?_
  refine WA_nil ?_
  refine ⟨(_, _), rfl, rfl, by exact ⟨by walk_at "nz", by walk_at "bdm"⟩, ?_⟩
  rintro _ rfl
  exact congrArg fr (q_mul x y)
theorem sc_number_from : FnScope ["x", "y", "m"] ["x", "y", "m"] (defScope s_number_from) := ⟨rfl, rfl, rfl, by decide +kernel, rfl, by decide +kernel, by decide +kernel⟩
theorem ok_number_from {P : Program} {w : World} {K : PySem.W.Frag} {mg : Str → Option Value} {base : Heap} (T : Txt K mg) :
    ∃ fd, FnG P w K mg base CX0 2 (He.ga K "number_from") fd ["x", "y", "m"] (spD (ι := Int × Int × Int) K 3 (fun i => [.int i.1, .int i.2.1, .int i.2.2]) (fun i => i.2.2 ≠ 0 ∧ Bd 8000 i.2.2) (fun i d => d = nm ⟨qd i.1 i.2.2, qd i.2.1 i.2.2⟩)) ∧ FunD K "number_from" "number_from" (defArgs s_number_from) (defBody s_number_from) (defScope s_number_from) [] [] (He.ga K "number_from") fd := by
  obtain ⟨fd, F⟩ := T.f_number_from
  obtain ⟨fd_reduced, G_reduced, F_reduced⟩ := ok_reduced (P := P) (w := w) (base := base) T
  have B_reduced := F_reduced.bindsN (ps := ["n", "m"]) fun _ _ _ _ _ _ us hl => match us, hl with | [_, _], _ => rfl
  refine ⟨fd, FnG.of F sc_number_from (fun vs H Q E h => h.1) (fun cdv A outer s H vs Q E hr hg h => ⟨_, PSs.nox (pss_one (ps_ret (pe_tup (pa_cons (pe_callG G_reduced (hr.mono (by decide)) hg rfl T.g_reduced F_reduced.kp B_reduced .nil pass0 (pa_cons (pv 0) (pa_cons (pv 2) pa_nil))) (pa_cons (pe_callG G_reduced (hr.mono (by decide)) hg rfl T.g_reduced F_reduced.kp B_reduced .nil pass0 (pa_cons (pv 1) (pa_cons (pv 2) pa_nil))) pa_nil))))), ?_⟩), F⟩
  refine body_D 0 rfl h fun p i hp hn => ?_
  obtain ⟨x, y, m⟩ := i
  obtain ⟨h0, hb⟩ := hp
  try dsimp only at *
  refine S_ret ?_
  refine W_tup ?_
  refine WA_cons ?_
  refine W_call ?_
  refine WA_cons ?_
  refine W_var rfl ?_
  refine WA_cons ?_
  refine W_var rfl ?_
  refine WA_nil ?_
  refine ⟨(_, _), rfl, rfl, by exact ⟨by walk_at "nz", by walk_at "bdm"⟩, ?_⟩
  rintro _ rfl
  refine WA_cons ?_
  refine W_call ?_
  refine WA_cons ?_
  refine W_var rfl ?_
  refine WA_cons ?_
  refine W_var rfl ?_
  refine WA_nil ?_
  refine ⟨(_, _), rfl, rfl, by exact ⟨by walk_at "nz", by walk_at "bdm"⟩, ?_⟩
  rintro _ rfl
  refine WA_nil ?_
  refine ⟨szl_of rfl, ?_⟩
  rfl
theorem sc_size_of : FnScope ["x", "a", "p", "b", "q"] ["x"] (defScope s_size_of) := ⟨rfl, rfl, rfl, by decide +kernel, rfl, by decide +kernel, by decide +kernel⟩
theorem ok_size_of {P : Program} {w : World} {K : PySem.W.Frag} {mg : Str → Option Value} {base : Heap} (T : Txt K mg) :
    ∃ fd, FnG P w K mg base CX0 2 (He.ga K "size_of") fd ["x"] (spD (ι := Cn) K 1 (fun i => [nm i]) (fun i => Cs 1000 i) (fun i d => d = fr i.nsq)) ∧ FunD K "size_of" "size_of" (defArgs s_size_of) (defBody s_size_of) (defScope s_size_of) [] [] (He.ga K "size_of") fd := by
  obtain ⟨fd, F⟩ := T.f_size_of
  obtain ⟨fd_reduced, G_reduced, F_reduced⟩ := ok_reduced (P := P) (w := w) (base := base) T
  have B_reduced := F_reduced.bindsN (ps := ["n", "m"]) fun _ _ _ _ _ _ us hl => match us, hl with | [_, _], _ => rfl
  refine ⟨fd, FnG.of F sc_size_of (fun vs H Q E h => h.1) (fun cdv A outer s H vs Q E hr hg h => ⟨_, PSs.nox (pss_cons (ps_asg (pv 0) (pg_tup rfl (pgs_cons (pg_tup rfl (pgs_cons (pg_name (i := 1) sc_size_of.nd rfl (Or.inl rfl)) (pgs_cons (pg_name (i := 2) sc_size_of.nd rfl (Or.inl rfl)) pgs_nil))) (pgs_cons (pg_tup rfl (pgs_cons (pg_name (i := 3) sc_size_of.nd rfl (Or.inl rfl)) (pgs_cons (pg_name (i := 4) sc_size_of.nd rfl (Or.inl rfl)) pgs_nil))) pgs_nil)))) (pss_cons (ps_par (i := 1) (j := 3) rfl sc_size_of.nd rfl rfl (by decide) rfl rfl (pa_cons (pe_op op_mulX (pv 1) (pv 4)) (pa_cons (pe_op op_mulX (pv 3) (pv 2)) pa_nil)) rfl) (pss_one (ps_ret (pe_callG G_reduced (hr.mono (by decide)) hg rfl T.g_reduced F_reduced.kp B_reduced .nil pass0 (pa_cons (pe_op op_add (pe_op op_mulX (pv 1) (pv 1)) (pe_op op_mulX (pv 3) (pv 3))) (pa_cons (pe_op op_mulX (pe_op op_mulX (pe_op op_mulX (pv 2) (pv 2)) (pv 4)) (pv 4)) pa_nil))))))), ?_⟩), F⟩
  refine body_D 4 rfl h fun p x hx hn => ?_
  try dsimp only at *
  refine S_seq ?_
  refine S_asgG ?_
  refine W_var rfl ?_
  refine TG_tup rfl ?_
  refine TGs_cons ?_
  refine TG_tup rfl ?_
  refine TGs_cons ?_
  refine TG_name (Nat.le_of_ble_eq_true rfl) ?_
  refine TGs_cons ?_
  refine TG_name (Nat.le_of_ble_eq_true rfl) ?_
  refine TGs_nil ?_
  refine TGs_cons ?_
  refine TG_tup rfl ?_
  refine TGs_cons ?_
  refine TG_name (Nat.le_of_ble_eq_true rfl) ?_
  refine TGs_cons ?_
  refine TG_name (Nat.le_of_ble_eq_true rfl) ?_
  refine TGs_nil ?_
  refine TGs_nil ?_
  refine S_env (by walk_at "env") ?_
  refine S_seq ?_
  refine S_par (Nat.le_of_ble_eq_true rfl) (Nat.le_of_ble_eq_true rfl) ?_
  refine WA_cons ?_
  refine W_op ?_
  refine W_var rfl ?_
  refine W_var rfl ?_
  refine WR_mul (by walk_at "bits") ?_
  refine WA_cons ?_
  refine W_op ?_
  refine W_var rfl ?_
  refine W_var rfl ?_
  refine WR_mul (by walk_at "bits") ?_
  refine WA_nil ?_
  refine ⟨_, _, rfl, ?_⟩
  refine S_env (by walk_at "env") ?_
  refine S_ret ?_
  refine W_call ?_
  refine WA_cons ?_
  refine W_op ?_
  refine W_op ?_
  refine W_var rfl ?_
  refine W_var rfl ?_
  refine WR_mul (by walk_at "bits") ?_
  refine W_op ?_
  refine W_var rfl ?_
  refine W_var rfl ?_
  refine WR_mul (by walk_at "bits") ?_
  refine WR_add ?_
  refine WA_cons ?_
  refine W_op ?_
  refine W_op ?_
  refine W_op ?_
  refine W_var rfl ?_
  refine W_var rfl ?_
  refine WR_mul (by walk_at "bits") ?_
  refine W_var rfl ?_
  refine WR_mul (by walk_at "bits") ?_
  refine W_var rfl ?_
  refine WR_mul (by walk_at "bits") ?_
  refine WA_nil ?_
  refine ⟨(_, _), rfl, rfl, by exact ⟨by walk_at "nz", by walk_at "bdm"⟩, ?_⟩
  rintro _ rfl
  exact congrArg fr (c_nsq x)
theorem sc_is_fraction : FnScope ["value", "n", "m"] ["value"] (defScope s_is_fraction) := ⟨rfl, rfl, rfl, by decide +kernel, rfl, by decide +kernel, by decide +kernel⟩
theorem ok_is_fraction {P : Program} {w : World} {K : PySem.W.Frag} {mg : Str → Option Value} {base : Heap} (T : Txt K mg) :
    ∃ fd, FnG P w K mg base CX0 2 (He.ga K "is_fraction") fd ["value"] (spD (ι := PyData) K 1 (fun i => [i]) (fun _ => True) (fun i d => d = .bool (isFr i))) ∧ FunD K "is_fraction" "is_fraction" (defArgs s_is_fraction) (defBody s_is_fraction) (defScope s_is_fraction) [] [] (He.ga K "is_fraction") fd := by
  obtain ⟨fd, F⟩ := T.f_is_fraction
  obtain ⟨fd_is_whole, G_is_whole, F_is_whole⟩ := ok_is_whole (P := P) (w := w) (base := base) T
  have B_is_whole := F_is_whole.bindsN (ps := ["value"]) fun _ _ _ _ _ _ us hl => match us, hl with | [_], _ => rfl
  refine ⟨fd, FnG.of F sc_is_fraction (fun vs H Q E h => h.1) (fun cdv A outer s H vs Q E hr hg h => ⟨_, PSs.nox (pss_cons (ps_if (PW.pt (pw_or (pt_not (pt_val (pe_callB call_isi rfl T.b_isinstance (by decide +kernel) (pa_cons (pv 0) (pa_cons (pe_bltn (v := .ty "tuple") rfl T.b_tuple (by decide +kernel) rfl) pa_nil))))) (pw_or1 (pt_cmpR op_ne (pe_callB cr_len rfl T.b_len (by decide +kernel) (pa_cons (pv 0) pa_nil)) pe_int (nomark _))))) (pss_one (ps_ret pe_bl)) pss_nil) (pss_cons (ps_asg (pv 0) (pg_tup rfl (pgs_cons (pg_name (i := 1) sc_is_fraction.nd rfl (Or.inl rfl)) (pgs_cons (pg_name (i := 2) sc_is_fraction.nd rfl (Or.inl rfl)) pgs_nil)))) (pss_one (ps_ret (pe_and (pe_callG G_is_whole (hr.mono (by decide)) hg rfl T.g_is_whole F_is_whole.kp B_is_whole .nil pass0 (pa_cons (pv 1) pa_nil)) (pe_and (pe_callG G_is_whole (hr.mono (by decide)) hg rfl T.g_is_whole F_is_whole.kp B_is_whole .nil pass0 (pa_cons (pv 2) pa_nil)) (pe_and (pe_cmpR op_gt (pv 2) pe_int (nomark _)) (pe_one (pe_cmpR op_eq (pe_callBfun cr_gcd rfl T.i_gcd (pa_cons (pv 1) (pa_cons (pv 2) pa_nil))) pe_int (nomark _)))))))))), ?_⟩), F⟩
  refine body_D 2 rfl h fun p x _ hn => ?_
  try dsimp only at *
  refine S_seq ?_
  refine S_if ?_
  refine WT_or ?_
  refine WT_not ?_
  refine WT_B ?_
  refine W_isi ?_
  refine W_var rfl ?_
  refine ⟨_, kit_tuple _, ?_⟩
  refine ⟨_, rfl, ?_⟩
  refine ⟨fun hb1 => ⟨fun _ => ?_, fun z => Bool.noConfusion z⟩, fun hb1 => ?_⟩
  · refine S_ret ?_
    refine W_bl ?_
    exact congrArg PyData.bool (isFr_no x hb1).symm
  · obtain ⟨ds, rfl⟩ := tuple_of x hb1
    refine WT_test ?_
    refine W_op ?_
    refine W_cb ?_
    refine WA_cons ?_
    refine W_var rfl ?_
    refine WA_nil ?_
    refine WC_lenT ?_
    refine W_int ?_
    refine WR_neI ?_
    refine ⟨_, rfl, ?_⟩
    refine ⟨fun hb2 => ?_, fun hb2 => ?_⟩
    · refine S_ret ?_
      refine W_bl ?_
      exact congrArg PyData.bool (isFr_len ds hb2).symm
    · refine S_next ?_
      obtain ⟨a, b, rfl⟩ := two_of ds hb2
      refine S_seq ?_
      refine S_asgG ?_
      refine W_var rfl ?_
      refine TG_tup rfl ?_
      refine TGs_cons ?_
      refine TG_name (Nat.le_of_ble_eq_true rfl) ?_
      refine TGs_cons ?_
      refine TG_name (Nat.le_of_ble_eq_true rfl) ?_
      refine TGs_nil ?_
      refine S_ret ?_
      refine W_andV ?_
      refine W_call ?_
      refine WA_cons ?_
      refine W_var rfl ?_
      refine WA_nil ?_
      refine ⟨_, rfl, rfl, trivial, ?_⟩
      rintro _ rfl
      refine ⟨_, rfl, fun h1 => ?_, fun h1 => ?_⟩
      · obtain ⟨n, rfl⟩ := int_of a h1
        refine W_andV ?_
        refine W_call ?_
        refine WA_cons ?_
        refine W_var rfl ?_
        refine WA_nil ?_
        refine ⟨_, rfl, rfl, trivial, ?_⟩
        rintro _ rfl
        refine ⟨_, rfl, fun h2 => ?_, fun h2 => ?_⟩
        · obtain ⟨m, rfl⟩ := int_of b h2
          refine W_andV ?_
          refine W_op ?_
          refine W_var rfl ?_
          refine W_int ?_
          refine WR_gt ?_
          refine ⟨_, rfl, fun h3 => ?_, fun h3 => ?_⟩
          · refine W_op ?_
            refine W_cb ?_
            refine WA_cons ?_
            refine W_var rfl ?_
            refine WA_cons ?_
            refine W_var rfl ?_
            refine WA_nil ?_
            refine WC_gcd ?_
            refine W_int ?_
            refine WR_eqI ?_
            exact congrArg PyData.bool (isFr_yes n m h3).symm
          · exact congrArg PyData.bool (isFr_neg n m h3).symm
        · exact congrArg PyData.bool (isFr_snd _ b h2).symm
      · exact congrArg PyData.bool (isFr_fst a b h1).symm
theorem sc_need_whole : FnScope ["given"] ["given"] (defScope s_need_whole) := ⟨rfl, rfl, rfl, by decide +kernel, rfl, by decide +kernel, by decide +kernel⟩
theorem ok_need_whole {P : Program} {w : World} {K : PySem.W.Frag} {mg : Str → Option Value} {base : Heap} (T : Txt K mg) :
    ∃ fd, FnG P w K mg base CX0 2 (He.ga K "need_whole") fd ["given"] (spD (ι := Int) K 1 (fun i => [.int i]) (fun _ => True) (fun _ d => d = .none)) ∧ FunD K "need_whole" "need_whole" (defArgs s_need_whole) (defBody s_need_whole) (defScope s_need_whole) [] [] (He.ga K "need_whole") fd := by
  obtain ⟨fd, F⟩ := T.f_need_whole
  obtain ⟨fd_is_whole, G_is_whole, F_is_whole⟩ := ok_is_whole (P := P) (w := w) (base := base) T
  have B_is_whole := F_is_whole.bindsN (ps := ["value"]) fun _ _ _ _ _ _ us hl => match us, hl with | [_], _ => rfl
  refine ⟨fd, FnG.of F sc_need_whole (fun vs H Q E h => h.1) (fun cdv A outer s H vs Q E hr hg h => ⟨_, PSs.nox (pss_one (ps_if (pt_not (pt_val (pe_callG G_is_whole (hr.mono (by decide)) hg rfl T.g_is_whole F_is_whole.kp B_is_whole .nil pass0 (pa_cons (pv 0) pa_nil)))) (pss_one ps_never) pss_nil)), ?_⟩), F⟩
  refine body_D 0 rfl h fun p x hx hn => ?_
  try dsimp only at *
  refine S_if ?_
  refine WT_not ?_
  refine WT_B ?_
  refine W_call ?_
  refine WA_cons ?_
  refine W_var rfl ?_
  refine WA_nil ?_
  refine ⟨_, rfl, rfl, by trivial, ?_⟩
  rintro _ rfl
  refine ⟨_, rfl, ?_⟩
  refine ⟨fun hb1 => ?_, fun hb1 => ?_⟩
  · skip
    refine S_never ?_
    first
      | rfl
      | (rw [isW_int] at hb1; cases hb1)
  · skip
    refine S_next ?_
    first
      | rfl
      | (rw [isW_int] at hb1; cases hb1)
theorem sc_need_bottom : FnScope ["given"] ["given"] (defScope s_need_bottom) := ⟨rfl, rfl, rfl, by decide +kernel, rfl, by decide +kernel, by decide +kernel⟩
theorem ok_need_bottom {P : Program} {w : World} {K : PySem.W.Frag} {mg : Str → Option Value} {base : Heap} (T : Txt K mg) :
    ∃ fd, FnG P w K mg base CX0 2 (He.ga K "need_bottom") fd ["given"] (spD (ι := Int) K 1 (fun i => [.int i]) (fun i => i ≠ 0) (fun _ d => d = .none)) ∧ FunD K "need_bottom" "need_bottom" (defArgs s_need_bottom) (defBody s_need_bottom) (defScope s_need_bottom) [] [] (He.ga K "need_bottom") fd := by
  obtain ⟨fd, F⟩ := T.f_need_bottom
  obtain ⟨fd_is_whole, G_is_whole, F_is_whole⟩ := ok_is_whole (P := P) (w := w) (base := base) T
  have B_is_whole := F_is_whole.bindsN (ps := ["value"]) fun _ _ _ _ _ _ us hl => match us, hl with | [_], _ => rfl
  refine ⟨fd, FnG.of F sc_need_bottom (fun vs H Q E h => h.1) (fun cdv A outer s H vs Q E hr hg h => ⟨_, PSs.nox (pss_one (ps_if (PW.pt (pw_or (pt_not (pt_val (pe_callG G_is_whole (hr.mono (by decide)) hg rfl T.g_is_whole F_is_whole.kp B_is_whole .nil pass0 (pa_cons (pv 0) pa_nil)))) (pw_or1 (pt_cmpR op_eq (pv 0) pe_int (nomark _))))) (pss_one ps_never) pss_nil)), ?_⟩), F⟩
  refine body_D 0 rfl h fun p x hx hn => ?_
  try dsimp only at *
  refine S_if ?_
  refine WT_or ?_
  refine WT_not ?_
  refine WT_B ?_
  refine W_call ?_
  refine WA_cons ?_
  refine W_var rfl ?_
  refine WA_nil ?_
  refine ⟨_, rfl, rfl, by trivial, ?_⟩
  rintro _ rfl
  refine ⟨_, rfl, ?_⟩
  refine ⟨fun hb1 => ?_, fun hb1 => ?_⟩
  · skip
    refine ⟨fun hb2 => ?_, fun hb2 => ?_⟩
    · skip
      refine S_never ?_
      first
        | rfl
        | exact hx (of_decide_eq_true hb2)
        | exact hx (of_decide_eq_true hb1)
        | (rw [isW_int] at hb1; cases hb1)
    · skip
      refine S_next ?_
      first
        | rfl
        | exact hx (of_decide_eq_true hb2)
        | exact hx (of_decide_eq_true hb1)
        | (rw [isW_int] at hb1; cases hb1)
  · skip
    refine WT_test ?_
    refine W_op ?_
    refine W_var rfl ?_
    refine W_int ?_
    refine WR_eqI ?_
    refine ⟨_, rfl, ?_⟩
    refine ⟨fun hb2 => ?_, fun hb2 => ?_⟩
    · skip
      refine S_never ?_
      first
        | rfl
        | exact hx (of_decide_eq_true hb2)
        | exact hx (of_decide_eq_true hb1)
        | (rw [isW_int] at hb1; cases hb1)
    · skip
      refine S_next ?_
      first
        | rfl
        | exact hx (of_decide_eq_true hb2)
        | exact hx (of_decide_eq_true hb1)
        | (rw [isW_int] at hb1; cases hb1)
theorem sc__law_one_of : FnScope ["pail", "some"] ["pail", "some"] (defScope s__law_one_of) := ⟨rfl, rfl, rfl, by decide +kernel, rfl, by decide +kernel, by decide +kernel⟩
theorem ok__law_one_of {P : Program} {w : World} {K : PySem.W.Frag} {mg : Str → Option Value} {base : Heap} (T : Txt K mg) :
    ∃ fd, FnG P w K mg base CX0 2 (He.ga K "_law_one_of") fd ["pail", "some"] (spP (ι := List PyData) K 2 (fun i => [.list i]) (fun i => 0 < i.length ∧ i.length < 1000000) (fun i d => d ∈ i)) ∧ FunD K "_law_one_of" "_law_one_of" (defArgs s__law_one_of) (defBody s__law_one_of) (defScope s__law_one_of) [] [] (He.ga K "_law_one_of") fd := by
  obtain ⟨fd, F⟩ := T.f__law_one_of
  obtain ⟨fd__law_dip, G__law_dip, F__law_dip⟩ := ok__law_dip (P := P) (w := w) (base := base) T
  have B__law_dip := F__law_dip.bindsN (ps := ["pail", "many"]) fun _ _ _ _ _ _ us hl => match us, hl with | [_, _], _ => rfl
  refine ⟨fd, FnG.of F sc__law_one_of (fun vs H Q E h => h.1) (fun cdv A outer s H vs Q E hr hg h => ⟨_, PSs.nox (pss_one (ps_ret (pe_ix ix_list (pv 1) (pe_callG G__law_dip (hr.mono (by decide)) hg rfl T.g__law_dip F__law_dip.kp B__law_dip .nil pass0 (pa_cons (pv 0) (pa_cons (pe_callB cr_len rfl T.b_len (by decide +kernel) (pa_cons (pv 1) pa_nil)) pa_nil))) (fun _ _ => rfl)))), ?_⟩), F⟩
  refine body_P 0 rfl h fun a ds hp hn => ?_
  obtain ⟨h0, h1⟩ := hp
  try dsimp only at *
  refine S_ret ?_
  refine W_op ?_
  refine W_var rfl ?_
  refine W_callP rfl ?_
  refine WA_cons ?_
  refine W_cb ?_
  refine WA_cons ?_
  refine W_var rfl ?_
  refine WA_nil ?_
  refine WC_lenL ?_
  refine WA_nil ?_
  refine ⟨_, rfl, rfl, ⟨by omega, by omega⟩, ?_⟩
  rintro _ ⟨r, rfl, hr0, hr1⟩
  obtain ⟨k, rfl⟩ : ∃ k : Nat, r = (k : Int) := ⟨r.toNat, by omega⟩
  have hk : k < ds.length := by omega
  refine WR_ixL (d := ds[k]) (atI_nat (by rw [List.getElem?_eq_getElem hk])) ?_
  exact List.getElem_mem hk
theorem sc__law_cut : FnScope ["a", "b", "d", "g"] ["a", "b", "d"] (defScope s__law_cut) := ⟨rfl, rfl, rfl, by decide +kernel, rfl, by decide +kernel, by decide +kernel⟩
theorem ok__law_cut {P : Program} {w : World} {K : PySem.W.Frag} {mg : Str → Option Value} {base : Heap} (T : Txt K mg) :
    ∃ fd, FnG P w K mg base CX0 2 (He.ga K "_law_cut") fd ["a", "b", "d"] (spD (ι := Nat × Int × Int × Int) K 3 (fun i => [.int i.2.1, .int i.2.2.1, .int i.2.2.2]) (fun i => i.2.2.2 ≠ 0 ∧ Bd i.1 i.2.1 ∧ Bd i.1 i.2.2.1 ∧ Bd i.1 i.2.2.2 ∧ i.1 ≤ 7000) (fun i d => Tr i.1 ⟨qd i.2.1 i.2.2.2, qd i.2.2.1 i.2.2.2⟩ d)) ∧ FunD K "_law_cut" "_law_cut" (defArgs s__law_cut) (defBody s__law_cut) (defScope s__law_cut) [] [] (He.ga K "_law_cut") fd := by
  obtain ⟨fd, F⟩ := T.f__law_cut
  obtain ⟨fd__law_gcd, G__law_gcd, F__law_gcd⟩ := ok__law_gcd (P := P) (w := w) (base := base) T
  have B__law_gcd := F__law_gcd.bindsN (ps := ["a", "b"]) fun _ _ _ _ _ _ us hl => match us, hl with | [_, _], _ => rfl
  refine ⟨fd, FnG.of F sc__law_cut (fun vs H Q E h => h.1) (fun cdv A outer s H vs Q E hr hg h => ⟨_, PSs.nox (pss_cons (ps_set (i := 3) sc__law_cut.nd rfl (Or.inl rfl) (pe_callG G__law_gcd (hr.mono (by decide)) hg rfl T.g__law_gcd F__law_gcd.kp B__law_gcd .nil pass0 (pa_cons (pe_callG G__law_gcd (hr.mono (by decide)) hg rfl T.g__law_gcd F__law_gcd.kp B__law_gcd .nil pass0 (pa_cons (pv 0) (pa_cons (pv 1) pa_nil))) (pa_cons (pv 2) pa_nil)))) (pss_cons (ps_if (pt_cmpR op_lt (pv 2) pe_int (nomark _)) (pss_one (ps_set (i := 3) sc__law_cut.nd rfl (Or.inl rfl) (pe_op op_sub pe_int (pv 3)))) pss_nil) (pss_one (ps_ret (pe_tup (pa_cons (pe_op op_fdivX (pv 0) (pv 3)) (pa_cons (pe_op op_fdivX (pv 1) (pv 3)) (pa_cons (pe_op op_fdivX (pv 2) (pv 3)) pa_nil)))))))), ?_⟩), F⟩
  refine body_D 1 rfl h fun p i hp hn => ?_
  obtain ⟨n, a, b, c⟩ := i
  obtain ⟨h0, ha, hb, hc, hn8⟩ := hp
  try dsimp only at *
  have hg0 : ((Nat.gcd (((Nat.gcd a.natAbs b.natAbs : Nat) : Int)).natAbs c.natAbs : Nat) : Int) ≠ 0 := gcd_ne _ c h0
  have hgb : Bd 7000 ((Nat.gcd (((Nat.gcd a.natAbs b.natAbs : Nat) : Int)).natAbs c.natAbs : Nat) : Int) := (gcd_bd _ c h0 hc).mono hn8
  have hg1 : 0 - ((Nat.gcd (((Nat.gcd a.natAbs b.natAbs : Nat) : Int)).natAbs c.natAbs : Nat) : Int) ≠ 0 := sub_ne hg0
  have hgb1 : Bd 7001 (0 - ((Nat.gcd (((Nat.gcd a.natAbs b.natAbs : Nat) : Int)).natAbs c.natAbs : Nat) : Int)) := sub_bd hgb
  refine S_seq ?_
  refine S_asg (Nat.le_of_ble_eq_true rfl) ?_
  refine W_call ?_
  refine WA_cons ?_
  refine W_call ?_
  refine WA_cons ?_
  refine W_var rfl ?_
  refine WA_cons ?_
  refine W_var rfl ?_
  refine WA_nil ?_
  refine ⟨(_, _), rfl, rfl, by trivial, ?_⟩
  rintro _ rfl
  refine WA_cons ?_
  refine W_var rfl ?_
  refine WA_nil ?_
  refine ⟨(_, _), rfl, rfl, by trivial, ?_⟩
  rintro _ rfl
  refine S_env (by walk_at "env") ?_
  refine S_seq ?_
  refine S_if ?_
  refine WT_test ?_
  refine W_op ?_
  refine W_var rfl ?_
  refine W_int ?_
  refine WR_lt ?_
  refine ⟨_, rfl, ?_⟩
  refine ⟨fun hb1 => ?_, fun hb1 => ?_⟩
  · skip
    refine S_asg (Nat.le_of_ble_eq_true rfl) ?_
    refine W_op ?_
    refine W_int ?_
    refine W_var rfl ?_
    refine WR_sub ?_
    refine S_env (by walk_at "env") ?_
    refine S_ret ?_
    refine W_tup ?_
    refine WA_cons ?_
    refine W_op ?_
    refine W_var rfl ?_
    refine W_var rfl ?_
    refine WR_div (by walk_at "divs") ?_
    refine WA_cons ?_
    refine W_op ?_
    refine W_var rfl ?_
    refine W_var rfl ?_
    refine WR_div (by walk_at "divs") ?_
    refine WA_cons ?_
    refine W_op ?_
    refine W_var rfl ?_
    refine W_var rfl ?_
    refine WR_div (by walk_at "divs") ?_
    refine WA_nil ?_
    refine ⟨szl_of rfl, ?_⟩
    first
      | exact cut_neg n a b c h0 (of_decide_eq_true hb1) ha hb hc
      | exact cut_pos n a b c h0 (of_decide_eq_false hb1) ha hb hc
  · skip
    refine S_next ?_
    refine S_env (by walk_at "env") ?_
    refine S_ret ?_
    refine W_tup ?_
    refine WA_cons ?_
    refine W_op ?_
    refine W_var rfl ?_
    refine W_var rfl ?_
    refine WR_div (by walk_at "divs") ?_
    refine WA_cons ?_
    refine W_op ?_
    refine W_var rfl ?_
    refine W_var rfl ?_
    refine WR_div (by walk_at "divs") ?_
    refine WA_cons ?_
    refine W_op ?_
    refine W_var rfl ?_
    refine W_var rfl ?_
    refine WR_div (by walk_at "divs") ?_
    refine WA_nil ?_
    refine ⟨szl_of rfl, ?_⟩
    first
      | exact cut_neg n a b c h0 (of_decide_eq_true hb1) ha hb hc
      | exact cut_pos n a b c h0 (of_decide_eq_false hb1) ha hb hc
theorem sc__law_fraction : FnScope ["n", "m", "g"] ["n", "m"] (defScope s__law_fraction) := ⟨rfl, rfl, rfl, by decide +kernel, rfl, by decide +kernel, by decide +kernel⟩
theorem ok__law_fraction {P : Program} {w : World} {K : PySem.W.Frag} {mg : Str → Option Value} {base : Heap} (T : Txt K mg) :
    ∃ fd, FnG P w K mg base CX0 2 (He.ga K "_law_fraction") fd ["n", "m"] (spD (ι := Int × Int) K 2 (fun i => [.int i.1, .int i.2]) (fun i => i.2 ≠ 0 ∧ Bd 7000 i.2) (fun i d => d = fr (qd i.1 i.2))) ∧ FunD K "_law_fraction" "_law_fraction" (defArgs s__law_fraction) (defBody s__law_fraction) (defScope s__law_fraction) [] [] (He.ga K "_law_fraction") fd := by
  obtain ⟨fd, F⟩ := T.f__law_fraction
  obtain ⟨fd__law_gcd, G__law_gcd, F__law_gcd⟩ := ok__law_gcd (P := P) (w := w) (base := base) T
  have B__law_gcd := F__law_gcd.bindsN (ps := ["a", "b"]) fun _ _ _ _ _ _ us hl => match us, hl with | [_, _], _ => rfl
  refine ⟨fd, FnG.of F sc__law_fraction (fun vs H Q E h => h.1) (fun cdv A outer s H vs Q E hr hg h => ⟨_, PSs.nox (pss_cons (ps_set (i := 2) sc__law_fraction.nd rfl (Or.inl rfl) (pe_callG G__law_gcd (hr.mono (by decide)) hg rfl T.g__law_gcd F__law_gcd.kp B__law_gcd .nil pass0 (pa_cons (pv 0) (pa_cons (pv 1) pa_nil)))) (pss_cons (ps_if (pt_cmpR op_lt (pv 1) pe_int (nomark _)) (pss_one (ps_set (i := 2) sc__law_fraction.nd rfl (Or.inl rfl) (pe_op op_sub pe_int (pv 2)))) pss_nil) (pss_one (ps_ret (pe_tup (pa_cons (pe_op op_fdivX (pv 0) (pv 2)) (pa_cons (pe_op op_fdivX (pv 1) (pv 2)) pa_nil))))))), ?_⟩), F⟩
  refine body_D 1 rfl h fun p i hp hn => ?_
  obtain ⟨n, m⟩ := i
  obtain ⟨h0, hb⟩ := hp
  try dsimp only at *
  have hg0 : ((Nat.gcd n.natAbs m.natAbs : Nat) : Int) ≠ 0 := gcd_ne n m h0
  have hgb : Bd 7000 ((Nat.gcd n.natAbs m.natAbs : Nat) : Int) := gcd_bd n m h0 hb
  have hg1 : 0 - ((Nat.gcd n.natAbs m.natAbs : Nat) : Int) ≠ 0 := sub_ne hg0
  have hgb1 : Bd 7001 (0 - ((Nat.gcd n.natAbs m.natAbs : Nat) : Int)) := sub_bd hgb
  refine S_seq ?_
  refine S_asg (Nat.le_of_ble_eq_true rfl) ?_
  refine W_call ?_
  refine WA_cons ?_
  refine W_var rfl ?_
  refine WA_cons ?_
  refine W_var rfl ?_
  refine WA_nil ?_
  refine ⟨(_, _), rfl, rfl, by trivial, ?_⟩
  rintro _ rfl
  refine S_env (by walk_at "env") ?_
  refine S_seq ?_
  refine S_if ?_
  refine WT_test ?_
  refine W_op ?_
  refine W_var rfl ?_
  refine W_int ?_
  refine WR_lt ?_
  refine ⟨_, rfl, ?_⟩
  refine ⟨fun hb1 => ?_, fun hb1 => ?_⟩
  · skip
    refine S_asg (Nat.le_of_ble_eq_true rfl) ?_
    refine W_op ?_
    refine W_int ?_
    refine W_var rfl ?_
    refine WR_sub ?_
    refine S_env (by walk_at "env") ?_
    refine S_ret ?_
    refine W_tup ?_
    refine WA_cons ?_
    refine W_op ?_
    refine W_var rfl ?_
    refine W_var rfl ?_
    refine WR_div (by walk_at "divs") ?_
    refine WA_cons ?_
    refine W_op ?_
    refine W_var rfl ?_
    refine W_var rfl ?_
    refine WR_div (by walk_at "divs") ?_
    refine WA_nil ?_
    refine ⟨szl_of rfl, ?_⟩
    first
      | exact red_end_neg' n m (of_decide_eq_true hb1)
      | exact red_end_pos n m h0 (of_decide_eq_false hb1)
  · skip
    refine S_next ?_
    refine S_env (by walk_at "env") ?_
    refine S_ret ?_
    refine W_tup ?_
    refine WA_cons ?_
    refine W_op ?_
    refine W_var rfl ?_
    refine W_var rfl ?_
    refine WR_div (by walk_at "divs") ?_
    refine WA_cons ?_
    refine W_op ?_
    refine W_var rfl ?_
    refine W_var rfl ?_
    refine WR_div (by walk_at "divs") ?_
    refine WA_nil ?_
    refine ⟨szl_of rfl, ?_⟩
    first
      | exact red_end_neg' n m (of_decide_eq_true hb1)
      | exact red_end_pos n m h0 (of_decide_eq_false hb1)
theorem sc_plus : FnScope ["x", "y"] ["x", "y"] (defScope s_plus) := ⟨rfl, rfl, rfl, by decide +kernel, rfl, by decide +kernel, by decide +kernel⟩
theorem ok_plus {P : Program} {w : World} {K : PySem.W.Frag} {mg : Str → Option Value} {base : Heap} (T : Txt K mg) :
    ∃ fd, FnG P w K mg base CX0 3 (He.ga K "plus") fd ["x", "y"] (spD (ι := Cn × Cn) K 2 (fun i => [nm i.1, nm i.2]) (fun i => Cs 1000 i.1 ∧ Cs 1000 i.2) (fun i d => d = nm (i.1.add i.2))) ∧ FunD K "plus" "plus" (defArgs s_plus) (defBody s_plus) (defScope s_plus) [] [] (He.ga K "plus") fd := by
  obtain ⟨fd, F⟩ := T.f_plus
  obtain ⟨fd_fraction_plus, G_fraction_plus, F_fraction_plus⟩ := ok_fraction_plus (P := P) (w := w) (base := base) T
  have B_fraction_plus := F_fraction_plus.bindsN (ps := ["x", "y"]) fun _ _ _ _ _ _ us hl => match us, hl with | [_, _], _ => rfl
  refine ⟨fd, FnG.of F sc_plus (fun vs H Q E h => h.1) (fun cdv A outer s H vs Q E hr hg h => ⟨_, PSs.nox (pss_one (ps_ret (pe_tup (pa_cons (pe_callG G_fraction_plus (hr.mono (by decide)) hg rfl T.g_fraction_plus F_fraction_plus.kp B_fraction_plus .nil pass0 (pa_cons (pe_ix ix_tup (pv 0) pe_int (fun _ _ => rfl)) (pa_cons (pe_ix ix_tup (pv 1) pe_int (fun _ _ => rfl)) pa_nil))) (pa_cons (pe_callG G_fraction_plus (hr.mono (by decide)) hg rfl T.g_fraction_plus F_fraction_plus.kp B_fraction_plus .nil pass0 (pa_cons (pe_ix ix_tup (pv 0) pe_int (fun _ _ => rfl)) (pa_cons (pe_ix ix_tup (pv 1) pe_int (fun _ _ => rfl)) pa_nil))) pa_nil))))), ?_⟩), F⟩
  refine body_D 0 rfl h fun p i hp hn => ?_
  obtain ⟨x, y⟩ := i
  obtain ⟨hx, hy⟩ := hp
  try dsimp only at *
  refine S_ret ?_
  refine W_tup ?_
  refine WA_cons ?_
  refine W_call ?_
  refine WA_cons ?_
  refine W_op ?_
  refine W_var rfl ?_
  refine W_int ?_
  refine WR_ixT rfl ?_
  refine WA_cons ?_
  refine W_op ?_
  refine W_var rfl ?_
  refine W_int ?_
  refine WR_ixT rfl ?_
  refine WA_nil ?_
  refine ⟨(_, _), rfl, rfl, by exact ⟨by walk_at "rsm", by walk_at "rsm"⟩, ?_⟩
  rintro _ rfl
  refine WA_cons ?_
  refine W_call ?_
  refine WA_cons ?_
  refine W_op ?_
  refine W_var rfl ?_
  refine W_int ?_
  refine WR_ixT rfl ?_
  refine WA_cons ?_
  refine W_op ?_
  refine W_var rfl ?_
  refine W_int ?_
  refine WR_ixT rfl ?_
  refine WA_nil ?_
  refine ⟨(_, _), rfl, rfl, by exact ⟨by walk_at "rsm", by walk_at "rsm"⟩, ?_⟩
  rintro _ rfl
  refine WA_nil ?_
  refine ⟨szl_of rfl, ?_⟩
  rfl
theorem sc_less : FnScope ["x", "y"] ["x", "y"] (defScope s_less) := ⟨rfl, rfl, rfl, by decide +kernel, rfl, by decide +kernel, by decide +kernel⟩
theorem ok_less {P : Program} {w : World} {K : PySem.W.Frag} {mg : Str → Option Value} {base : Heap} (T : Txt K mg) :
    ∃ fd, FnG P w K mg base CX0 3 (He.ga K "less") fd ["x", "y"] (spD (ι := Cn × Cn) K 2 (fun i => [nm i.1, nm i.2]) (fun i => Cs 1000 i.1 ∧ Cs 1000 i.2) (fun i d => d = nm (i.1.sub i.2))) ∧ FunD K "less" "less" (defArgs s_less) (defBody s_less) (defScope s_less) [] [] (He.ga K "less") fd := by
  obtain ⟨fd, F⟩ := T.f_less
  obtain ⟨fd_fraction_less, G_fraction_less, F_fraction_less⟩ := ok_fraction_less (P := P) (w := w) (base := base) T
  have B_fraction_less := F_fraction_less.bindsN (ps := ["x", "y"]) fun _ _ _ _ _ _ us hl => match us, hl with | [_, _], _ => rfl
  refine ⟨fd, FnG.of F sc_less (fun vs H Q E h => h.1) (fun cdv A outer s H vs Q E hr hg h => ⟨_, PSs.nox (pss_one (ps_ret (pe_tup (pa_cons (pe_callG G_fraction_less (hr.mono (by decide)) hg rfl T.g_fraction_less F_fraction_less.kp B_fraction_less .nil pass0 (pa_cons (pe_ix ix_tup (pv 0) pe_int (fun _ _ => rfl)) (pa_cons (pe_ix ix_tup (pv 1) pe_int (fun _ _ => rfl)) pa_nil))) (pa_cons (pe_callG G_fraction_less (hr.mono (by decide)) hg rfl T.g_fraction_less F_fraction_less.kp B_fraction_less .nil pass0 (pa_cons (pe_ix ix_tup (pv 0) pe_int (fun _ _ => rfl)) (pa_cons (pe_ix ix_tup (pv 1) pe_int (fun _ _ => rfl)) pa_nil))) pa_nil))))), ?_⟩), F⟩
  refine body_D 0 rfl h fun p i hp hn => ?_
  obtain ⟨x, y⟩ := i
  obtain ⟨hx, hy⟩ := hp
  try dsimp only at *
  refine S_ret ?_
  refine W_tup ?_
  refine WA_cons ?_
  refine W_call ?_
  refine WA_cons ?_
  refine W_op ?_
  refine W_var rfl ?_
  refine W_int ?_
  refine WR_ixT rfl ?_
  refine WA_cons ?_
  refine W_op ?_
  refine W_var rfl ?_
  refine W_int ?_
  refine WR_ixT rfl ?_
  refine WA_nil ?_
  refine ⟨(_, _), rfl, rfl, by exact ⟨by walk_at "rsm", by walk_at "rsm"⟩, ?_⟩
  rintro _ rfl
  refine WA_cons ?_
  refine W_call ?_
  refine WA_cons ?_
  refine W_op ?_
  refine W_var rfl ?_
  refine W_int ?_
  refine WR_ixT rfl ?_
  refine WA_cons ?_
  refine W_op ?_
  refine W_var rfl ?_
  refine W_int ?_
  refine WR_ixT rfl ?_
  refine WA_nil ?_
  refine ⟨(_, _), rfl, rfl, by exact ⟨by walk_at "rsm", by walk_at "rsm"⟩, ?_⟩
  rintro _ rfl
  refine WA_nil ?_
  refine ⟨szl_of rfl, ?_⟩
  rfl
theorem sc_times : FnScope ["x", "y", "a", "p", "b", "q", "c", "r", "d", "s"] ["x", "y"] (defScope s_times) := ⟨rfl, rfl, rfl, by decide +kernel, rfl, by decide +kernel, by decide +kernel⟩
theorem ok_times {P : Program} {w : World} {K : PySem.W.Frag} {mg : Str → Option Value} {base : Heap} (T : Txt K mg) :
    ∃ fd, FnG P w K mg base CX0 3 (He.ga K "times") fd ["x", "y"] (spD (ι := Cn × Cn) K 2 (fun i => [nm i.1, nm i.2]) (fun i => Cs 1000 i.1 ∧ Cs 1000 i.2) (fun i d => d = nm (i.1.mul i.2))) ∧ FunD K "times" "times" (defArgs s_times) (defBody s_times) (defScope s_times) [] [] (He.ga K "times") fd := by
  obtain ⟨fd, F⟩ := T.f_times
  obtain ⟨fd_number_from, G_number_from, F_number_from⟩ := ok_number_from (P := P) (w := w) (base := base) T
  have B_number_from := F_number_from.bindsN (ps := ["x", "y", "m"]) fun _ _ _ _ _ _ us hl => match us, hl with | [_, _, _], _ => rfl
  refine ⟨fd, FnG.of F sc_times (fun vs H Q E h => h.1) (fun cdv A outer s H vs Q E hr hg h => ⟨_, PSs.nox (pss_cons (ps_asg (pv 0) (pg_tup rfl (pgs_cons (pg_tup rfl (pgs_cons (pg_name (i := 2) sc_times.nd rfl (Or.inl rfl)) (pgs_cons (pg_name (i := 3) sc_times.nd rfl (Or.inl rfl)) pgs_nil))) (pgs_cons (pg_tup rfl (pgs_cons (pg_name (i := 4) sc_times.nd rfl (Or.inl rfl)) (pgs_cons (pg_name (i := 5) sc_times.nd rfl (Or.inl rfl)) pgs_nil))) pgs_nil)))) (pss_cons (ps_asg (pv 1) (pg_tup rfl (pgs_cons (pg_tup rfl (pgs_cons (pg_name (i := 6) sc_times.nd rfl (Or.inl rfl)) (pgs_cons (pg_name (i := 7) sc_times.nd rfl (Or.inl rfl)) pgs_nil))) (pgs_cons (pg_tup rfl (pgs_cons (pg_name (i := 8) sc_times.nd rfl (Or.inl rfl)) (pgs_cons (pg_name (i := 9) sc_times.nd rfl (Or.inl rfl)) pgs_nil))) pgs_nil)))) (pss_cons (ps_asg (pe_tup (pa_cons (pe_op op_mulX (pv 2) (pv 5)) (pa_cons (pe_op op_mulX (pv 4) (pv 3)) (pa_cons (pe_op op_mulX (pv 6) (pv 9)) (pa_cons (pe_op op_mulX (pv 8) (pv 7)) pa_nil))))) (pg_tup rfl (pgs_cons (pg_name (i := 2) sc_times.nd rfl (Or.inl rfl)) (pgs_cons (pg_name (i := 4) sc_times.nd rfl (Or.inl rfl)) (pgs_cons (pg_name (i := 6) sc_times.nd rfl (Or.inl rfl)) (pgs_cons (pg_name (i := 8) sc_times.nd rfl (Or.inl rfl)) pgs_nil)))))) (pss_one (ps_ret (pe_callG G_number_from (hr.mono (by decide)) hg rfl T.g_number_from F_number_from.kp B_number_from .nil pass0 (pa_cons (pe_op op_sub (pe_op op_mulX (pv 2) (pv 6)) (pe_op op_mulX (pv 4) (pv 8))) (pa_cons (pe_op op_add (pe_op op_mulX (pv 2) (pv 8)) (pe_op op_mulX (pv 4) (pv 6))) (pa_cons (pe_op op_mulX (pe_op op_mulX (pe_op op_mulX (pv 3) (pv 5)) (pv 7)) (pv 9)) pa_nil))))))))), ?_⟩), F⟩
  refine body_D 8 rfl h fun p i hp hn => ?_
  obtain ⟨x, y⟩ := i
  obtain ⟨hx, hy⟩ := hp
  try dsimp only at *
  refine S_seq ?_
  refine S_asgG ?_
  refine W_var rfl ?_
  refine TG_tup rfl ?_
  refine TGs_cons ?_
  refine TG_tup rfl ?_
  refine TGs_cons ?_
  refine TG_name (Nat.le_of_ble_eq_true rfl) ?_
  refine TGs_cons ?_
  refine TG_name (Nat.le_of_ble_eq_true rfl) ?_
  refine TGs_nil ?_
  refine TGs_cons ?_
  refine TG_tup rfl ?_
  refine TGs_cons ?_
  refine TG_name (Nat.le_of_ble_eq_true rfl) ?_
  refine TGs_cons ?_
  refine TG_name (Nat.le_of_ble_eq_true rfl) ?_
  refine TGs_nil ?_
  refine TGs_nil ?_
  refine S_env (by walk_at "env") ?_
  refine S_seq ?_
  refine S_asgG ?_
  refine W_var rfl ?_
  refine TG_tup rfl ?_
  refine TGs_cons ?_
  refine TG_tup rfl ?_
  refine TGs_cons ?_
  refine TG_name (Nat.le_of_ble_eq_true rfl) ?_
  refine TGs_cons ?_
  refine TG_name (Nat.le_of_ble_eq_true rfl) ?_
  refine TGs_nil ?_
  refine TGs_cons ?_
  refine TG_tup rfl ?_
  refine TGs_cons ?_
  refine TG_name (Nat.le_of_ble_eq_true rfl) ?_
  refine TGs_cons ?_
  refine TG_name (Nat.le_of_ble_eq_true rfl) ?_
  refine TGs_nil ?_
  refine TGs_nil ?_
  refine S_env (by walk_at "env") ?_
  refine S_seq ?_
  refine S_asgG ?_
  refine W_tup ?_
  refine WA_cons ?_
  refine W_op ?_
  refine W_var rfl ?_
  refine W_var rfl ?_
  refine WR_mul (by walk_at "bits") ?_
  refine WA_cons ?_
  refine W_op ?_
  refine W_var rfl ?_
  refine W_var rfl ?_
  refine WR_mul (by walk_at "bits") ?_
  refine WA_cons ?_
  refine W_op ?_
  refine W_var rfl ?_
  refine W_var rfl ?_
  refine WR_mul (by walk_at "bits") ?_
  refine WA_cons ?_
  refine W_op ?_
  refine W_var rfl ?_
  refine W_var rfl ?_
  refine WR_mul (by walk_at "bits") ?_
  refine WA_nil ?_
  refine ⟨szl_of rfl, ?_⟩
  refine TG_tup rfl ?_
  refine TGs_cons ?_
  refine TG_name (Nat.le_of_ble_eq_true rfl) ?_
  refine TGs_cons ?_
  refine TG_name (Nat.le_of_ble_eq_true rfl) ?_
  refine TGs_cons ?_
  refine TG_name (Nat.le_of_ble_eq_true rfl) ?_
  refine TGs_cons ?_
  refine TG_name (Nat.le_of_ble_eq_true rfl) ?_
  refine TGs_nil ?_
  refine S_env (by walk_at "env") ?_
  refine S_ret ?_
  refine W_call ?_
  refine WA_cons ?_
  refine W_op ?_
  refine W_op ?_
  refine W_var rfl ?_
  refine W_var rfl ?_
  refine WR_mul (by walk_at "bits") ?_
  refine W_op ?_
  refine W_var rfl ?_
  refine W_var rfl ?_
  refine WR_mul (by walk_at "bits") ?_
  refine WR_sub ?_
  refine WA_cons ?_
  refine W_op ?_
  refine W_op ?_
  refine W_var rfl ?_
  refine W_var rfl ?_
  refine WR_mul (by walk_at "bits") ?_
  refine W_op ?_
  refine W_var rfl ?_
  refine W_var rfl ?_
  refine WR_mul (by walk_at "bits") ?_
  refine WR_add ?_
  refine WA_cons ?_
  refine W_op ?_
  refine W_op ?_
  refine W_op ?_
  refine W_var rfl ?_
  refine W_var rfl ?_
  refine WR_mul (by walk_at "bits") ?_
  refine W_var rfl ?_
  refine WR_mul (by walk_at "bits") ?_
  refine W_var rfl ?_
  refine WR_mul (by walk_at "bits") ?_
  refine WA_nil ?_
  refine ⟨(_, _, _), rfl, rfl, by exact ⟨by walk_at "nz", by walk_at "bdm"⟩, ?_⟩
  rintro _ rfl
  exact congrArg nm (c_mul x y)
theorem sc_scaled : FnScope ["x", "fraction"] ["x", "fraction"] (defScope s_scaled) := ⟨rfl, rfl, rfl, by decide +kernel, rfl, by decide +kernel, by decide +kernel⟩
theorem ok_scaled {P : Program} {w : World} {K : PySem.W.Frag} {mg : Str → Option Value} {base : Heap} (T : Txt K mg) :
    ∃ fd, FnG P w K mg base CX0 3 (He.ga K "scaled") fd ["x", "fraction"] (spD (ι := Cn × Rat) K 2 (fun i => [nm i.1, fr i.2]) (fun i => Cs 3000 i.1 ∧ Rs 3000 i.2) (fun i d => d = nm (i.1.scale i.2))) ∧ FunD K "scaled" "scaled" (defArgs s_scaled) (defBody s_scaled) (defScope s_scaled) [] [] (He.ga K "scaled") fd := by
  obtain ⟨fd, F⟩ := T.f_scaled
  obtain ⟨fd_fraction_times, G_fraction_times, F_fraction_times⟩ := ok_fraction_times (P := P) (w := w) (base := base) T
  have B_fraction_times := F_fraction_times.bindsN (ps := ["x", "y"]) fun _ _ _ _ _ _ us hl => match us, hl with | [_, _], _ => rfl
  refine ⟨fd, FnG.of F sc_scaled (fun vs H Q E h => h.1) (fun cdv A outer s H vs Q E hr hg h => ⟨_, PSs.nox (pss_one (ps_ret (pe_tup (pa_cons (pe_callG G_fraction_times (hr.mono (by decide)) hg rfl T.g_fraction_times F_fraction_times.kp B_fraction_times .nil pass0 (pa_cons (pe_ix ix_tup (pv 0) pe_int (fun _ _ => rfl)) (pa_cons (pv 1) pa_nil))) (pa_cons (pe_callG G_fraction_times (hr.mono (by decide)) hg rfl T.g_fraction_times F_fraction_times.kp B_fraction_times .nil pass0 (pa_cons (pe_ix ix_tup (pv 0) pe_int (fun _ _ => rfl)) (pa_cons (pv 1) pa_nil))) pa_nil))))), ?_⟩), F⟩
  refine body_D 0 rfl h fun p i hp hn => ?_
  obtain ⟨x, y⟩ := i
  obtain ⟨hx, hy⟩ := hp
  try dsimp only at *
  refine S_ret ?_
  refine W_tup ?_
  refine WA_cons ?_
  refine W_call ?_
  refine WA_cons ?_
  refine W_op ?_
  refine W_var rfl ?_
  refine W_int ?_
  refine WR_ixT rfl ?_
  refine WA_cons ?_
  refine W_var rfl ?_
  refine WA_nil ?_
  refine ⟨(_, _), rfl, rfl, by exact ⟨by walk_at "rsm", by walk_at "rsm"⟩, ?_⟩
  rintro _ rfl
  refine WA_cons ?_
  refine W_call ?_
  refine WA_cons ?_
  refine W_op ?_
  refine W_var rfl ?_
  refine W_int ?_
  refine WR_ixT rfl ?_
  refine WA_cons ?_
  refine W_var rfl ?_
  refine WA_nil ?_
  refine ⟨(_, _), rfl, rfl, by exact ⟨by walk_at "rsm", by walk_at "rsm"⟩, ?_⟩
  rintro _ rfl
  refine WA_nil ?_
  refine ⟨szl_of rfl, ?_⟩
  rfl
theorem sc_is_number : FnScope ["value"] ["value"] (defScope s_is_number) := ⟨rfl, rfl, rfl, by decide +kernel, rfl, by decide +kernel, by decide +kernel⟩
theorem ok_is_number {P : Program} {w : World} {K : PySem.W.Frag} {mg : Str → Option Value} {base : Heap} (T : Txt K mg) :
    ∃ fd, FnG P w K mg base CX0 3 (He.ga K "is_number") fd ["value"] (spD (ι := PyData) K 1 (fun i => [i]) (fun _ => True) (fun i d => d = .bool (isNm i))) ∧ FunD K "is_number" "is_number" (defArgs s_is_number) (defBody s_is_number) (defScope s_is_number) [] [] (He.ga K "is_number") fd := by
  obtain ⟨fd, F⟩ := T.f_is_number
  obtain ⟨fd_is_fraction, G_is_fraction, F_is_fraction⟩ := ok_is_fraction (P := P) (w := w) (base := base) T
  have B_is_fraction := F_is_fraction.bindsN (ps := ["value"]) fun _ _ _ _ _ _ us hl => match us, hl with | [_], _ => rfl
  refine ⟨fd, FnG.of F sc_is_number (fun vs H Q E h => h.1) (fun cdv A outer s H vs Q E hr hg h => ⟨_, PSs.nox (pss_one (ps_ret (pe_and (pe_callB call_isi rfl T.b_isinstance (by decide +kernel) (pa_cons (pv 0) (pa_cons (pe_bltn (v := .ty "tuple") rfl T.b_tuple (by decide +kernel) rfl) pa_nil))) (pe_and (pe_cmpR op_eq (pe_callB cr_len rfl T.b_len (by decide +kernel) (pa_cons (pv 0) pa_nil)) pe_int (nomark _)) (pe_and (pe_callG G_is_fraction (hr.mono (by decide)) hg rfl T.g_is_fraction F_is_fraction.kp B_is_fraction .nil pass0 (pa_cons (pe_ix ix_tup (pv 0) pe_int (fun _ _ => rfl)) pa_nil)) (pe_one (pe_callG G_is_fraction (hr.mono (by decide)) hg rfl T.g_is_fraction F_is_fraction.kp B_is_fraction .nil pass0 (pa_cons (pe_ix ix_tup (pv 0) pe_int (fun _ _ => rfl)) pa_nil)))))))), ?_⟩), F⟩
  refine body_D 0 rfl h fun p x _ hn => ?_
  try dsimp only at *
  refine S_ret ?_
  refine W_andV ?_
  refine W_isi ?_
  refine W_var rfl ?_
  refine ⟨_, kit_tuple _, ?_⟩
  refine ⟨_, rfl, fun hb1 => ?_, fun hb1 => ?_⟩
  · obtain ⟨ds, rfl⟩ := tuple_of x (by rw [hb1]; rfl)
    refine W_andV ?_
    refine W_op ?_
    refine W_cb ?_
    refine WA_cons ?_
    refine W_var rfl ?_
    refine WA_nil ?_
    refine WC_lenT ?_
    refine W_int ?_
    refine WR_eqI ?_
    refine ⟨_, rfl, fun hb2 => ?_, fun hb2 => ?_⟩
    · obtain ⟨a, b, rfl⟩ := two_of ds (by rw [hb2]; rfl)
      refine W_andV ?_
      refine W_call ?_
      refine WA_cons ?_
      refine W_op ?_
      refine W_var rfl ?_
      refine W_int ?_
      refine WR_ixT rfl ?_
      refine WA_nil ?_
      refine ⟨_, rfl, rfl, trivial, ?_⟩
      rintro _ rfl
      refine ⟨_, rfl, fun h1 => ?_, fun h1 => ?_⟩
      · refine W_call ?_
        refine WA_cons ?_
        refine W_op ?_
        refine W_var rfl ?_
        refine W_int ?_
        refine WR_ixT rfl ?_
        refine WA_nil ?_
        refine ⟨_, rfl, rfl, trivial, ?_⟩
        rintro _ rfl
        exact congrArg PyData.bool (isNm_yes a b h1).symm
      · exact congrArg PyData.bool (isNm_fst a b h1).symm
    · exact congrArg PyData.bool (isNm_len ds hb2).symm
  · exact congrArg PyData.bool (isNm_no x hb1).symm
theorem sc_need_fraction : FnScope ["given"] ["given"] (defScope s_need_fraction) := ⟨rfl, rfl, rfl, by decide +kernel, rfl, by decide +kernel, by decide +kernel⟩
theorem ok_need_fraction {P : Program} {w : World} {K : PySem.W.Frag} {mg : Str → Option Value} {base : Heap} (T : Txt K mg) :
    ∃ fd, FnG P w K mg base CX0 3 (He.ga K "need_fraction") fd ["given"] (spD (ι := Rat) K 1 (fun i => [fr i]) (fun _ => True) (fun _ d => d = .none)) ∧ FunD K "need_fraction" "need_fraction" (defArgs s_need_fraction) (defBody s_need_fraction) (defScope s_need_fraction) [] [] (He.ga K "need_fraction") fd := by
  obtain ⟨fd, F⟩ := T.f_need_fraction
  obtain ⟨fd_is_fraction, G_is_fraction, F_is_fraction⟩ := ok_is_fraction (P := P) (w := w) (base := base) T
  have B_is_fraction := F_is_fraction.bindsN (ps := ["value"]) fun _ _ _ _ _ _ us hl => match us, hl with | [_], _ => rfl
  refine ⟨fd, FnG.of F sc_need_fraction (fun vs H Q E h => h.1) (fun cdv A outer s H vs Q E hr hg h => ⟨_, PSs.nox (pss_one (ps_if (pt_not (pt_val (pe_callG G_is_fraction (hr.mono (by decide)) hg rfl T.g_is_fraction F_is_fraction.kp B_is_fraction .nil pass0 (pa_cons (pv 0) pa_nil)))) (pss_one ps_never) pss_nil)), ?_⟩), F⟩
  refine body_D 0 rfl h fun p x hx hn => ?_
  try dsimp only at *
  refine S_if ?_
  refine WT_not ?_
  refine WT_B ?_
  refine W_call ?_
  refine WA_cons ?_
  refine W_var rfl ?_
  refine WA_nil ?_
  refine ⟨_, rfl, rfl, by trivial, ?_⟩
  rintro _ rfl
  refine ⟨_, rfl, ?_⟩
  refine ⟨fun hb1 => ?_, fun hb1 => ?_⟩
  · skip
    refine S_never ?_
    first
      | rfl
      | (rw [isFr_fr] at hb1; cases hb1)
  · skip
    refine S_next ?_
    first
      | rfl
      | (rw [isFr_fr] at hb1; cases hb1)
theorem sc_fraction_of : FnScope ["n", "m"] ["n", "m"] (defScope s_fraction_of) := ⟨rfl, rfl, rfl, by decide +kernel, rfl, by decide +kernel, by decide +kernel⟩
theorem ok_fraction_of {P : Program} {w : World} {K : PySem.W.Frag} {mg : Str → Option Value} {base : Heap} (T : Txt K mg) :
    ∃ fd, FnG P w K mg base CX0 3 (He.ga K "fraction_of") fd ["n", "m"] (spD (ι := Int × Int) K 2 (fun i => [.int i.1, .int i.2]) (fun i => i.2 ≠ 0 ∧ Bd 8000 i.2) (fun i d => d = fr (qd i.1 i.2))) ∧ FunD K "fraction_of" "fraction_of" (defArgs s_fraction_of) (defBody s_fraction_of) (defScope s_fraction_of) [.int 1] [] (He.ga K "fraction_of") fd := by
  obtain ⟨fd, F⟩ := T.f_fraction_of
  obtain ⟨fd_need_whole, G_need_whole, F_need_whole⟩ := ok_need_whole (P := P) (w := w) (base := base) T
  obtain ⟨fd_need_bottom, G_need_bottom, F_need_bottom⟩ := ok_need_bottom (P := P) (w := w) (base := base) T
  obtain ⟨fd_reduced, G_reduced, F_reduced⟩ := ok_reduced (P := P) (w := w) (base := base) T
  have B_need_whole := F_need_whole.bindsN (ps := ["given"]) fun _ _ _ _ _ _ us hl => match us, hl with | [_], _ => rfl
  have B_need_bottom := F_need_bottom.bindsN (ps := ["given"]) fun _ _ _ _ _ _ us hl => match us, hl with | [_], _ => rfl
  have B_reduced := F_reduced.bindsN (ps := ["n", "m"]) fun _ _ _ _ _ _ us hl => match us, hl with | [_, _], _ => rfl
  refine ⟨fd, FnG.of F sc_fraction_of (fun vs H Q E h => h.1) (fun cdv A outer s H vs Q E hr hg h => ⟨_, PSs.nox (pss_cons (ps_expr (pe_callG G_need_whole (hr.mono (by decide)) hg rfl T.g_need_whole F_need_whole.kp B_need_whole .nil pass0 (pa_cons (pv 0) pa_nil))) (pss_cons (ps_expr (pe_callG G_need_bottom (hr.mono (by decide)) hg rfl T.g_need_bottom F_need_bottom.kp B_need_bottom .nil pass0 (pa_cons (pv 1) pa_nil))) (pss_one (ps_ret (pe_callG G_reduced (hr.mono (by decide)) hg rfl T.g_reduced F_reduced.kp B_reduced .nil pass0 (pa_cons (pv 0) (pa_cons (pv 1) pa_nil))))))), ?_⟩), F⟩
  refine body_D 0 rfl h fun p i hp hn => ?_
  obtain ⟨n, m⟩ := i
  obtain ⟨h0, hb⟩ := hp
  try dsimp only at *
  refine S_seq ?_
  refine S_drop ?_
  refine W_call ?_
  refine WA_cons ?_
  refine W_var rfl ?_
  refine WA_nil ?_
  refine ⟨_, rfl, rfl, by trivial, ?_⟩
  rintro _ rfl
  refine S_env (by walk_at "env") ?_
  refine S_seq ?_
  refine S_drop ?_
  refine W_call ?_
  refine WA_cons ?_
  refine W_var rfl ?_
  refine WA_nil ?_
  refine ⟨_, rfl, rfl, by assumption, ?_⟩
  rintro _ rfl
  refine S_env (by walk_at "env") ?_
  refine S_ret ?_
  refine W_call ?_
  refine WA_cons ?_
  refine W_var rfl ?_
  refine WA_cons ?_
  refine W_var rfl ?_
  refine WA_nil ?_
  refine ⟨(_, _), rfl, rfl, by exact ⟨by walk_at "nz", by walk_at "bdm"⟩, ?_⟩
  rintro _ rfl
  rfl
theorem sc_number_of : FnScope ["a", "b", "m"] ["a", "b", "m"] (defScope s_number_of) := ⟨rfl, rfl, rfl, by decide +kernel, rfl, by decide +kernel, by decide +kernel⟩
theorem ok_number_of {P : Program} {w : World} {K : PySem.W.Frag} {mg : Str → Option Value} {base : Heap} (T : Txt K mg) :
    ∃ fd, FnG P w K mg base CX0 3 (He.ga K "number_of") fd ["a", "b", "m"] (spD (ι := Int × Int × Int) K 3 (fun i => [.int i.1, .int i.2.1, .int i.2.2]) (fun i => i.2.2 ≠ 0 ∧ Bd 8000 i.2.2) (fun i d => d = nm ⟨qd i.1 i.2.2, qd i.2.1 i.2.2⟩)) ∧ FunD K "number_of" "number_of" (defArgs s_number_of) (defBody s_number_of) (defScope s_number_of) [.int 0, .int 1] [] (He.ga K "number_of") fd := by
  obtain ⟨fd, F⟩ := T.f_number_of
  obtain ⟨fd_need_whole, G_need_whole, F_need_whole⟩ := ok_need_whole (P := P) (w := w) (base := base) T
  obtain ⟨fd_need_bottom, G_need_bottom, F_need_bottom⟩ := ok_need_bottom (P := P) (w := w) (base := base) T
  obtain ⟨fd_number_from, G_number_from, F_number_from⟩ := ok_number_from (P := P) (w := w) (base := base) T
  have B_need_whole := F_need_whole.bindsN (ps := ["given"]) fun _ _ _ _ _ _ us hl => match us, hl with | [_], _ => rfl
  have B_need_bottom := F_need_bottom.bindsN (ps := ["given"]) fun _ _ _ _ _ _ us hl => match us, hl with | [_], _ => rfl
  have B_number_from := F_number_from.bindsN (ps := ["x", "y", "m"]) fun _ _ _ _ _ _ us hl => match us, hl with | [_, _, _], _ => rfl
  refine ⟨fd, FnG.of F sc_number_of (fun vs H Q E h => h.1) (fun cdv A outer s H vs Q E hr hg h => ⟨_, PSs.nox (pss_cons (ps_expr (pe_callG G_need_whole (hr.mono (by decide)) hg rfl T.g_need_whole F_need_whole.kp B_need_whole .nil pass0 (pa_cons (pv 0) pa_nil))) (pss_cons (ps_expr (pe_callG G_need_whole (hr.mono (by decide)) hg rfl T.g_need_whole F_need_whole.kp B_need_whole .nil pass0 (pa_cons (pv 1) pa_nil))) (pss_cons (ps_expr (pe_callG G_need_bottom (hr.mono (by decide)) hg rfl T.g_need_bottom F_need_bottom.kp B_need_bottom .nil pass0 (pa_cons (pv 2) pa_nil))) (pss_one (ps_ret (pe_callG G_number_from (hr.mono (by decide)) hg rfl T.g_number_from F_number_from.kp B_number_from .nil pass0 (pa_cons (pv 0) (pa_cons (pv 1) (pa_cons (pv 2) pa_nil))))))))), ?_⟩), F⟩
  refine body_D 0 rfl h fun p i hp hn => ?_
  obtain ⟨a, b, m⟩ := i
  obtain ⟨h0, hb⟩ := hp
  try dsimp only at *
  refine S_seq ?_
  refine S_drop ?_
  refine W_call ?_
  refine WA_cons ?_
  refine W_var rfl ?_
  refine WA_nil ?_
  refine ⟨_, rfl, rfl, by trivial, ?_⟩
  rintro _ rfl
  refine S_env (by walk_at "env") ?_
  refine S_seq ?_
  refine S_drop ?_
  refine W_call ?_
  refine WA_cons ?_
  refine W_var rfl ?_
  refine WA_nil ?_
  refine ⟨_, rfl, rfl, by trivial, ?_⟩
  rintro _ rfl
  refine S_env (by walk_at "env") ?_
  refine S_seq ?_
  refine S_drop ?_
  refine W_call ?_
  refine WA_cons ?_
  refine W_var rfl ?_
  refine WA_nil ?_
  refine ⟨_, rfl, rfl, by assumption, ?_⟩
  rintro _ rfl
  refine S_env (by walk_at "env") ?_
  refine S_ret ?_
  refine W_call ?_
  refine WA_cons ?_
  refine W_var rfl ?_
  refine WA_cons ?_
  refine W_var rfl ?_
  refine WA_cons ?_
  refine W_var rfl ?_
  refine WA_nil ?_
  refine ⟨(_, _, _), rfl, rfl, by exact ⟨by walk_at "nz", by walk_at "bdm"⟩, ?_⟩
  rintro _ rfl
  rfl
theorem sc__law_add : FnScope ["x", "y"] ["x", "y"] (defScope s__law_add) := ⟨rfl, rfl, rfl, by decide +kernel, rfl, by decide +kernel, by decide +kernel⟩
theorem ok__law_add {P : Program} {w : World} {K : PySem.W.Frag} {mg : Str → Option Value} {base : Heap} (T : Txt K mg) :
    ∃ fd, FnG P w K mg base CX0 3 (He.ga K "_law_add") fd ["x", "y"] (spD (ι := (PyData × Cn) × (PyData × Cn)) K 2 (fun i => [i.1.1, i.2.1]) (fun i => Tr 300 i.1.2 i.1.1 ∧ Tr 300 i.2.2 i.2.1) (fun i d => Tr 1800 (i.1.2.add i.2.2) d)) ∧ FunD K "_law_add" "_law_add" (defArgs s__law_add) (defBody s__law_add) (defScope s__law_add) [] [] (He.ga K "_law_add") fd := by
  obtain ⟨fd, F⟩ := T.f__law_add
  obtain ⟨fd__law_cut, G__law_cut, F__law_cut⟩ := ok__law_cut (P := P) (w := w) (base := base) T
  have B__law_cut := F__law_cut.bindsN (ps := ["a", "b", "d"]) fun _ _ _ _ _ _ us hl => match us, hl with | [_, _, _], _ => rfl
  refine ⟨fd, FnG.of F sc__law_add (fun vs H Q E h => h.1) (fun cdv A outer s H vs Q E hr hg h => ⟨_, PSs.nox (pss_one (ps_ret (pe_callG G__law_cut (hr.mono (by decide)) hg rfl T.g__law_cut F__law_cut.kp B__law_cut .nil pass0 (pa_cons (pe_op op_add (pe_op op_mulX (pe_ix ix_tup (pv 0) pe_int (fun _ _ => rfl)) (pe_ix ix_tup (pv 1) pe_int (fun _ _ => rfl))) (pe_op op_mulX (pe_ix ix_tup (pv 1) pe_int (fun _ _ => rfl)) (pe_ix ix_tup (pv 0) pe_int (fun _ _ => rfl)))) (pa_cons (pe_op op_add (pe_op op_mulX (pe_ix ix_tup (pv 0) pe_int (fun _ _ => rfl)) (pe_ix ix_tup (pv 1) pe_int (fun _ _ => rfl))) (pe_op op_mulX (pe_ix ix_tup (pv 1) pe_int (fun _ _ => rfl)) (pe_ix ix_tup (pv 0) pe_int (fun _ _ => rfl)))) (pa_cons (pe_op op_mulX (pe_ix ix_tup (pv 0) pe_int (fun _ _ => rfl)) (pe_ix ix_tup (pv 1) pe_int (fun _ _ => rfl))) pa_nil)))))), ?_⟩), F⟩
  refine body_D 0 rfl h fun p i hp hn => ?_
  obtain ⟨⟨_, _⟩, ⟨_, _⟩⟩ := i
  obtain ⟨⟨a, b, c, rfl, h0, ha, hb, hc, rfl⟩, ⟨d, e, f, rfl, k0, hd, he, hf, rfl⟩⟩ := hp
  try dsimp only at *
  refine S_ret ?_
  refine W_call ?_
  refine WA_cons ?_
  refine W_op ?_
  refine W_op ?_
  refine W_op ?_
  refine W_var rfl ?_
  refine W_int ?_
  refine WR_ixT rfl ?_
  refine W_op ?_
  refine W_var rfl ?_
  refine W_int ?_
  refine WR_ixT rfl ?_
  refine WR_mul (by walk_at "bits") ?_
  refine W_op ?_
  refine W_op ?_
  refine W_var rfl ?_
  refine W_int ?_
  refine WR_ixT rfl ?_
  refine W_op ?_
  refine W_var rfl ?_
  refine W_int ?_
  refine WR_ixT rfl ?_
  refine WR_mul (by walk_at "bits") ?_
  refine WR_add ?_
  refine WA_cons ?_
  refine W_op ?_
  refine W_op ?_
  refine W_op ?_
  refine W_var rfl ?_
  refine W_int ?_
  refine WR_ixT rfl ?_
  refine W_op ?_
  refine W_var rfl ?_
  refine W_int ?_
  refine WR_ixT rfl ?_
  refine WR_mul (by walk_at "bits") ?_
  refine W_op ?_
  refine W_op ?_
  refine W_var rfl ?_
  refine W_int ?_
  refine WR_ixT rfl ?_
  refine W_op ?_
  refine W_var rfl ?_
  refine W_int ?_
  refine WR_ixT rfl ?_
  refine WR_mul (by walk_at "bits") ?_
  refine WR_add ?_
  refine WA_cons ?_
  refine W_op ?_
  refine W_op ?_
  refine W_var rfl ?_
  refine W_int ?_
  refine WR_ixT rfl ?_
  refine W_op ?_
  refine W_var rfl ?_
  refine W_int ?_
  refine WR_ixT rfl ?_
  refine WR_mul (by walk_at "bits") ?_
  refine WA_nil ?_
  refine ⟨(1800, _, _, _), rfl, rfl, by exact ⟨by (dsimp only; walk_at "nz"), by (dsimp only; walk_at "bdm"), by (dsimp only; walk_at "bdm"), by (dsimp only; walk_at "bdm"), by (dsimp only; decide)⟩, ?_⟩
  rintro _ ht
  exact (tr_add a b c d e f (by omega) (by omega)) ▸ ht
theorem sc__law_less : FnScope ["x", "y"] ["x", "y"] (defScope s__law_less) := ⟨rfl, rfl, rfl, by decide +kernel, rfl, by decide +kernel, by decide +kernel⟩
theorem ok__law_less {P : Program} {w : World} {K : PySem.W.Frag} {mg : Str → Option Value} {base : Heap} (T : Txt K mg) :
    ∃ fd, FnG P w K mg base CX0 3 (He.ga K "_law_less") fd ["x", "y"] (spD (ι := (PyData × Cn) × (PyData × Cn)) K 2 (fun i => [i.1.1, i.2.1]) (fun i => Tr 300 i.1.2 i.1.1 ∧ Tr 300 i.2.2 i.2.1) (fun i d => Tr 1800 (i.1.2.sub i.2.2) d)) ∧ FunD K "_law_less" "_law_less" (defArgs s__law_less) (defBody s__law_less) (defScope s__law_less) [] [] (He.ga K "_law_less") fd := by
  obtain ⟨fd, F⟩ := T.f__law_less
  obtain ⟨fd__law_cut, G__law_cut, F__law_cut⟩ := ok__law_cut (P := P) (w := w) (base := base) T
  have B__law_cut := F__law_cut.bindsN (ps := ["a", "b", "d"]) fun _ _ _ _ _ _ us hl => match us, hl with | [_, _, _], _ => rfl
  refine ⟨fd, FnG.of F sc__law_less (fun vs H Q E h => h.1) (fun cdv A outer s H vs Q E hr hg h => ⟨_, PSs.nox (pss_one (ps_ret (pe_callG G__law_cut (hr.mono (by decide)) hg rfl T.g__law_cut F__law_cut.kp B__law_cut .nil pass0 (pa_cons (pe_op op_sub (pe_op op_mulX (pe_ix ix_tup (pv 0) pe_int (fun _ _ => rfl)) (pe_ix ix_tup (pv 1) pe_int (fun _ _ => rfl))) (pe_op op_mulX (pe_ix ix_tup (pv 1) pe_int (fun _ _ => rfl)) (pe_ix ix_tup (pv 0) pe_int (fun _ _ => rfl)))) (pa_cons (pe_op op_sub (pe_op op_mulX (pe_ix ix_tup (pv 0) pe_int (fun _ _ => rfl)) (pe_ix ix_tup (pv 1) pe_int (fun _ _ => rfl))) (pe_op op_mulX (pe_ix ix_tup (pv 1) pe_int (fun _ _ => rfl)) (pe_ix ix_tup (pv 0) pe_int (fun _ _ => rfl)))) (pa_cons (pe_op op_mulX (pe_ix ix_tup (pv 0) pe_int (fun _ _ => rfl)) (pe_ix ix_tup (pv 1) pe_int (fun _ _ => rfl))) pa_nil)))))), ?_⟩), F⟩
  refine body_D 0 rfl h fun p i hp hn => ?_
  obtain ⟨⟨_, _⟩, ⟨_, _⟩⟩ := i
  obtain ⟨⟨a, b, c, rfl, h0, ha, hb, hc, rfl⟩, ⟨d, e, f, rfl, k0, hd, he, hf, rfl⟩⟩ := hp
  try dsimp only at *
  refine S_ret ?_
  refine W_call ?_
  refine WA_cons ?_
  refine W_op ?_
  refine W_op ?_
  refine W_op ?_
  refine W_var rfl ?_
  refine W_int ?_
  refine WR_ixT rfl ?_
  refine W_op ?_
  refine W_var rfl ?_
  refine W_int ?_
  refine WR_ixT rfl ?_
  refine WR_mul (by walk_at "bits") ?_
  refine W_op ?_
  refine W_op ?_
  refine W_var rfl ?_
  refine W_int ?_
  refine WR_ixT rfl ?_
  refine W_op ?_
  refine W_var rfl ?_
  refine W_int ?_
  refine WR_ixT rfl ?_
  refine WR_mul (by walk_at "bits") ?_
  refine WR_sub ?_
  refine WA_cons ?_
  refine W_op ?_
  refine W_op ?_
  refine W_op ?_
  refine W_var rfl ?_
  refine W_int ?_
  refine WR_ixT rfl ?_
  refine W_op ?_
  refine W_var rfl ?_
  refine W_int ?_
  refine WR_ixT rfl ?_
  refine WR_mul (by walk_at "bits") ?_
  refine W_op ?_
  refine W_op ?_
  refine W_var rfl ?_
  refine W_int ?_
  refine WR_ixT rfl ?_
  refine W_op ?_
  refine W_var rfl ?_
  refine W_int ?_
  refine WR_ixT rfl ?_
  refine WR_mul (by walk_at "bits") ?_
  refine WR_sub ?_
  refine WA_cons ?_
  refine W_op ?_
  refine W_op ?_
  refine W_var rfl ?_
  refine W_int ?_
  refine WR_ixT rfl ?_
  refine W_op ?_
  refine W_var rfl ?_
  refine W_int ?_
  refine WR_ixT rfl ?_
  refine WR_mul (by walk_at "bits") ?_
  refine WA_nil ?_
  refine ⟨(1800, _, _, _), rfl, rfl, by exact ⟨by (dsimp only; walk_at "nz"), by (dsimp only; walk_at "bdm"), by (dsimp only; walk_at "bdm"), by (dsimp only; walk_at "bdm"), by (dsimp only; decide)⟩, ?_⟩
  rintro _ ht
  exact (tr_sub a b c d e f (by omega) (by omega)) ▸ ht
theorem sc__law_times : FnScope ["x", "y"] ["x", "y"] (defScope s__law_times) := ⟨rfl, rfl, rfl, by decide +kernel, rfl, by decide +kernel, by decide +kernel⟩
theorem ok__law_times {P : Program} {w : World} {K : PySem.W.Frag} {mg : Str → Option Value} {base : Heap} (T : Txt K mg) :
    ∃ fd, FnG P w K mg base CX0 3 (He.ga K "_law_times") fd ["x", "y"] (spD (ι := (PyData × Cn) × (PyData × Cn)) K 2 (fun i => [i.1.1, i.2.1]) (fun i => Tr 300 i.1.2 i.1.1 ∧ Tr 300 i.2.2 i.2.1) (fun i d => Tr 1800 (i.1.2.mul i.2.2) d)) ∧ FunD K "_law_times" "_law_times" (defArgs s__law_times) (defBody s__law_times) (defScope s__law_times) [] [] (He.ga K "_law_times") fd := by
  obtain ⟨fd, F⟩ := T.f__law_times
  obtain ⟨fd__law_cut, G__law_cut, F__law_cut⟩ := ok__law_cut (P := P) (w := w) (base := base) T
  have B__law_cut := F__law_cut.bindsN (ps := ["a", "b", "d"]) fun _ _ _ _ _ _ us hl => match us, hl with | [_, _, _], _ => rfl
  refine ⟨fd, FnG.of F sc__law_times (fun vs H Q E h => h.1) (fun cdv A outer s H vs Q E hr hg h => ⟨_, PSs.nox (pss_one (ps_ret (pe_callG G__law_cut (hr.mono (by decide)) hg rfl T.g__law_cut F__law_cut.kp B__law_cut .nil pass0 (pa_cons (pe_op op_sub (pe_op op_mulX (pe_ix ix_tup (pv 0) pe_int (fun _ _ => rfl)) (pe_ix ix_tup (pv 1) pe_int (fun _ _ => rfl))) (pe_op op_mulX (pe_ix ix_tup (pv 0) pe_int (fun _ _ => rfl)) (pe_ix ix_tup (pv 1) pe_int (fun _ _ => rfl)))) (pa_cons (pe_op op_add (pe_op op_mulX (pe_ix ix_tup (pv 0) pe_int (fun _ _ => rfl)) (pe_ix ix_tup (pv 1) pe_int (fun _ _ => rfl))) (pe_op op_mulX (pe_ix ix_tup (pv 0) pe_int (fun _ _ => rfl)) (pe_ix ix_tup (pv 1) pe_int (fun _ _ => rfl)))) (pa_cons (pe_op op_mulX (pe_ix ix_tup (pv 0) pe_int (fun _ _ => rfl)) (pe_ix ix_tup (pv 1) pe_int (fun _ _ => rfl))) pa_nil)))))), ?_⟩), F⟩
  refine body_D 0 rfl h fun p i hp hn => ?_
  obtain ⟨⟨_, _⟩, ⟨_, _⟩⟩ := i
  obtain ⟨⟨a, b, c, rfl, h0, ha, hb, hc, rfl⟩, ⟨d, e, f, rfl, k0, hd, he, hf, rfl⟩⟩ := hp
  try dsimp only at *
  refine S_ret ?_
  refine W_call ?_
  refine WA_cons ?_
  refine W_op ?_
  refine W_op ?_
  refine W_op ?_
  refine W_var rfl ?_
  refine W_int ?_
  refine WR_ixT rfl ?_
  refine W_op ?_
  refine W_var rfl ?_
  refine W_int ?_
  refine WR_ixT rfl ?_
  refine WR_mul (by walk_at "bits") ?_
  refine W_op ?_
  refine W_op ?_
  refine W_var rfl ?_
  refine W_int ?_
  refine WR_ixT rfl ?_
  refine W_op ?_
  refine W_var rfl ?_
  refine W_int ?_
  refine WR_ixT rfl ?_
  refine WR_mul (by walk_at "bits") ?_
  refine WR_sub ?_
  refine WA_cons ?_
  refine W_op ?_
  refine W_op ?_
  refine W_op ?_
  refine W_var rfl ?_
  refine W_int ?_
  refine WR_ixT rfl ?_
  refine W_op ?_
  refine W_var rfl ?_
  refine W_int ?_
  refine WR_ixT rfl ?_
  refine WR_mul (by walk_at "bits") ?_
  refine W_op ?_
  refine W_op ?_
  refine W_var rfl ?_
  refine W_int ?_
  refine WR_ixT rfl ?_
  refine W_op ?_
  refine W_var rfl ?_
  refine W_int ?_
  refine WR_ixT rfl ?_
  refine WR_mul (by walk_at "bits") ?_
  refine WR_add ?_
  refine WA_cons ?_
  refine W_op ?_
  refine W_op ?_
  refine W_var rfl ?_
  refine W_int ?_
  refine WR_ixT rfl ?_
  refine W_op ?_
  refine W_var rfl ?_
  refine W_int ?_
  refine WR_ixT rfl ?_
  refine WR_mul (by walk_at "bits") ?_
  refine WA_nil ?_
  refine ⟨(1800, _, _, _), rfl, rfl, by exact ⟨by (dsimp only; walk_at "nz"), by (dsimp only; walk_at "bdm"), by (dsimp only; walk_at "bdm"), by (dsimp only; walk_at "bdm"), by (dsimp only; decide)⟩, ?_⟩
  rintro _ ht
  exact (tr_mul a b c d e f (by omega) (by omega)) ▸ ht
theorem sc__law_over : FnScope ["x", "y", "down"] ["x", "y"] (defScope s__law_over) := ⟨rfl, rfl, rfl, by decide +kernel, rfl, by decide +kernel, by decide +kernel⟩
theorem ok__law_over {P : Program} {w : World} {K : PySem.W.Frag} {mg : Str → Option Value} {base : Heap} (T : Txt K mg) :
    ∃ fd, FnG P w K mg base CX0 3 (He.ga K "_law_over") fd ["x", "y"] (spD (ι := (PyData × Cn) × (PyData × Cn)) K 2 (fun i => [i.1.1, i.2.1]) (fun i => Tr 300 i.1.2 i.1.1 ∧ Tr 300 i.2.2 i.2.1 ∧ i.2.2.nsq ≠ 0) (fun i d => Tr 1800 (i.1.2.div i.2.2) d)) ∧ FunD K "_law_over" "_law_over" (defArgs s__law_over) (defBody s__law_over) (defScope s__law_over) [] [] (He.ga K "_law_over") fd := by
  obtain ⟨fd, F⟩ := T.f__law_over
  obtain ⟨fd__law_cut, G__law_cut, F__law_cut⟩ := ok__law_cut (P := P) (w := w) (base := base) T
  have B__law_cut := F__law_cut.bindsN (ps := ["a", "b", "d"]) fun _ _ _ _ _ _ us hl => match us, hl with | [_, _, _], _ => rfl
  refine ⟨fd, FnG.of F sc__law_over (fun vs H Q E h => h.1) (fun cdv A outer s H vs Q E hr hg h => ⟨_, PSs.nox (pss_cons (ps_set (i := 2) sc__law_over.nd rfl (Or.inl rfl) (pe_op op_mulX (pe_ix ix_tup (pv 0) pe_int (fun _ _ => rfl)) (pe_op op_add (pe_op op_mulX (pe_ix ix_tup (pv 1) pe_int (fun _ _ => rfl)) (pe_ix ix_tup (pv 1) pe_int (fun _ _ => rfl))) (pe_op op_mulX (pe_ix ix_tup (pv 1) pe_int (fun _ _ => rfl)) (pe_ix ix_tup (pv 1) pe_int (fun _ _ => rfl)))))) (pss_one (ps_ret (pe_callG G__law_cut (hr.mono (by decide)) hg rfl T.g__law_cut F__law_cut.kp B__law_cut .nil pass0 (pa_cons (pe_op op_mulX (pe_op op_add (pe_op op_mulX (pe_ix ix_tup (pv 0) pe_int (fun _ _ => rfl)) (pe_ix ix_tup (pv 1) pe_int (fun _ _ => rfl))) (pe_op op_mulX (pe_ix ix_tup (pv 0) pe_int (fun _ _ => rfl)) (pe_ix ix_tup (pv 1) pe_int (fun _ _ => rfl)))) (pe_ix ix_tup (pv 1) pe_int (fun _ _ => rfl))) (pa_cons (pe_op op_mulX (pe_op op_sub (pe_op op_mulX (pe_ix ix_tup (pv 0) pe_int (fun _ _ => rfl)) (pe_ix ix_tup (pv 1) pe_int (fun _ _ => rfl))) (pe_op op_mulX (pe_ix ix_tup (pv 0) pe_int (fun _ _ => rfl)) (pe_ix ix_tup (pv 1) pe_int (fun _ _ => rfl)))) (pe_ix ix_tup (pv 1) pe_int (fun _ _ => rfl))) (pa_cons (pv 2) pa_nil))))))), ?_⟩), F⟩
  refine body_D 1 rfl h fun p i hp hn => ?_
  obtain ⟨⟨_, _⟩, ⟨_, _⟩⟩ := i
  obtain ⟨⟨a, b, c, rfl, h0, ha, hb, hc, rfl⟩, ⟨d, e, f, rfl, k0, hd, he, hf, rfl⟩, hns⟩ := hp
  try dsimp only at *
  have hnz : d * d + e * e ≠ 0 := nsq_int d e f (by omega) hns
  have hcn : c * (d * d + e * e) ≠ 0 := Int.mul_ne_zero (by omega) hnz
  refine S_seq ?_
  refine S_asg (Nat.le_of_ble_eq_true rfl) ?_
  refine W_op ?_
  refine W_op ?_
  refine W_var rfl ?_
  refine W_int ?_
  refine WR_ixT rfl ?_
  refine W_op ?_
  refine W_op ?_
  refine W_op ?_
  refine W_var rfl ?_
  refine W_int ?_
  refine WR_ixT rfl ?_
  refine W_op ?_
  refine W_var rfl ?_
  refine W_int ?_
  refine WR_ixT rfl ?_
  refine WR_mul (by walk_at "bits") ?_
  refine W_op ?_
  refine W_op ?_
  refine W_var rfl ?_
  refine W_int ?_
  refine WR_ixT rfl ?_
  refine W_op ?_
  refine W_var rfl ?_
  refine W_int ?_
  refine WR_ixT rfl ?_
  refine WR_mul (by walk_at "bits") ?_
  refine WR_add ?_
  refine WR_mul (by walk_at "bits") ?_
  refine S_env (by walk_at "env") ?_
  refine S_ret ?_
  refine W_call ?_
  refine WA_cons ?_
  refine W_op ?_
  refine W_op ?_
  refine W_op ?_
  refine W_op ?_
  refine W_var rfl ?_
  refine W_int ?_
  refine WR_ixT rfl ?_
  refine W_op ?_
  refine W_var rfl ?_
  refine W_int ?_
  refine WR_ixT rfl ?_
  refine WR_mul (by walk_at "bits") ?_
  refine W_op ?_
  refine W_op ?_
  refine W_var rfl ?_
  refine W_int ?_
  refine WR_ixT rfl ?_
  refine W_op ?_
  refine W_var rfl ?_
  refine W_int ?_
  refine WR_ixT rfl ?_
  refine WR_mul (by walk_at "bits") ?_
  refine WR_add ?_
  refine W_op ?_
  refine W_var rfl ?_
  refine W_int ?_
  refine WR_ixT rfl ?_
  refine WR_mul (by walk_at "bits") ?_
  refine WA_cons ?_
  refine W_op ?_
  refine W_op ?_
  refine W_op ?_
  refine W_op ?_
  refine W_var rfl ?_
  refine W_int ?_
  refine WR_ixT rfl ?_
  refine W_op ?_
  refine W_var rfl ?_
  refine W_int ?_
  refine WR_ixT rfl ?_
  refine WR_mul (by walk_at "bits") ?_
  refine W_op ?_
  refine W_op ?_
  refine W_var rfl ?_
  refine W_int ?_
  refine WR_ixT rfl ?_
  refine W_op ?_
  refine W_var rfl ?_
  refine W_int ?_
  refine WR_ixT rfl ?_
  refine WR_mul (by walk_at "bits") ?_
  refine WR_sub ?_
  refine W_op ?_
  refine W_var rfl ?_
  refine W_int ?_
  refine WR_ixT rfl ?_
  refine WR_mul (by walk_at "bits") ?_
  refine WA_cons ?_
  refine W_var rfl ?_
  refine WA_nil ?_
  refine ⟨(1800, _, _, _), rfl, rfl, by exact ⟨by (dsimp only; walk_at "nz"), by (dsimp only; walk_at "bdm"), by (dsimp only; walk_at "bdm"), by (dsimp only; walk_at "bdm"), by (dsimp only; decide)⟩, ?_⟩
  rintro _ ht
  exact (tr_div a b c d e f (by omega) (by omega) hnz) ▸ ht
theorem sc__law_size : FnScope ["x"] ["x"] (defScope s__law_size) := ⟨rfl, rfl, rfl, by decide +kernel, rfl, by decide +kernel, by decide +kernel⟩
theorem ok__law_size {P : Program} {w : World} {K : PySem.W.Frag} {mg : Str → Option Value} {base : Heap} (T : Txt K mg) :
    ∃ fd, FnG P w K mg base CX0 3 (He.ga K "_law_size") fd ["x"] (spD (ι := PyData × Cn) K 1 (fun i => [i.1]) (fun i => Tr 300 i.2 i.1) (fun i d => d = fr i.2.nsq)) ∧ FunD K "_law_size" "_law_size" (defArgs s__law_size) (defBody s__law_size) (defScope s__law_size) [] [] (He.ga K "_law_size") fd := by
  obtain ⟨fd, F⟩ := T.f__law_size
  obtain ⟨fd__law_fraction, G__law_fraction, F__law_fraction⟩ := ok__law_fraction (P := P) (w := w) (base := base) T
  have B__law_fraction := F__law_fraction.bindsN (ps := ["n", "m"]) fun _ _ _ _ _ _ us hl => match us, hl with | [_, _], _ => rfl
  refine ⟨fd, FnG.of F sc__law_size (fun vs H Q E h => h.1) (fun cdv A outer s H vs Q E hr hg h => ⟨_, PSs.nox (pss_one (ps_ret (pe_callG G__law_fraction (hr.mono (by decide)) hg rfl T.g__law_fraction F__law_fraction.kp B__law_fraction .nil pass0 (pa_cons (pe_op op_add (pe_op op_mulX (pe_ix ix_tup (pv 0) pe_int (fun _ _ => rfl)) (pe_ix ix_tup (pv 0) pe_int (fun _ _ => rfl))) (pe_op op_mulX (pe_ix ix_tup (pv 0) pe_int (fun _ _ => rfl)) (pe_ix ix_tup (pv 0) pe_int (fun _ _ => rfl)))) (pa_cons (pe_op op_mulX (pe_ix ix_tup (pv 0) pe_int (fun _ _ => rfl)) (pe_ix ix_tup (pv 0) pe_int (fun _ _ => rfl))) pa_nil))))), ?_⟩), F⟩
  refine body_D 0 rfl h fun p i hp hn => ?_
  obtain ⟨_, _⟩ := i
  obtain ⟨a, b, c, rfl, h0, ha, hb, hc, rfl⟩ := hp
  try dsimp only at *
  refine S_ret ?_
  refine W_call ?_
  refine WA_cons ?_
  refine W_op ?_
  refine W_op ?_
  refine W_op ?_
  refine W_var rfl ?_
  refine W_int ?_
  refine WR_ixT rfl ?_
  refine W_op ?_
  refine W_var rfl ?_
  refine W_int ?_
  refine WR_ixT rfl ?_
  refine WR_mul (by walk_at "bits") ?_
  refine W_op ?_
  refine W_op ?_
  refine W_var rfl ?_
  refine W_int ?_
  refine WR_ixT rfl ?_
  refine W_op ?_
  refine W_var rfl ?_
  refine W_int ?_
  refine WR_ixT rfl ?_
  refine WR_mul (by walk_at "bits") ?_
  refine WR_add ?_
  refine WA_cons ?_
  refine W_op ?_
  refine W_op ?_
  refine W_var rfl ?_
  refine W_int ?_
  refine WR_ixT rfl ?_
  refine W_op ?_
  refine W_var rfl ?_
  refine W_int ?_
  refine WR_ixT rfl ?_
  refine WR_mul (by walk_at "bits") ?_
  refine WA_nil ?_
  refine ⟨(_, _), rfl, rfl, by exact ⟨by walk_at "nz", by walk_at "bdm"⟩, ?_⟩
  rintro _ rfl
  exact congrArg fr (tr_nsq a b c (by omega))
theorem sc__law_told : FnScope ["x"] ["x"] (defScope s__law_told) := ⟨rfl, rfl, rfl, by decide +kernel, rfl, by decide +kernel, by decide +kernel⟩
theorem ok__law_told {P : Program} {w : World} {K : PySem.W.Frag} {mg : Str → Option Value} {base : Heap} (T : Txt K mg) :
    ∃ fd, FnG P w K mg base CX0 3 (He.ga K "_law_told") fd ["x"] (spD (ι := PyData × Cn) K 1 (fun i => [i.1]) (fun i => Tr 1800 i.2 i.1) (fun i d => d = nm i.2)) ∧ FunD K "_law_told" "_law_told" (defArgs s__law_told) (defBody s__law_told) (defScope s__law_told) [] [] (He.ga K "_law_told") fd := by
  obtain ⟨fd, F⟩ := T.f__law_told
  obtain ⟨fd__law_fraction, G__law_fraction, F__law_fraction⟩ := ok__law_fraction (P := P) (w := w) (base := base) T
  have B__law_fraction := F__law_fraction.bindsN (ps := ["n", "m"]) fun _ _ _ _ _ _ us hl => match us, hl with | [_, _], _ => rfl
  refine ⟨fd, FnG.of F sc__law_told (fun vs H Q E h => h.1) (fun cdv A outer s H vs Q E hr hg h => ⟨_, PSs.nox (pss_one (ps_ret (pe_tup (pa_cons (pe_callG G__law_fraction (hr.mono (by decide)) hg rfl T.g__law_fraction F__law_fraction.kp B__law_fraction .nil pass0 (pa_cons (pe_ix ix_tup (pv 0) pe_int (fun _ _ => rfl)) (pa_cons (pe_ix ix_tup (pv 0) pe_int (fun _ _ => rfl)) pa_nil))) (pa_cons (pe_callG G__law_fraction (hr.mono (by decide)) hg rfl T.g__law_fraction F__law_fraction.kp B__law_fraction .nil pass0 (pa_cons (pe_ix ix_tup (pv 0) pe_int (fun _ _ => rfl)) (pa_cons (pe_ix ix_tup (pv 0) pe_int (fun _ _ => rfl)) pa_nil))) pa_nil))))), ?_⟩), F⟩
  refine body_D 0 rfl h fun p i hp hn => ?_
  obtain ⟨_, _⟩ := i
  obtain ⟨a, b, c, rfl, h0, ha, hb, hc, rfl⟩ := hp
  try dsimp only at *
  refine S_ret ?_
  refine W_tup ?_
  refine WA_cons ?_
  refine W_call ?_
  refine WA_cons ?_
  refine W_op ?_
  refine W_var rfl ?_
  refine W_int ?_
  refine WR_ixT rfl ?_
  refine WA_cons ?_
  refine W_op ?_
  refine W_var rfl ?_
  refine W_int ?_
  refine WR_ixT rfl ?_
  refine WA_nil ?_
  refine ⟨(_, _), rfl, rfl, by exact ⟨by walk_at "nz", by walk_at "bdm"⟩, ?_⟩
  rintro _ rfl
  refine WA_cons ?_
  refine W_call ?_
  refine WA_cons ?_
  refine W_op ?_
  refine W_var rfl ?_
  refine W_int ?_
  refine WR_ixT rfl ?_
  refine WA_cons ?_
  refine W_op ?_
  refine W_var rfl ?_
  refine W_int ?_
  refine WR_ixT rfl ?_
  refine WA_nil ?_
  refine ⟨(_, _), rfl, rfl, by exact ⟨by walk_at "nz", by walk_at "bdm"⟩, ?_⟩
  rintro _ rfl
  refine WA_nil ?_
  refine ⟨szl_of rfl, ?_⟩
  rfl
theorem sc__law_whole : FnScope ["pail", "top", "number"] ["pail"] (defScope s__law_whole) := ⟨rfl, rfl, rfl, by decide +kernel, rfl, by decide +kernel, by decide +kernel⟩
theorem ok__law_whole {P : Program} {w : World} {K : PySem.W.Frag} {mg : Str → Option Value} {base : Heap} (T : Txt K mg) :
    ∃ fd, FnG P w K mg base CX0 3 (He.ga K "_law_whole") fd ["pail"] (spP (ι := Unit) K 1 (fun _ => []) (fun _ => True) (fun _ d => ∃ i : Int, d = .int i ∧ Bd 150 i)) ∧ FunD K "_law_whole" "_law_whole" (defArgs s__law_whole) (defBody s__law_whole) (defScope s__law_whole) [] [] (He.ga K "_law_whole") fd := by
  obtain ⟨fd, F⟩ := T.f__law_whole
  obtain ⟨fd__law_one_of, G__law_one_of, F__law_one_of⟩ := ok__law_one_of (P := P) (w := w) (base := base) T
  obtain ⟨fd__law_dip, G__law_dip, F__law_dip⟩ := ok__law_dip (P := P) (w := w) (base := base) T
  have B__law_one_of := F__law_one_of.bindsN (ps := ["pail", "some"]) fun _ _ _ _ _ _ us hl => match us, hl with | [_, _], _ => rfl
  have B__law_dip := F__law_dip.bindsN (ps := ["pail", "many"]) fun _ _ _ _ _ _ us hl => match us, hl with | [_, _], _ => rfl
  refine ⟨fd, FnG.of F sc__law_whole (fun vs H Q E h => h.1) (fun cdv A outer s H vs Q E hr hg h => ⟨_, PSs.nox (pss_cons (ps_set (i := 1) sc__law_whole.nd rfl (Or.inl rfl) (pe_callG G__law_one_of (hr.mono (by decide)) hg rfl T.g__law_one_of F__law_one_of.kp B__law_one_of .nil pass0 (pa_cons (pv 0) (pa_cons (pe_lst (pa_cons pe_int (pa_cons pe_int (pa_cons pe_int (pa_cons pe_int (pa_cons pe_int (pa_cons (pe_op op_pow pe_int pe_int) pa_nil))))))) pa_nil)))) (pss_cons (ps_set (i := 2) sc__law_whole.nd rfl (Or.inl rfl) (pe_op op_mulX (pe_callG G__law_dip (hr.mono (by decide)) hg rfl T.g__law_dip F__law_dip.kp B__law_dip .nil pass0 (pa_cons (pv 0) (pa_cons (pv 1) pa_nil))) (pe_op op_sub pe_int (pe_op op_mulX pe_int (pe_callG G__law_dip (hr.mono (by decide)) hg rfl T.g__law_dip F__law_dip.kp B__law_dip .nil pass0 (pa_cons (pv 0) (pa_cons pe_int pa_nil))))))) (pss_cons (ps_if (pt_cmpR op_eq (pe_callG G__law_dip (hr.mono (by decide)) hg rfl T.g__law_dip F__law_dip.kp B__law_dip .nil pass0 (pa_cons (pv 0) (pa_cons pe_int pa_nil))) pe_int (nomark _)) (pss_one (ps_set (i := 2) sc__law_whole.nd rfl (Or.inl rfl) (pe_op op_add (pe_op op_mulX (pv 2) (pe_op op_pow pe_int pe_int)) (pe_callG G__law_dip (hr.mono (by decide)) hg rfl T.g__law_dip F__law_dip.kp B__law_dip .nil pass0 (pa_cons (pv 0) (pa_cons pe_int pa_nil)))))) pss_nil) (pss_one (ps_ret (pv 2)))))), ?_⟩), F⟩
  refine body_P 2 rfl h fun a _ _ hn => ?_
  try dsimp only at *
  refine S_seq ?_
  refine S_asg (Nat.le_of_ble_eq_true rfl) ?_
  refine W_callP rfl ?_
  refine WA_cons ?_
  refine W_of_WM ?_
  refine WM_lst ?_
  refine WA_cons ?_
  refine W_int ?_
  refine WA_cons ?_
  refine W_int ?_
  refine WA_cons ?_
  refine W_int ?_
  refine WA_cons ?_
  refine W_int ?_
  refine WA_cons ?_
  refine W_int ?_
  refine WA_cons ?_
  refine W_op ?_
  refine W_int ?_
  refine W_int ?_
  refine WR_pow (by walk_at "pows") ?_
  refine WA_nil ?_
  refine ⟨szl_of rfl, ?_⟩
  refine WA_nil ?_
  refine ⟨_, rfl, rfl, by exact ⟨Nat.le_of_ble_eq_true rfl, Nat.le_of_ble_eq_true rfl⟩, ?_⟩
  rintro _ hm
  obtain ⟨top, rfl, ht0, ht1⟩ := top_of hm
  refine S_env (by walk_at "env") ?_
  refine S_seq ?_
  refine S_asg (Nat.le_of_ble_eq_true rfl) ?_
  refine W_op ?_
  refine W_callP rfl ?_
  refine WA_cons ?_
  refine W_var rfl ?_
  refine WA_nil ?_
  refine ⟨_, rfl, rfl, by exact ⟨by first | omega | decide, by first | omega | decide⟩, ?_⟩
  rintro _ ⟨r1, rfl, hr10, hr11⟩
  have hrB1 := bd30 hr10 (by omega)
  refine W_op ?_
  refine W_int ?_
  refine W_op ?_
  refine W_int ?_
  refine W_callP rfl ?_
  refine WA_cons ?_
  refine W_int ?_
  refine WA_nil ?_
  refine ⟨_, rfl, rfl, by exact ⟨by first | omega | decide, by first | omega | decide⟩, ?_⟩
  rintro _ ⟨r2, rfl, hr20, hr21⟩
  have hrB2 := bd30 hr20 (by omega)
  refine WR_mul (by walk_at "bits") ?_
  refine WR_sub ?_
  refine WR_mul (by walk_at "bits") ?_
  refine S_env (by walk_at "env") ?_
  refine S_seq ?_
  refine S_if ?_
  refine WT_test ?_
  refine W_op ?_
  refine W_callP rfl ?_
  refine WA_cons ?_
  refine W_int ?_
  refine WA_nil ?_
  refine ⟨_, rfl, rfl, by exact ⟨by first | omega | decide, by first | omega | decide⟩, ?_⟩
  rintro _ ⟨r3, rfl, hr30, hr31⟩
  have hrB3 := bd30 hr30 (by omega)
  refine W_int ?_
  refine WR_eqI ?_
  refine ⟨_, rfl, ?_⟩
  refine ⟨fun hb1 => ?_, fun hb1 => ?_⟩
  · skip
    refine S_asg (Nat.le_of_ble_eq_true rfl) ?_
    refine W_op ?_
    refine W_op ?_
    refine W_var rfl ?_
    refine W_op ?_
    refine W_int ?_
    refine W_int ?_
    refine WR_pow (by walk_at "pows") ?_
    refine WR_mul (by walk_at "bits") ?_
    refine W_callP rfl ?_
    refine WA_cons ?_
    refine W_int ?_
    refine WA_nil ?_
    refine ⟨_, rfl, rfl, by exact ⟨by first | omega | decide, by first | omega | decide⟩, ?_⟩
    rintro _ ⟨r4, rfl, hr40, hr41⟩
    have hrB4 := bd30 hr40 (by omega)
    refine WR_add ?_
    refine S_env (by walk_at "env") ?_
    refine S_ret ?_
    refine W_var rfl ?_
    first
      | exact ⟨_, rfl, whole_bd2 hr10 (by omega) hr20 hr21 hr40 hr41⟩
      | exact ⟨_, rfl, whole_bd1 hr10 (by omega) hr20 hr21⟩
  · skip
    refine S_next ?_
    refine S_env (by walk_at "env") ?_
    refine S_ret ?_
    refine W_var rfl ?_
    first
      | exact ⟨_, rfl, whole_bd2 hr10 (by omega) hr20 hr21 hr40 hr41⟩
      | exact ⟨_, rfl, whole_bd1 hr10 (by omega) hr20 hr21⟩
theorem sc_over : FnScope ["x", "y", "n", "m"] ["x", "y"] (defScope s_over) := ⟨rfl, rfl, rfl, by decide +kernel, rfl, by decide +kernel, by decide +kernel⟩
theorem ok_over {P : Program} {w : World} {K : PySem.W.Frag} {mg : Str → Option Value} {base : Heap} (T : Txt K mg) :
    ∃ fd, FnG P w K mg base CX0 4 (He.ga K "over") fd ["x", "y"] (spD (ι := Cn × Cn) K 2 (fun i => [nm i.1, nm i.2]) (fun i => Cs 500 i.1 ∧ Cs 500 i.2 ∧ i.2.nsq ≠ 0) (fun i d => d = nm (i.1.div i.2))) ∧ FunD K "over" "over" (defArgs s_over) (defBody s_over) (defScope s_over) [] [] (He.ga K "over") fd := by
  obtain ⟨fd, F⟩ := T.f_over
  obtain ⟨fd_size_of, G_size_of, F_size_of⟩ := ok_size_of (P := P) (w := w) (base := base) T
  obtain ⟨fd_scaled, G_scaled, F_scaled⟩ := ok_scaled (P := P) (w := w) (base := base) T
  obtain ⟨fd_times, G_times, F_times⟩ := ok_times (P := P) (w := w) (base := base) T
  obtain ⟨fd_mirror, G_mirror, F_mirror⟩ := ok_mirror (P := P) (w := w) (base := base) T
  have B_size_of := F_size_of.bindsN (ps := ["x"]) fun _ _ _ _ _ _ us hl => match us, hl with | [_], _ => rfl
  have B_scaled := F_scaled.bindsN (ps := ["x", "fraction"]) fun _ _ _ _ _ _ us hl => match us, hl with | [_, _], _ => rfl
  have B_times := F_times.bindsN (ps := ["x", "y"]) fun _ _ _ _ _ _ us hl => match us, hl with | [_, _], _ => rfl
  have B_mirror := F_mirror.bindsN (ps := ["x"]) fun _ _ _ _ _ _ us hl => match us, hl with | [_], _ => rfl
  refine ⟨fd, FnG.of F sc_over (fun vs H Q E h => h.1) (fun cdv A outer s H vs Q E hr hg h => ⟨_, PSs.nox (pss_cons (ps_asg (pe_callG G_size_of (hr.mono (by decide)) hg rfl T.g_size_of F_size_of.kp B_size_of .nil pass0 (pa_cons (pv 1) pa_nil)) (pg_tup rfl (pgs_cons (pg_name (i := 2) sc_over.nd rfl (Or.inl rfl)) (pgs_cons (pg_name (i := 3) sc_over.nd rfl (Or.inl rfl)) pgs_nil)))) (pss_one (ps_ret (pe_callG G_scaled (hr.mono (by decide)) hg rfl T.g_scaled F_scaled.kp B_scaled .nil pass0 (pa_cons (pe_callG G_times (hr.mono (by decide)) hg rfl T.g_times F_times.kp B_times .nil pass0 (pa_cons (pv 0) (pa_cons (pe_callG G_mirror (hr.mono (by decide)) hg rfl T.g_mirror F_mirror.kp B_mirror .nil pass0 (pa_cons (pv 1) pa_nil)) pa_nil))) (pa_cons (pe_tup (pa_cons (pv 3) (pa_cons (pv 2) pa_nil))) pa_nil)))))), ?_⟩), F⟩
  refine body_D 2 rfl h fun p i hp hn => ?_
  obtain ⟨x, y⟩ := i
  obtain ⟨hx, hy, h0⟩ := hp
  try dsimp only at *
  refine S_seq ?_
  refine S_asgG ?_
  refine W_call ?_
  refine WA_cons ?_
  refine W_var rfl ?_
  refine WA_nil ?_
  refine ⟨_, rfl, rfl, by walk_at "csm", ?_⟩
  rintro _ rfl
  refine TG_tup rfl ?_
  refine TGs_cons ?_
  refine TG_name (Nat.le_of_ble_eq_true rfl) ?_
  refine TGs_cons ?_
  refine TG_name (Nat.le_of_ble_eq_true rfl) ?_
  refine TGs_nil ?_
  refine S_env (by walk_at "env") ?_
  refine S_ret ?_
  refine W_call ?_
  refine WA_cons ?_
  refine W_call ?_
  refine WA_cons ?_
  refine W_var rfl ?_
  refine WA_cons ?_
  refine W_call ?_
  refine WA_cons ?_
  refine W_var rfl ?_
  refine WA_nil ?_
  refine ⟨_, rfl, rfl, by trivial, ?_⟩
  rintro _ rfl
  refine WA_nil ?_
  refine ⟨(_, _), rfl, rfl, by exact ⟨by walk_at "csm", by walk_at "csm"⟩, ?_⟩
  rintro _ rfl
  refine WA_cons ?_
  refine W_tup ?_
  refine WA_cons ?_
  refine W_var rfl ?_
  refine WA_cons ?_
  refine W_var rfl ?_
  refine WA_nil ?_
  refine ⟨szl_of rfl, ?_⟩
  refine WA_nil ?_
  refine ⟨(x.mul y.conj, y.nsq⁻¹), congrArg (fun z => [_, z]) (over_eq y h0), rfl, by exact ⟨by walk_at "csm", over_rs hy h0⟩, ?_⟩
  rintro _ rfl
  exact congrArg nm (c_div x y h0)
theorem sc_need_number : FnScope ["given"] ["given"] (defScope s_need_number) := ⟨rfl, rfl, rfl, by decide +kernel, rfl, by decide +kernel, by decide +kernel⟩
theorem ok_need_number {P : Program} {w : World} {K : PySem.W.Frag} {mg : Str → Option Value} {base : Heap} (T : Txt K mg) :
    ∃ fd, FnG P w K mg base CX0 4 (He.ga K "need_number") fd ["given"] (spD (ι := Cn) K 1 (fun i => [nm i]) (fun _ => True) (fun _ d => d = .none)) ∧ FunD K "need_number" "need_number" (defArgs s_need_number) (defBody s_need_number) (defScope s_need_number) [] [] (He.ga K "need_number") fd := by
  obtain ⟨fd, F⟩ := T.f_need_number
  obtain ⟨fd_is_number, G_is_number, F_is_number⟩ := ok_is_number (P := P) (w := w) (base := base) T
  have B_is_number := F_is_number.bindsN (ps := ["value"]) fun _ _ _ _ _ _ us hl => match us, hl with | [_], _ => rfl
  refine ⟨fd, FnG.of F sc_need_number (fun vs H Q E h => h.1) (fun cdv A outer s H vs Q E hr hg h => ⟨_, PSs.nox (pss_one (ps_if (pt_not (pt_val (pe_callG G_is_number (hr.mono (by decide)) hg rfl T.g_is_number F_is_number.kp B_is_number .nil pass0 (pa_cons (pv 0) pa_nil)))) (pss_one ps_never) pss_nil)), ?_⟩), F⟩
  refine body_D 0 rfl h fun p x hx hn => ?_
  try dsimp only at *
  refine S_if ?_
  refine WT_not ?_
  refine WT_B ?_
  refine W_call ?_
  refine WA_cons ?_
  refine W_var rfl ?_
  refine WA_nil ?_
  refine ⟨_, rfl, rfl, by trivial, ?_⟩
  rintro _ rfl
  refine ⟨_, rfl, ?_⟩
  refine ⟨fun hb1 => ?_, fun hb1 => ?_⟩
  · skip
    refine S_never ?_
    first
      | rfl
      | (rw [isNm_nm] at hb1; cases hb1)
  · skip
    refine S_next ?_
    first
      | rfl
      | (rw [isNm_nm] at hb1; cases hb1)
theorem sc_compared : FnScope ["fraction", "other"] ["fraction", "other"] (defScope s_compared) := ⟨rfl, rfl, rfl, by decide +kernel, rfl, by decide +kernel, by decide +kernel⟩
theorem ok_compared {P : Program} {w : World} {K : PySem.W.Frag} {mg : Str → Option Value} {base : Heap} (T : Txt K mg) :
    ∃ fd, FnG P w K mg base CX0 4 (He.ga K "compared") fd ["fraction", "other"] (spD (ι := Rat × Rat) K 2 (fun i => [fr i.1, fr i.2]) (fun i => Rs 3000 i.1 ∧ Rs 3000 i.2) (fun i d => d = .int (ordI i.1 i.2))) ∧ FunD K "compared" "compared" (defArgs s_compared) (defBody s_compared) (defScope s_compared) [] [] (He.ga K "compared") fd := by
  obtain ⟨fd, F⟩ := T.f_compared
  obtain ⟨fd_need_fraction, G_need_fraction, F_need_fraction⟩ := ok_need_fraction (P := P) (w := w) (base := base) T
  obtain ⟨fd_order, G_order, F_order⟩ := ok_order (P := P) (w := w) (base := base) T
  have B_need_fraction := F_need_fraction.bindsN (ps := ["given"]) fun _ _ _ _ _ _ us hl => match us, hl with | [_], _ => rfl
  have B_order := F_order.bindsN (ps := ["x", "y"]) fun _ _ _ _ _ _ us hl => match us, hl with | [_, _], _ => rfl
  refine ⟨fd, FnG.of F sc_compared (fun vs H Q E h => h.1) (fun cdv A outer s H vs Q E hr hg h => ⟨_, PSs.nox (pss_cons (ps_expr (pe_callG G_need_fraction (hr.mono (by decide)) hg rfl T.g_need_fraction F_need_fraction.kp B_need_fraction .nil pass0 (pa_cons (pv 0) pa_nil))) (pss_cons (ps_expr (pe_callG G_need_fraction (hr.mono (by decide)) hg rfl T.g_need_fraction F_need_fraction.kp B_need_fraction .nil pass0 (pa_cons (pv 1) pa_nil))) (pss_one (ps_ret (pe_callG G_order (hr.mono (by decide)) hg rfl T.g_order F_order.kp B_order .nil pass0 (pa_cons (pv 0) (pa_cons (pv 1) pa_nil))))))), ?_⟩), F⟩
  refine body_D 0 rfl h fun p i hp hn => ?_
  obtain ⟨x, y⟩ := i
  obtain ⟨hx, hy⟩ := hp
  try dsimp only at *
  refine S_seq ?_
  refine S_drop ?_
  refine W_call ?_
  refine WA_cons ?_
  refine W_var rfl ?_
  refine WA_nil ?_
  refine ⟨_, rfl, rfl, by trivial, ?_⟩
  rintro _ rfl
  refine S_env (by walk_at "env") ?_
  refine S_seq ?_
  refine S_drop ?_
  refine W_call ?_
  refine WA_cons ?_
  refine W_var rfl ?_
  refine WA_nil ?_
  refine ⟨_, rfl, rfl, by trivial, ?_⟩
  rintro _ rfl
  refine S_env (by walk_at "env") ?_
  refine S_ret ?_
  refine W_call ?_
  refine WA_cons ?_
  refine W_var rfl ?_
  refine WA_cons ?_
  refine W_var rfl ?_
  refine WA_nil ?_
  refine ⟨(_, _), rfl, rfl, by exact ⟨by walk_at "rsm", by walk_at "rsm"⟩, ?_⟩
  rintro _ rfl
  rfl
theorem sc__law_below : FnScope ["pail", "number"] ["pail"] (defScope s__law_below) := ⟨rfl, rfl, rfl, by decide +kernel, rfl, by decide +kernel, by decide +kernel⟩
theorem ok__law_below {P : Program} {w : World} {K : PySem.W.Frag} {mg : Str → Option Value} {base : Heap} (T : Txt K mg) :
    ∃ fd, FnG P w K mg base CX0 4 (He.ga K "_law_below") fd ["pail"] (spP (ι := Unit) K 1 (fun _ => []) (fun _ => True) (fun _ d => ∃ i : Int, d = .int i ∧ Bd 150 i ∧ i ≠ 0)) ∧ FunD K "_law_below" "_law_below" (defArgs s__law_below) (defBody s__law_below) (defScope s__law_below) [] [] (He.ga K "_law_below") fd := by
  obtain ⟨fd, F⟩ := T.f__law_below
  obtain ⟨fd__law_whole, G__law_whole, F__law_whole⟩ := ok__law_whole (P := P) (w := w) (base := base) T
  obtain ⟨fd__law_dip, G__law_dip, F__law_dip⟩ := ok__law_dip (P := P) (w := w) (base := base) T
  have B__law_whole := F__law_whole.bindsN (ps := ["pail"]) fun _ _ _ _ _ _ us hl => match us, hl with | [_], _ => rfl
  have B__law_dip := F__law_dip.bindsN (ps := ["pail", "many"]) fun _ _ _ _ _ _ us hl => match us, hl with | [_, _], _ => rfl
  refine ⟨fd, FnG.of F sc__law_below (fun vs H Q E h => h.1) (fun cdv A outer s H vs Q E hr hg h => ⟨_, PSs.nox (pss_cons (ps_set (i := 1) sc__law_below.nd rfl (Or.inl rfl) (pe_callG G__law_whole (hr.mono (by decide)) hg rfl T.g__law_whole F__law_whole.kp B__law_whole .nil pass0 (pa_cons (pv 0) pa_nil))) (pss_one (ps_ret (pe_ifExp (pt_cmpR op_ne (pv 1) pe_int (nomark _)) (pv 1) (pe_op op_add pe_int (pe_callG G__law_dip (hr.mono (by decide)) hg rfl T.g__law_dip F__law_dip.kp B__law_dip .nil pass0 (pa_cons (pv 0) (pa_cons pe_int pa_nil)))))))), ?_⟩), F⟩
  refine body_P 1 rfl h fun a _ _ hn => ?_
  try dsimp only at *
  refine S_seq ?_
  refine S_asg (Nat.le_of_ble_eq_true rfl) ?_
  refine W_callP rfl ?_
  refine WA_nil ?_
  refine ⟨(), rfl, rfl, by trivial, ?_⟩
  rintro _ ⟨w, rfl, hw⟩
  refine S_env (by walk_at "env") ?_
  refine S_ret ?_
  refine W_if ?_
  refine WT_test ?_
  refine W_op ?_
  refine W_var rfl ?_
  refine W_int ?_
  refine WR_neI ?_
  refine ⟨_, rfl, ?_⟩
  refine ⟨fun hb1 => ?_, fun hb1 => ?_⟩
  · skip
    refine W_var rfl ?_
    first
      | exact ⟨_, rfl, hw, by simpa using hb1⟩
      | exact ⟨_, rfl, Bd.lit (Nat.lt_of_lt_of_le (show _ < 2 ^ 4 by omega) (by decide)), by omega⟩
  · skip
    refine W_op ?_
    refine W_int ?_
    refine W_callP rfl ?_
    refine WA_cons ?_
    refine W_int ?_
    refine WA_nil ?_
    refine ⟨_, rfl, rfl, by exact ⟨by first | omega | decide, by first | omega | decide⟩, ?_⟩
    rintro _ ⟨r1, rfl, hr10, hr11⟩
    have hrB1 := bd30 hr10 (by omega)
    refine WR_add ?_
    first
      | exact ⟨_, rfl, hw, by simpa using hb1⟩
      | exact ⟨_, rfl, Bd.lit (Nat.lt_of_lt_of_le (show _ < 2 ^ 4 by omega) (by decide)), by omega⟩
theorem sc__law_where : FnScope ["x", "n", "m"] ["x"] (defScope s__law_where) := ⟨rfl, rfl, rfl, by decide +kernel, rfl, by decide +kernel, by decide +kernel⟩
theorem ok__law_where {P : Program} {w : World} {K : PySem.W.Frag} {mg : Str → Option Value} {base : Heap} (T : Txt K mg) :
    ∃ fd, FnG P w K mg base CX0 4 (He.ga K "_law_where") fd ["x"] (spD (ι := PyData × Cn) K 1 (fun i => [i.1]) (fun i => Tr 300 i.2 i.1) (fun i d => d = .str (whereS i.2.nsq))) ∧ FunD K "_law_where" "_law_where" (defArgs s__law_where) (defBody s__law_where) (defScope s__law_where) [] [] (He.ga K "_law_where") fd := by
  obtain ⟨fd, F⟩ := T.f__law_where
  obtain ⟨fd__law_size, G__law_size, F__law_size⟩ := ok__law_size (P := P) (w := w) (base := base) T
  have B__law_size := F__law_size.bindsN (ps := ["x"]) fun _ _ _ _ _ _ us hl => match us, hl with | [_], _ => rfl
  refine ⟨fd, FnG.of F sc__law_where (fun vs H Q E h => h.1) (fun cdv A outer s H vs Q E hr hg h => ⟨_, PSs.nox (pss_cons (ps_asg (pe_callG G__law_size (hr.mono (by decide)) hg rfl T.g__law_size F__law_size.kp B__law_size .nil pass0 (pa_cons (pv 0) pa_nil)) (pg_tup rfl (pgs_cons (pg_name (i := 1) sc__law_where.nd rfl (Or.inl rfl)) (pgs_cons (pg_name (i := 2) sc__law_where.nd rfl (Or.inl rfl)) pgs_nil)))) (pss_one (ps_ret (pe_ifExp (pt_cmpR op_lt (pv 1) (pv 2) (nomark _)) pe_str (pe_ifExp (pt_cmpR op_eq (pv 1) (pv 2) (nomark _)) pe_str pe_str))))), ?_⟩), F⟩
  refine body_D 2 rfl h fun p i ht0 hn => ?_
  obtain ⟨_, z⟩ := i
  try dsimp only at *
  refine S_seq ?_
  refine S_asgG ?_
  refine W_call ?_
  refine WA_cons ?_
  refine W_var rfl ?_
  refine WA_nil ?_
  refine ⟨(_, _), rfl, rfl, by walk_at "tr", ?_⟩
  rintro _ rfl
  refine TG_tup rfl ?_
  refine TGs_cons ?_
  refine TG_name (Nat.le_of_ble_eq_true rfl) ?_
  refine TGs_cons ?_
  refine TG_name (Nat.le_of_ble_eq_true rfl) ?_
  refine TGs_nil ?_
  refine S_env (by walk_at "env") ?_
  refine S_ret ?_
  refine W_if ?_
  refine WT_test ?_
  refine W_op ?_
  refine W_var rfl ?_
  refine W_var rfl ?_
  refine WR_lt ?_
  refine ⟨_, rfl, ?_⟩
  refine ⟨fun hb1 => ?_, fun hb1 => ?_⟩
  · skip
    refine W_str ?_
    first
      | exact congrArg PyData.str (where_disc' _ (of_decide_eq_true hb1)).symm
      | exact congrArg PyData.str (where_rim' _ (of_decide_eq_true hb2)).symm
      | exact congrArg PyData.str (where_beyond' _ (of_decide_eq_false hb1) (of_decide_eq_false hb2)).symm
  · skip
    refine W_if ?_
    refine WT_test ?_
    refine W_op ?_
    refine W_var rfl ?_
    refine W_var rfl ?_
    refine WR_eqI ?_
    refine ⟨_, rfl, ?_⟩
    refine ⟨fun hb2 => ?_, fun hb2 => ?_⟩
    · skip
      refine W_str ?_
      first
        | exact congrArg PyData.str (where_disc' _ (of_decide_eq_true hb1)).symm
        | exact congrArg PyData.str (where_rim' _ (of_decide_eq_true hb2)).symm
        | exact congrArg PyData.str (where_beyond' _ (of_decide_eq_false hb1) (of_decide_eq_false hb2)).symm
    · skip
      refine W_str ?_
      first
        | exact congrArg PyData.str (where_disc' _ (of_decide_eq_true hb1)).symm
        | exact congrArg PyData.str (where_rim' _ (of_decide_eq_true hb2)).symm
        | exact congrArg PyData.str (where_beyond' _ (of_decide_eq_false hb1) (of_decide_eq_false hb2)).symm
theorem sc_number_sum : FnScope ["number", "other"] ["number", "other"] (defScope s_number_sum) := ⟨rfl, rfl, rfl, by decide +kernel, rfl, by decide +kernel, by decide +kernel⟩
theorem ok_number_sum {P : Program} {w : World} {K : PySem.W.Frag} {mg : Str → Option Value} {base : Heap} (T : Txt K mg) :
    ∃ fd, FnG P w K mg base CX0 5 (He.ga K "number_sum") fd ["number", "other"] (spD (ι := Cn × Cn) K 2 (fun i => [nm i.1, nm i.2]) (fun i => Cs 1000 i.1 ∧ Cs 1000 i.2) (fun i d => d = nm (i.1.add i.2))) ∧ FunD K "number_sum" "number_sum" (defArgs s_number_sum) (defBody s_number_sum) (defScope s_number_sum) [] [] (He.ga K "number_sum") fd := by
  obtain ⟨fd, F⟩ := T.f_number_sum
  obtain ⟨fd_need_number, G_need_number, F_need_number⟩ := ok_need_number (P := P) (w := w) (base := base) T
  obtain ⟨fd_plus, G_plus, F_plus⟩ := ok_plus (P := P) (w := w) (base := base) T
  have B_need_number := F_need_number.bindsN (ps := ["given"]) fun _ _ _ _ _ _ us hl => match us, hl with | [_], _ => rfl
  have B_plus := F_plus.bindsN (ps := ["x", "y"]) fun _ _ _ _ _ _ us hl => match us, hl with | [_, _], _ => rfl
  refine ⟨fd, FnG.of F sc_number_sum (fun vs H Q E h => h.1) (fun cdv A outer s H vs Q E hr hg h => ⟨_, PSs.nox (pss_cons (ps_expr (pe_callG G_need_number (hr.mono (by decide)) hg rfl T.g_need_number F_need_number.kp B_need_number .nil pass0 (pa_cons (pv 0) pa_nil))) (pss_cons (ps_expr (pe_callG G_need_number (hr.mono (by decide)) hg rfl T.g_need_number F_need_number.kp B_need_number .nil pass0 (pa_cons (pv 1) pa_nil))) (pss_one (ps_ret (pe_callG G_plus (hr.mono (by decide)) hg rfl T.g_plus F_plus.kp B_plus .nil pass0 (pa_cons (pv 0) (pa_cons (pv 1) pa_nil))))))), ?_⟩), F⟩
  refine body_D 0 rfl h fun p i hp hn => ?_
  obtain ⟨x, y⟩ := i
  obtain ⟨hx, hy⟩ := hp
  try dsimp only at *
  refine S_seq ?_
  refine S_drop ?_
  refine W_call ?_
  refine WA_cons ?_
  refine W_var rfl ?_
  refine WA_nil ?_
  refine ⟨_, rfl, rfl, by trivial, ?_⟩
  rintro _ rfl
  refine S_env (by walk_at "env") ?_
  refine S_seq ?_
  refine S_drop ?_
  refine W_call ?_
  refine WA_cons ?_
  refine W_var rfl ?_
  refine WA_nil ?_
  refine ⟨_, rfl, rfl, by trivial, ?_⟩
  rintro _ rfl
  refine S_env (by walk_at "env") ?_
  refine S_ret ?_
  refine W_call ?_
  refine WA_cons ?_
  refine W_var rfl ?_
  refine WA_cons ?_
  refine W_var rfl ?_
  refine WA_nil ?_
  refine ⟨(_, _), rfl, rfl, by exact ⟨by walk_at "csm", by walk_at "csm"⟩, ?_⟩
  rintro _ rfl
  rfl
theorem sc_number_less : FnScope ["number", "other"] ["number", "other"] (defScope s_number_less) := ⟨rfl, rfl, rfl, by decide +kernel, rfl, by decide +kernel, by decide +kernel⟩
theorem ok_number_less {P : Program} {w : World} {K : PySem.W.Frag} {mg : Str → Option Value} {base : Heap} (T : Txt K mg) :
    ∃ fd, FnG P w K mg base CX0 5 (He.ga K "number_less") fd ["number", "other"] (spD (ι := Cn × Cn) K 2 (fun i => [nm i.1, nm i.2]) (fun i => Cs 1000 i.1 ∧ Cs 1000 i.2) (fun i d => d = nm (i.1.sub i.2))) ∧ FunD K "number_less" "number_less" (defArgs s_number_less) (defBody s_number_less) (defScope s_number_less) [] [] (He.ga K "number_less") fd := by
  obtain ⟨fd, F⟩ := T.f_number_less
  obtain ⟨fd_need_number, G_need_number, F_need_number⟩ := ok_need_number (P := P) (w := w) (base := base) T
  obtain ⟨fd_less, G_less, F_less⟩ := ok_less (P := P) (w := w) (base := base) T
  have B_need_number := F_need_number.bindsN (ps := ["given"]) fun _ _ _ _ _ _ us hl => match us, hl with | [_], _ => rfl
  have B_less := F_less.bindsN (ps := ["x", "y"]) fun _ _ _ _ _ _ us hl => match us, hl with | [_, _], _ => rfl
  refine ⟨fd, FnG.of F sc_number_less (fun vs H Q E h => h.1) (fun cdv A outer s H vs Q E hr hg h => ⟨_, PSs.nox (pss_cons (ps_expr (pe_callG G_need_number (hr.mono (by decide)) hg rfl T.g_need_number F_need_number.kp B_need_number .nil pass0 (pa_cons (pv 0) pa_nil))) (pss_cons (ps_expr (pe_callG G_need_number (hr.mono (by decide)) hg rfl T.g_need_number F_need_number.kp B_need_number .nil pass0 (pa_cons (pv 1) pa_nil))) (pss_one (ps_ret (pe_callG G_less (hr.mono (by decide)) hg rfl T.g_less F_less.kp B_less .nil pass0 (pa_cons (pv 0) (pa_cons (pv 1) pa_nil))))))), ?_⟩), F⟩
  refine body_D 0 rfl h fun p i hp hn => ?_
  obtain ⟨x, y⟩ := i
  obtain ⟨hx, hy⟩ := hp
  try dsimp only at *
  refine S_seq ?_
  refine S_drop ?_
  refine W_call ?_
  refine WA_cons ?_
  refine W_var rfl ?_
  refine WA_nil ?_
  refine ⟨_, rfl, rfl, by trivial, ?_⟩
  rintro _ rfl
  refine S_env (by walk_at "env") ?_
  refine S_seq ?_
  refine S_drop ?_
  refine W_call ?_
  refine WA_cons ?_
  refine W_var rfl ?_
  refine WA_nil ?_
  refine ⟨_, rfl, rfl, by trivial, ?_⟩
  rintro _ rfl
  refine S_env (by walk_at "env") ?_
  refine S_ret ?_
  refine W_call ?_
  refine WA_cons ?_
  refine W_var rfl ?_
  refine WA_cons ?_
  refine W_var rfl ?_
  refine WA_nil ?_
  refine ⟨(_, _), rfl, rfl, by exact ⟨by walk_at "csm", by walk_at "csm"⟩, ?_⟩
  rintro _ rfl
  rfl
theorem sc_number_product : FnScope ["number", "other"] ["number", "other"] (defScope s_number_product) := ⟨rfl, rfl, rfl, by decide +kernel, rfl, by decide +kernel, by decide +kernel⟩
theorem ok_number_product {P : Program} {w : World} {K : PySem.W.Frag} {mg : Str → Option Value} {base : Heap} (T : Txt K mg) :
    ∃ fd, FnG P w K mg base CX0 5 (He.ga K "number_product") fd ["number", "other"] (spD (ι := Cn × Cn) K 2 (fun i => [nm i.1, nm i.2]) (fun i => Cs 1000 i.1 ∧ Cs 1000 i.2) (fun i d => d = nm (i.1.mul i.2))) ∧ FunD K "number_product" "number_product" (defArgs s_number_product) (defBody s_number_product) (defScope s_number_product) [] [] (He.ga K "number_product") fd := by
  obtain ⟨fd, F⟩ := T.f_number_product
  obtain ⟨fd_need_number, G_need_number, F_need_number⟩ := ok_need_number (P := P) (w := w) (base := base) T
  obtain ⟨fd_times, G_times, F_times⟩ := ok_times (P := P) (w := w) (base := base) T
  have B_need_number := F_need_number.bindsN (ps := ["given"]) fun _ _ _ _ _ _ us hl => match us, hl with | [_], _ => rfl
  have B_times := F_times.bindsN (ps := ["x", "y"]) fun _ _ _ _ _ _ us hl => match us, hl with | [_, _], _ => rfl
  refine ⟨fd, FnG.of F sc_number_product (fun vs H Q E h => h.1) (fun cdv A outer s H vs Q E hr hg h => ⟨_, PSs.nox (pss_cons (ps_expr (pe_callG G_need_number (hr.mono (by decide)) hg rfl T.g_need_number F_need_number.kp B_need_number .nil pass0 (pa_cons (pv 0) pa_nil))) (pss_cons (ps_expr (pe_callG G_need_number (hr.mono (by decide)) hg rfl T.g_need_number F_need_number.kp B_need_number .nil pass0 (pa_cons (pv 1) pa_nil))) (pss_one (ps_ret (pe_callG G_times (hr.mono (by decide)) hg rfl T.g_times F_times.kp B_times .nil pass0 (pa_cons (pv 0) (pa_cons (pv 1) pa_nil))))))), ?_⟩), F⟩
  refine body_D 0 rfl h fun p i hp hn => ?_
  obtain ⟨x, y⟩ := i
  obtain ⟨hx, hy⟩ := hp
  try dsimp only at *
  refine S_seq ?_
  refine S_drop ?_
  refine W_call ?_
  refine WA_cons ?_
  refine W_var rfl ?_
  refine WA_nil ?_
  refine ⟨_, rfl, rfl, by trivial, ?_⟩
  rintro _ rfl
  refine S_env (by walk_at "env") ?_
  refine S_seq ?_
  refine S_drop ?_
  refine W_call ?_
  refine WA_cons ?_
  refine W_var rfl ?_
  refine WA_nil ?_
  refine ⟨_, rfl, rfl, by trivial, ?_⟩
  rintro _ rfl
  refine S_env (by walk_at "env") ?_
  refine S_ret ?_
  refine W_call ?_
  refine WA_cons ?_
  refine W_var rfl ?_
  refine WA_cons ?_
  refine W_var rfl ?_
  refine WA_nil ?_
  refine ⟨(_, _), rfl, rfl, by exact ⟨by walk_at "csm", by walk_at "csm"⟩, ?_⟩
  rintro _ rfl
  rfl
theorem sc_number_over : FnScope ["number", "other"] ["number", "other"] (defScope s_number_over) := ⟨rfl, rfl, rfl, by decide +kernel, rfl, by decide +kernel, by decide +kernel⟩
theorem ok_number_over {P : Program} {w : World} {K : PySem.W.Frag} {mg : Str → Option Value} {base : Heap} (T : Txt K mg) :
    ∃ fd, FnG P w K mg base CX0 5 (He.ga K "number_over") fd ["number", "other"] (spD (ι := Cn × Cn) K 2 (fun i => [nm i.1, nm i.2]) (fun i => Cs 500 i.1 ∧ Cs 500 i.2 ∧ i.2.nsq ≠ 0) (fun i d => d = nm (i.1.div i.2))) ∧ FunD K "number_over" "number_over" (defArgs s_number_over) (defBody s_number_over) (defScope s_number_over) [] [] (He.ga K "number_over") fd := by
  obtain ⟨fd, F⟩ := T.f_number_over
  obtain ⟨fd_need_number, G_need_number, F_need_number⟩ := ok_need_number (P := P) (w := w) (base := base) T
  obtain ⟨fd_over, G_over, F_over⟩ := ok_over (P := P) (w := w) (base := base) T
  have B_need_number := F_need_number.bindsN (ps := ["given"]) fun _ _ _ _ _ _ us hl => match us, hl with | [_], _ => rfl
  have B_over := F_over.bindsN (ps := ["x", "y"]) fun _ _ _ _ _ _ us hl => match us, hl with | [_, _], _ => rfl
  obtain ⟨⟨v_NOUGHT, u_NOUGHT, m_NOUGHT, r_NOUGHT, d_NOUGHT⟩⟩ := T.c_NOUGHT
  refine ⟨fd, FnG.of F sc_number_over (fun vs H Q E h => h.1) (fun cdv A outer s H vs Q E hr hg h => ⟨_, PSs.nox (pss_cons (ps_expr (pe_callG G_need_number (hr.mono (by decide)) hg rfl T.g_need_number F_need_number.kp B_need_number .nil pass0 (pa_cons (pv 0) pa_nil))) (pss_cons (ps_expr (pe_callG G_need_number (hr.mono (by decide)) hg rfl T.g_need_number F_need_number.kp B_need_number .nil pass0 (pa_cons (pv 1) pa_nil))) (pss_cons (ps_if (pt_cmpR (op_eqD hr.units) (pv 1) (pe_glob rfl m_NOUGHT r_NOUGHT) (nomark _)) (pss_one ps_never) pss_nil) (pss_one (ps_ret (pe_callG G_over (hr.mono (by decide)) hg rfl T.g_over F_over.kp B_over .nil pass0 (pa_cons (pv 0) (pa_cons (pv 1) pa_nil)))))))), ?_⟩), F⟩
  refine body_D 0 rfl h fun p i hp hn => ?_
  obtain ⟨x, y⟩ := i
  obtain ⟨hx, hy, h0⟩ := hp
  try dsimp only at *
  refine S_seq ?_
  refine S_drop ?_
  refine W_call ?_
  refine WA_cons ?_
  refine W_var rfl ?_
  refine WA_nil ?_
  refine ⟨_, rfl, rfl, by trivial, ?_⟩
  rintro _ rfl
  refine S_env (by walk_at "env") ?_
  refine S_seq ?_
  refine S_drop ?_
  refine W_call ?_
  refine WA_cons ?_
  refine W_var rfl ?_
  refine WA_nil ?_
  refine ⟨_, rfl, rfl, by trivial, ?_⟩
  rintro _ rfl
  refine S_env (by walk_at "env") ?_
  refine S_seq ?_
  refine S_if ?_
  refine WT_test ?_
  refine W_op ?_
  refine W_var rfl ?_
  refine W_con d_NOUGHT ?_
  refine WR_eqD (rfl) (rfl) ?_
  refine ⟨_, rfl, ?_⟩
  refine ⟨fun hb1 => ?_, fun hb1 => ?_⟩
  · skip
    refine S_never ?_
    first
      | rfl
      | exact h0 (nought_nsq y hb1)
  · skip
    refine S_next ?_
    refine S_env (by walk_at "env") ?_
    refine S_ret ?_
    refine W_call ?_
    refine WA_cons ?_
    refine W_var rfl ?_
    refine WA_cons ?_
    refine W_var rfl ?_
    refine WA_nil ?_
    refine ⟨(_, _), rfl, rfl, by exact ⟨by walk_at "csm", by walk_at "csm", by assumption⟩, ?_⟩
    rintro _ rfl
    first
      | rfl
      | exact h0 (nought_nsq y hb1)
theorem sc_mirrored : FnScope ["number"] ["number"] (defScope s_mirrored) := ⟨rfl, rfl, rfl, by decide +kernel, rfl, by decide +kernel, by decide +kernel⟩
theorem ok_mirrored {P : Program} {w : World} {K : PySem.W.Frag} {mg : Str → Option Value} {base : Heap} (T : Txt K mg) :
    ∃ fd, FnG P w K mg base CX0 5 (He.ga K "mirrored") fd ["number"] (spD (ι := Cn) K 1 (fun i => [nm i]) (fun _ => True) (fun i d => d = nm i.conj)) ∧ FunD K "mirrored" "mirrored" (defArgs s_mirrored) (defBody s_mirrored) (defScope s_mirrored) [] [] (He.ga K "mirrored") fd := by
  obtain ⟨fd, F⟩ := T.f_mirrored
  obtain ⟨fd_need_number, G_need_number, F_need_number⟩ := ok_need_number (P := P) (w := w) (base := base) T
  obtain ⟨fd_mirror, G_mirror, F_mirror⟩ := ok_mirror (P := P) (w := w) (base := base) T
  have B_need_number := F_need_number.bindsN (ps := ["given"]) fun _ _ _ _ _ _ us hl => match us, hl with | [_], _ => rfl
  have B_mirror := F_mirror.bindsN (ps := ["x"]) fun _ _ _ _ _ _ us hl => match us, hl with | [_], _ => rfl
  refine ⟨fd, FnG.of F sc_mirrored (fun vs H Q E h => h.1) (fun cdv A outer s H vs Q E hr hg h => ⟨_, PSs.nox (pss_cons (ps_expr (pe_callG G_need_number (hr.mono (by decide)) hg rfl T.g_need_number F_need_number.kp B_need_number .nil pass0 (pa_cons (pv 0) pa_nil))) (pss_one (ps_ret (pe_callG G_mirror (hr.mono (by decide)) hg rfl T.g_mirror F_mirror.kp B_mirror .nil pass0 (pa_cons (pv 0) pa_nil))))), ?_⟩), F⟩
  refine body_D 0 rfl h fun p i hp hn => ?_
  try dsimp only at *
  refine S_seq ?_
  refine S_drop ?_
  refine W_call ?_
  refine WA_cons ?_
  refine W_var rfl ?_
  refine WA_nil ?_
  refine ⟨_, rfl, rfl, by trivial, ?_⟩
  rintro _ rfl
  refine S_env (by walk_at "env") ?_
  refine S_ret ?_
  refine W_call ?_
  refine WA_cons ?_
  refine W_var rfl ?_
  refine WA_nil ?_
  refine ⟨_, rfl, rfl, by trivial, ?_⟩
  rintro _ rfl
  rfl
theorem sc_size : FnScope ["number"] ["number"] (defScope s_size) := ⟨rfl, rfl, rfl, by decide +kernel, rfl, by decide +kernel, by decide +kernel⟩
theorem ok_size {P : Program} {w : World} {K : PySem.W.Frag} {mg : Str → Option Value} {base : Heap} (T : Txt K mg) :
    ∃ fd, FnG P w K mg base CX0 5 (He.ga K "size") fd ["number"] (spD (ι := Cn) K 1 (fun i => [nm i]) (fun i => Cs 1000 i) (fun i d => d = fr i.nsq)) ∧ FunD K "size" "size" (defArgs s_size) (defBody s_size) (defScope s_size) [] [] (He.ga K "size") fd := by
  obtain ⟨fd, F⟩ := T.f_size
  obtain ⟨fd_need_number, G_need_number, F_need_number⟩ := ok_need_number (P := P) (w := w) (base := base) T
  obtain ⟨fd_size_of, G_size_of, F_size_of⟩ := ok_size_of (P := P) (w := w) (base := base) T
  have B_need_number := F_need_number.bindsN (ps := ["given"]) fun _ _ _ _ _ _ us hl => match us, hl with | [_], _ => rfl
  have B_size_of := F_size_of.bindsN (ps := ["x"]) fun _ _ _ _ _ _ us hl => match us, hl with | [_], _ => rfl
  refine ⟨fd, FnG.of F sc_size (fun vs H Q E h => h.1) (fun cdv A outer s H vs Q E hr hg h => ⟨_, PSs.nox (pss_cons (ps_expr (pe_callG G_need_number (hr.mono (by decide)) hg rfl T.g_need_number F_need_number.kp B_need_number .nil pass0 (pa_cons (pv 0) pa_nil))) (pss_one (ps_ret (pe_callG G_size_of (hr.mono (by decide)) hg rfl T.g_size_of F_size_of.kp B_size_of .nil pass0 (pa_cons (pv 0) pa_nil))))), ?_⟩), F⟩
  refine body_D 0 rfl h fun p x hx hn => ?_
  try dsimp only at *
  refine S_seq ?_
  refine S_drop ?_
  refine W_call ?_
  refine WA_cons ?_
  refine W_var rfl ?_
  refine WA_nil ?_
  refine ⟨_, rfl, rfl, by trivial, ?_⟩
  rintro _ rfl
  refine S_env (by walk_at "env") ?_
  refine S_ret ?_
  refine W_call ?_
  refine WA_cons ?_
  refine W_var rfl ?_
  refine WA_nil ?_
  refine ⟨_, rfl, rfl, by walk_at "csm", ?_⟩
  rintro _ rfl
  rfl
theorem sc_lies : FnScope ["number", "side"] ["number"] (defScope s_lies) := ⟨rfl, rfl, rfl, by decide +kernel, rfl, by decide +kernel, by decide +kernel⟩
theorem ok_lies {P : Program} {w : World} {K : PySem.W.Frag} {mg : Str → Option Value} {base : Heap} (T : Txt K mg) :
    ∃ fd, FnG P w K mg base CX0 5 (He.ga K "lies") fd ["number"] (spD (ι := Cn) K 1 (fun i => [nm i]) (fun i => Cs 500 i) (fun i d => d = .str (whereS i.nsq))) ∧ FunD K "lies" "lies" (defArgs s_lies) (defBody s_lies) (defScope s_lies) [] [] (He.ga K "lies") fd := by
  obtain ⟨fd, F⟩ := T.f_lies
  obtain ⟨fd_need_number, G_need_number, F_need_number⟩ := ok_need_number (P := P) (w := w) (base := base) T
  obtain ⟨fd_order, G_order, F_order⟩ := ok_order (P := P) (w := w) (base := base) T
  obtain ⟨fd_size_of, G_size_of, F_size_of⟩ := ok_size_of (P := P) (w := w) (base := base) T
  have B_need_number := F_need_number.bindsN (ps := ["given"]) fun _ _ _ _ _ _ us hl => match us, hl with | [_], _ => rfl
  have B_order := F_order.bindsN (ps := ["x", "y"]) fun _ _ _ _ _ _ us hl => match us, hl with | [_, _], _ => rfl
  have B_size_of := F_size_of.bindsN (ps := ["x"]) fun _ _ _ _ _ _ us hl => match us, hl with | [_], _ => rfl
  obtain ⟨⟨v_ONE, u_ONE, m_ONE, r_ONE, d_ONE⟩⟩ := T.c_ONE
  refine ⟨fd, FnG.of F sc_lies (fun vs H Q E h => h.1) (fun cdv A outer s H vs Q E hr hg h => ⟨_, PSs.nox (pss_cons (ps_expr (pe_callG G_need_number (hr.mono (by decide)) hg rfl T.g_need_number F_need_number.kp B_need_number .nil pass0 (pa_cons (pv 0) pa_nil))) (pss_cons (ps_set (i := 1) sc_lies.nd rfl (Or.inl rfl) (pe_callG G_order (hr.mono (by decide)) hg rfl T.g_order F_order.kp B_order .nil pass0 (pa_cons (pe_callG G_size_of (hr.mono (by decide)) hg rfl T.g_size_of F_size_of.kp B_size_of .nil pass0 (pa_cons (pv 0) pa_nil)) (pa_cons (pe_glob rfl m_ONE r_ONE) pa_nil)))) (pss_cons (ps_if (pt_cmpR op_eq (pv 1) pe_int (nomark _)) (pss_one (ps_ret pe_str)) pss_nil) (pss_one (ps_ret (pe_ifExp (pt_cmpR op_lt (pv 1) pe_int (nomark _)) pe_str pe_str)))))), ?_⟩), F⟩
  refine body_D 1 rfl h fun p x hx hn => ?_
  try dsimp only at *
  refine S_seq ?_
  refine S_drop ?_
  refine W_call ?_
  refine WA_cons ?_
  refine W_var rfl ?_
  refine WA_nil ?_
  refine ⟨_, rfl, rfl, by trivial, ?_⟩
  rintro _ rfl
  refine S_env (by walk_at "env") ?_
  refine S_seq ?_
  refine S_asg (Nat.le_of_ble_eq_true rfl) ?_
  refine W_call ?_
  refine WA_cons ?_
  refine W_call ?_
  refine WA_cons ?_
  refine W_var rfl ?_
  refine WA_nil ?_
  refine ⟨_, rfl, rfl, by walk_at "csm", ?_⟩
  rintro _ rfl
  refine WA_cons ?_
  refine W_con d_ONE ?_
  refine WA_nil ?_
  refine ⟨(_, _), rfl, rfl, by exact ⟨by walk_at "rsm", by walk_at "rsm"⟩, ?_⟩
  rintro _ rfl
  refine S_env (by walk_at "env") ?_
  refine S_seq ?_
  refine S_if ?_
  refine WT_test ?_
  refine W_op ?_
  refine W_var rfl ?_
  refine W_int ?_
  refine WR_eqI ?_
  refine ⟨_, rfl, ?_⟩
  refine ⟨fun hb1 => ?_, fun hb1 => ?_⟩
  · skip
    refine S_ret ?_
    refine W_str ?_
    first
      | exact congrArg PyData.str (where_rim _ (of_decide_eq_true hb1)).symm
      | exact congrArg PyData.str (where_disc _ (of_decide_eq_false hb1) (of_decide_eq_true hb2)).symm
      | exact congrArg PyData.str (where_beyond _ (of_decide_eq_false hb1) (of_decide_eq_false hb2)).symm
  · skip
    refine S_next ?_
    refine S_env (by walk_at "env") ?_
    refine S_ret ?_
    refine W_if ?_
    refine WT_test ?_
    refine W_op ?_
    refine W_var rfl ?_
    refine W_int ?_
    refine WR_lt ?_
    refine ⟨_, rfl, ?_⟩
    refine ⟨fun hb2 => ?_, fun hb2 => ?_⟩
    · skip
      refine W_str ?_
      first
        | exact congrArg PyData.str (where_rim _ (of_decide_eq_true hb1)).symm
        | exact congrArg PyData.str (where_disc _ (of_decide_eq_false hb1) (of_decide_eq_true hb2)).symm
        | exact congrArg PyData.str (where_beyond _ (of_decide_eq_false hb1) (of_decide_eq_false hb2)).symm
    · skip
      refine W_str ?_
      first
        | exact congrArg PyData.str (where_rim _ (of_decide_eq_true hb1)).symm
        | exact congrArg PyData.str (where_disc _ (of_decide_eq_false hb1) (of_decide_eq_true hb2)).symm
        | exact congrArg PyData.str (where_beyond _ (of_decide_eq_false hb1) (of_decide_eq_false hb2)).symm
theorem sc__law_triple : FnScope ["pail", "a", "b", "d", "way"] ["pail"] (defScope s__law_triple) := ⟨rfl, rfl, rfl, by decide +kernel, rfl, by decide +kernel, by decide +kernel⟩
theorem ok__law_triple {P : Program} {w : World} {K : PySem.W.Frag} {mg : Str → Option Value} {base : Heap} (T : Txt K mg) :
    ∃ fd, FnG P w K mg base CX0 5 (He.ga K "_law_triple") fd ["pail"] (spP (ι := Unit) K 1 (fun _ => []) (fun _ => True) (fun _ d => ∃ z : Cn, Tr 150 z d)) ∧ FunD K "_law_triple" "_law_triple" (defArgs s__law_triple) (defBody s__law_triple) (defScope s__law_triple) [] [] (He.ga K "_law_triple") fd := by
  obtain ⟨fd, F⟩ := T.f__law_triple
  obtain ⟨fd__law_dip, G__law_dip, F__law_dip⟩ := ok__law_dip (P := P) (w := w) (base := base) T
  obtain ⟨fd__law_cut, G__law_cut, F__law_cut⟩ := ok__law_cut (P := P) (w := w) (base := base) T
  obtain ⟨fd__law_whole, G__law_whole, F__law_whole⟩ := ok__law_whole (P := P) (w := w) (base := base) T
  obtain ⟨fd__law_below, G__law_below, F__law_below⟩ := ok__law_below (P := P) (w := w) (base := base) T
  have B__law_dip := F__law_dip.bindsN (ps := ["pail", "many"]) fun _ _ _ _ _ _ us hl => match us, hl with | [_, _], _ => rfl
  have B__law_cut := F__law_cut.bindsN (ps := ["a", "b", "d"]) fun _ _ _ _ _ _ us hl => match us, hl with | [_, _, _], _ => rfl
  have B__law_whole := F__law_whole.bindsN (ps := ["pail"]) fun _ _ _ _ _ _ us hl => match us, hl with | [_], _ => rfl
  have B__law_below := F__law_below.bindsN (ps := ["pail"]) fun _ _ _ _ _ _ us hl => match us, hl with | [_], _ => rfl
  refine ⟨fd, FnG.of F sc__law_triple (fun vs H Q E h => h.1) (fun cdv A outer s H vs Q E hr hg h => ⟨_, PSs.nox (pss_cons (ps_par3 (i := 1) (j := 2) (l := 3) rfl sc__law_triple.nd rfl rfl rfl (by decide) (by decide) (by decide) rfl rfl rfl (pa_cons (pe_callG G__law_whole (hr.mono (by decide)) hg rfl T.g__law_whole F__law_whole.kp B__law_whole .nil pass0 (pa_cons (pv 0) pa_nil)) (pa_cons (pe_callG G__law_whole (hr.mono (by decide)) hg rfl T.g__law_whole F__law_whole.kp B__law_whole .nil pass0 (pa_cons (pv 0) pa_nil)) (pa_cons (pe_callB cr_abs rfl T.b_abs (by decide +kernel) (pa_cons (pe_callG G__law_below (hr.mono (by decide)) hg rfl T.g__law_below F__law_below.kp B__law_below .nil pass0 (pa_cons (pv 0) pa_nil)) pa_nil)) pa_nil))) rfl) (pss_cons (ps_set (i := 4) sc__law_triple.nd rfl (Or.inl rfl) (pe_callG G__law_dip (hr.mono (by decide)) hg rfl T.g__law_dip F__law_dip.kp B__law_dip .nil pass0 (pa_cons (pv 0) (pa_cons pe_int pa_nil)))) (pss_one (ps_ret (pe_callG G__law_cut (hr.mono (by decide)) hg rfl T.g__law_cut F__law_cut.kp B__law_cut .nil pass0 (pa_cons (pe_ifExp (pt_cmpR op_eq (pv 4) pe_int (nomark _)) pe_int (pv 1)) (pa_cons (pe_ifExp (pt_cmpR op_eq (pv 4) pe_int (nomark _)) pe_int (pv 2)) (pa_cons (pv 3) pa_nil)))))))), ?_⟩), F⟩
  refine body_P 4 rfl h fun a _ _ hn => ?_
  try dsimp only at *
  refine S_seq ?_
  refine S_par3 (Nat.le_of_ble_eq_true rfl) (Nat.le_of_ble_eq_true rfl) (Nat.le_of_ble_eq_true rfl) ?_
  refine WA_cons ?_
  refine W_callP rfl ?_
  refine WA_nil ?_
  refine ⟨(), rfl, rfl, by trivial, ?_⟩
  rintro _ ⟨w, rfl, hw⟩
  refine WA_cons ?_
  refine W_callP rfl ?_
  refine WA_nil ?_
  refine ⟨(), rfl, rfl, by trivial, ?_⟩
  rintro _ ⟨w, rfl, hw⟩
  refine WA_cons ?_
  refine W_cb ?_
  refine WA_cons ?_
  refine W_callP rfl ?_
  refine WA_nil ?_
  refine ⟨(), rfl, rfl, by trivial, ?_⟩
  rintro _ ⟨v, rfl, hv, hv0⟩
  refine WA_nil ?_
  refine WC_abs ?_
  refine WA_nil ?_
  refine ⟨_, _, _, rfl, ?_⟩
  refine S_env (by walk_at "env") ?_
  refine S_seq ?_
  refine S_asg (Nat.le_of_ble_eq_true rfl) ?_
  refine W_callP rfl ?_
  refine WA_cons ?_
  refine W_int ?_
  refine WA_nil ?_
  refine ⟨_, rfl, rfl, by exact ⟨by first | omega | decide, by first | omega | decide⟩, ?_⟩
  rintro _ ⟨r1, rfl, hr10, hr11⟩
  have hrB1 := bd30 hr10 (by omega)
  refine S_env (by walk_at "env") ?_
  refine S_ret ?_
  refine W_call ?_
  refine WA_cons ?_
  refine W_if ?_
  refine WT_test ?_
  refine W_op ?_
  refine W_var rfl ?_
  refine W_int ?_
  refine WR_eqI ?_
  refine ⟨_, rfl, ?_⟩
  refine ⟨fun hb1 => ?_, fun hb1 => ?_⟩
  · skip
    refine W_int ?_
    refine WA_cons ?_
    refine W_if ?_
    refine WT_test ?_
    refine W_op ?_
    refine W_var rfl ?_
    refine W_int ?_
    refine WR_eqI ?_
    refine ⟨_, rfl, ?_⟩
    refine ⟨fun hb2 => ?_, fun hb2 => ?_⟩
    · skip
      refine W_int ?_
      refine WA_cons ?_
      refine W_var rfl ?_
      refine WA_nil ?_
      refine ⟨(150, _, _, _), rfl, rfl, by exact ⟨abs_ne hv0, by dsimp only; walk_at "bdz", by dsimp only; walk_at "bdz", abs_bd hv, by (dsimp only; decide)⟩, ?_⟩
      rintro _ ht
      exact ⟨_, ht⟩
    · skip
      refine W_var rfl ?_
      refine WA_cons ?_
      refine W_var rfl ?_
      refine WA_nil ?_
      refine ⟨(150, _, _, _), rfl, rfl, by exact ⟨abs_ne hv0, by dsimp only; walk_at "bdz", by dsimp only; walk_at "bdz", abs_bd hv, by (dsimp only; decide)⟩, ?_⟩
      rintro _ ht
      exact ⟨_, ht⟩
  · skip
    refine W_var rfl ?_
    refine WA_cons ?_
    refine W_if ?_
    refine WT_test ?_
    refine W_op ?_
    refine W_var rfl ?_
    refine W_int ?_
    refine WR_eqI ?_
    refine ⟨_, rfl, ?_⟩
    refine ⟨fun hb2 => ?_, fun hb2 => ?_⟩
    · skip
      refine W_int ?_
      refine WA_cons ?_
      refine W_var rfl ?_
      refine WA_nil ?_
      refine ⟨(150, _, _, _), rfl, rfl, by exact ⟨abs_ne hv0, by dsimp only; walk_at "bdz", by dsimp only; walk_at "bdz", abs_bd hv, by (dsimp only; decide)⟩, ?_⟩
      rintro _ ht
      exact ⟨_, ht⟩
    · skip
      refine W_var rfl ?_
      refine WA_cons ?_
      refine W_var rfl ?_
      refine WA_nil ?_
      refine ⟨(150, _, _, _), rfl, rfl, by exact ⟨abs_ne hv0, by dsimp only; walk_at "bdz", by dsimp only; walk_at "bdz", abs_bd hv, by (dsimp only; decide)⟩, ?_⟩
      rintro _ ht
      exact ⟨_, ht⟩
theorem sc__law_fractions : FnScope ["pail", "n", "m", "k", "j", "due", "other", "sign", "order_v", "things", "truths", "thing"] ["pail"] (defScope s__law_fractions) := ⟨rfl, rfl, rfl, by decide +kernel, rfl, by decide +kernel, by decide +kernel⟩
theorem ok__law_fractions {P : Program} {w : World} {K : PySem.W.Frag} {mg : Str → Option Value} {base : Heap} (T : Txt K mg) :
    ∃ fd, FnG P w K mg base CX0 5 (He.ga K "_law_fractions") fd ["pail"] (spP (ι := Unit) K 1 (fun _ => []) (fun _ => True) (fun _ d => d = .bool true)) ∧ FunD K "_law_fractions" "_law_fractions" (defArgs s__law_fractions) (defBody s__law_fractions) (defScope s__law_fractions) [] [] (He.ga K "_law_fractions") fd := by
  obtain ⟨fd, F⟩ := T.f__law_fractions
  obtain ⟨fd__law_whole, G__law_whole, F__law_whole⟩ := ok__law_whole (P := P) (w := w) (base := base) T
  obtain ⟨fd__law_below, G__law_below, F__law_below⟩ := ok__law_below (P := P) (w := w) (base := base) T
  obtain ⟨fd__law_fraction, G__law_fraction, F__law_fraction⟩ := ok__law_fraction (P := P) (w := w) (base := base) T
  obtain ⟨fd__law_dip, G__law_dip, F__law_dip⟩ := ok__law_dip (P := P) (w := w) (base := base) T
  obtain ⟨fd__law_gcd, G__law_gcd, F__law_gcd⟩ := ok__law_gcd (P := P) (w := w) (base := base) T
  obtain ⟨fd_fraction_of, G_fraction_of, F_fraction_of⟩ := ok_fraction_of (P := P) (w := w) (base := base) T
  obtain ⟨fd_compared, G_compared, F_compared⟩ := ok_compared (P := P) (w := w) (base := base) T
  obtain ⟨fd_is_fraction, G_is_fraction, F_is_fraction⟩ := ok_is_fraction (P := P) (w := w) (base := base) T
  obtain ⟨fd_is_number, G_is_number, F_is_number⟩ := ok_is_number (P := P) (w := w) (base := base) T
  have B__law_whole := F__law_whole.bindsN (ps := ["pail"]) fun _ _ _ _ _ _ us hl => match us, hl with | [_], _ => rfl
  have B__law_below := F__law_below.bindsN (ps := ["pail"]) fun _ _ _ _ _ _ us hl => match us, hl with | [_], _ => rfl
  have B__law_fraction := F__law_fraction.bindsN (ps := ["n", "m"]) fun _ _ _ _ _ _ us hl => match us, hl with | [_, _], _ => rfl
  have B__law_dip := F__law_dip.bindsN (ps := ["pail", "many"]) fun _ _ _ _ _ _ us hl => match us, hl with | [_, _], _ => rfl
  have B__law_gcd := F__law_gcd.bindsN (ps := ["a", "b"]) fun _ _ _ _ _ _ us hl => match us, hl with | [_, _], _ => rfl
  obtain ⟨ds_fraction_of_2, V_fraction_of_2, B_fraction_of_2⟩ := F_fraction_of.binds1 (ps := ["n", "m"]) 2 1 (by simp) (by simp) fun _ _ _ _ _ _ _ us its h1 h2 => match us, h1, its, h2 with | [_, _], _, [_], _ => ⟨_, rfl, rfl⟩
  have KB_fraction_of_m_n := kb_dfl (ps := ["n", "m"]) F_fraction_of (by simp) ["m", "n"] kp_2_10 kp_2_10_rel fun _ _ _ _ _ _ _ ws its h1 h2 => match ws, h1, its, h2 with | [_, _], _, [_], _ => ⟨_, rfl, rfl⟩
  obtain ⟨ds_fraction_of_1, V_fraction_of_1, B_fraction_of_1⟩ := F_fraction_of.binds1 (ps := ["n", "m"]) 1 0 (by simp) (by simp) fun _ _ _ _ _ _ _ us its h1 h2 => match us, h1, its, h2 with | [_], _, [_], _ => ⟨_, rfl, rfl⟩
  have B_compared := F_compared.bindsN (ps := ["fraction", "other"]) fun _ _ _ _ _ _ us hl => match us, hl with | [_, _], _ => rfl
  have KB_compared_other_fraction := kb_none (ps := ["fraction", "other"]) F_compared ["other", "fraction"] kp_2_10 kp_2_10_rel fun _ _ _ _ _ _ ws h1 => match ws, h1 with | [_, _], _ => rfl
  have B_is_fraction := F_is_fraction.bindsN (ps := ["value"]) fun _ _ _ _ _ _ us hl => match us, hl with | [_], _ => rfl
  have KB_is_number_value := kb_none (ps := ["value"]) F_is_number ["value"] kp_1_0 kp_1_0_rel fun _ _ _ _ _ _ ws h1 => match ws, h1 with | [_], _ => rfl
  refine ⟨fd, FnG.of F sc__law_fractions (fun vs H Q E h => h.1) (fun cdv A outer s H vs Q E hr hg h => ⟨_, PSs.nox (pss_cons (ps_asg (pe_tup (pa_cons (pe_callG G__law_whole (hr.mono (by decide)) hg rfl T.g__law_whole F__law_whole.kp B__law_whole .nil pass0 (pa_cons (pv 0) pa_nil)) (pa_cons (pe_callG G__law_below (hr.mono (by decide)) hg rfl T.g__law_below F__law_below.kp B__law_below .nil pass0 (pa_cons (pv 0) pa_nil)) (pa_cons (pe_callG G__law_whole (hr.mono (by decide)) hg rfl T.g__law_whole F__law_whole.kp B__law_whole .nil pass0 (pa_cons (pv 0) pa_nil)) (pa_cons (pe_callB cr_abs rfl T.b_abs (by decide +kernel) (pa_cons (pe_callG G__law_below (hr.mono (by decide)) hg rfl T.g__law_below F__law_below.kp B__law_below .nil pass0 (pa_cons (pv 0) pa_nil)) pa_nil)) pa_nil))))) (pg_tup rfl (pgs_cons (pg_name (i := 1) sc__law_fractions.nd rfl (Or.inl rfl)) (pgs_cons (pg_name (i := 2) sc__law_fractions.nd rfl (Or.inl rfl)) (pgs_cons (pg_name (i := 3) sc__law_fractions.nd rfl (Or.inl rfl)) (pgs_cons (pg_name (i := 4) sc__law_fractions.nd rfl (Or.inl rfl)) pgs_nil)))))) (pss_cons (ps_par (i := 5) (j := 6) rfl sc__law_fractions.nd rfl rfl (by decide) rfl rfl (pa_cons (pe_callG G__law_fraction (hr.mono (by decide)) hg rfl T.g__law_fraction F__law_fraction.kp B__law_fraction .nil pass0 (pa_cons (pv 1) (pa_cons (pv 2) pa_nil))) (pa_cons (pe_callG G__law_fraction (hr.mono (by decide)) hg rfl T.g__law_fraction F__law_fraction.kp B__law_fraction .nil pass0 (pa_cons (pv 3) (pa_cons (pv 4) pa_nil))) pa_nil)) rfl) (pss_cons (ps_if (pt_cmpR op_eq (pe_callG G__law_dip (hr.mono (by decide)) hg rfl T.g__law_dip F__law_dip.kp B__law_dip .nil pass0 (pa_cons (pv 0) (pa_cons pe_int pa_nil))) pe_int (nomark _)) (pss_one (ps_set (i := 6) sc__law_fractions.nd rfl (Or.inl rfl) (pv 5))) pss_nil) (pss_cons (ps_if (pt_cmpR op_ne (pe_callB (cr_repr hg hr.units) rfl T.b_repr (by decide +kernel) (pa_cons (pe_lst (pa_cons (pe_callG G_fraction_of (hr.mono (by decide)) hg rfl T.g_fraction_of F_fraction_of.kp B_fraction_of_2 V_fraction_of_2 pass0 (pa_cons (pv 1) (pa_cons (pv 2) pa_nil))) (pa_cons (pe_callGK G_fraction_of (hr.mono (by decide)) hg rfl T.g_fraction_of F_fraction_of.kp KB_fraction_of_m_n pass0 (pk_cons (pv 2) (pk_cons (pv 1) pk_nil))) (pa_cons (pe_callG G_fraction_of (hr.mono (by decide)) hg rfl T.g_fraction_of F_fraction_of.kp B_fraction_of_1 V_fraction_of_1 pass0 (pa_cons (pv 3) pa_nil)) pa_nil)))) pa_nil)) (pe_callB (cr_repr hg hr.units) rfl T.b_repr (by decide +kernel) (pa_cons (pe_lst (pa_cons (pv 5) (pa_cons (pv 5) (pa_cons (pe_tup (pa_cons (pv 3) (pa_cons pe_int pa_nil))) pa_nil)))) pa_nil)) (nomark _)) (pss_one (ps_ret pe_bl)) pss_nil) (pss_cons (ps_set (i := 7) sc__law_fractions.nd rfl (Or.inl rfl) (pe_op op_sub (pe_op op_mulX (pe_ix ix_tup (pv 5) pe_int (fun _ _ => rfl)) (pe_ix ix_tup (pv 6) pe_int (fun _ _ => rfl))) (pe_op op_mulX (pe_ix ix_tup (pv 6) pe_int (fun _ _ => rfl)) (pe_ix ix_tup (pv 5) pe_int (fun _ _ => rfl))))) (pss_cons (ps_set (i := 8) sc__law_fractions.nd rfl (Or.inl rfl) (pe_ifExp (pt_cmpR op_lt (pv 7) pe_int (nomark _)) (pe_un un_neg pe_int) (pe_ifExp (pt_cmpR op_gt (pv 7) pe_int (nomark _)) pe_int pe_int))) (pss_cons (ps_if (pt_cmpR op_ne (pe_callB (cr_repr hg hr.units) rfl T.b_repr (by decide +kernel) (pa_cons (pe_lst (pa_cons (pe_callG G_compared (hr.mono (by decide)) hg rfl T.g_compared F_compared.kp B_compared .nil pass0 (pa_cons (pv 5) (pa_cons (pv 6) pa_nil))) (pa_cons (pe_callGK G_compared (hr.mono (by decide)) hg rfl T.g_compared F_compared.kp KB_compared_other_fraction pass0 (pk_cons (pv 5) (pk_cons (pv 6) pk_nil))) pa_nil))) pa_nil)) (pe_callB (cr_repr hg hr.units) rfl T.b_repr (by decide +kernel) (pa_cons (pe_lst (pa_cons (pv 8) (pa_cons (pe_op op_sub pe_int (pv 8)) pa_nil))) pa_nil)) (nomark _)) (pss_one (ps_ret pe_bl)) pss_nil) (pss_cons (ps_set (i := 9) sc__law_fractions.nd rfl (Or.inl rfl) (pe_lst (pa_cons (pe_tup (pa_cons (pv 1) (pa_cons (pv 2) pa_nil))) (pa_cons (pe_tup (pa_cons (pv 3) (pa_cons (pv 4) pa_nil))) (pa_cons (pv 5) (pa_cons (pe_tup (pa_cons (pv 1) (pa_cons pe_int pa_nil))) (pa_cons (pe_tup (pa_cons pe_bl (pa_cons pe_int pa_nil))) (pa_cons (pe_tup (pa_cons (pv 3) (pa_cons pe_bl pa_nil))) (pa_cons (pe_lst (pa_cons pe_int (pa_cons pe_int pa_nil))) (pa_cons (pe_tup (pa_cons pe_int pa_nil)) (pa_cons (pe_tup (pa_cons pe_int (pa_cons pe_int (pa_cons pe_int pa_nil)))) (pa_cons (pv 1) (pa_cons pe_non (pa_cons pe_str (pa_cons (pe_tup (pa_cons pe_int (pa_cons pe_int pa_nil))) (pa_cons (pe_tup (pa_cons pe_int (pa_cons pe_int pa_nil))) pa_nil)))))))))))))))) (pss_cons (ps_set (i := 10) sc__law_fractions.nd rfl (Or.inl rfl) (pe_lst (pa_cons (pe_and (pe_cmpR op_gt (pv 2) pe_int (nomark _)) (pe_one (pe_cmpR op_eq (pe_callG G__law_gcd (hr.mono (by decide)) hg rfl T.g__law_gcd F__law_gcd.kp B__law_gcd .nil pass0 (pa_cons (pv 1) (pa_cons (pv 2) pa_nil))) pe_int (nomark _)))) (pa_cons (pe_cmpR op_eq (pe_callG G__law_gcd (hr.mono (by decide)) hg rfl T.g__law_gcd F__law_gcd.kp B__law_gcd .nil pass0 (pa_cons (pv 3) (pa_cons (pv 4) pa_nil))) pe_int (nomark _)) (pa_cons pe_bl (pa_cons pe_bl (pa_cons pe_bl (pa_cons pe_bl (pa_cons pe_bl (pa_cons pe_bl (pa_cons pe_bl (pa_cons pe_bl pa_nil)))))))))))) (pss_cons (ps_if (pt_cmpR op_ne (pe_callB (cr_repr hg hr.units) rfl T.b_repr (by decide +kernel) (pa_cons (pe_lc (own := [("thing", 11)]) rfl sc__law_fractions.nd (pi_list (pv 9)) (blkOk_by (own := [("thing", 11)]) (N := ["pail", "n", "m", "k", "j", "due", "other", "sign", "order_v", "things", "truths", "thing"]) (sc := defScope s__law_fractions) (by decide +kernel)) (fun _ _ _ _ _ => (pg_name (i := 11) sc__law_fractions.nd rfl (Or.inl rfl))) (fun _ _ _ _ _ => pts_nil) (fun _ _ _ _ _ => (pe_callG G_is_fraction (hr.mono (by decide)) hg rfl T.g_is_fraction F_is_fraction.kp B_is_fraction .nil pass0 (pa_cons (pv 11) pa_nil)))) pa_nil)) (pe_callB (cr_repr hg hr.units) rfl T.b_repr (by decide +kernel) (pa_cons (pe_op op_cat (pv 10) (pe_lst (pa_cons pe_bl (pa_cons pe_bl (pa_cons pe_bl (pa_cons pe_bl pa_nil)))))) pa_nil)) (nomark _)) (pss_one (ps_ret pe_bl)) pss_nil) (pss_cons (ps_set (i := 9) sc__law_fractions.nd rfl (Or.inl rfl) (pe_lst (pa_cons (pe_tup (pa_cons (pv 5) (pa_cons (pv 6) pa_nil))) (pa_cons (pe_tup (pa_cons (pv 6) (pa_cons (pe_tup (pa_cons (pv 1) (pa_cons (pv 2) pa_nil))) pa_nil))) (pa_cons (pe_tup (pa_cons (pv 5) pa_nil)) (pa_cons (pe_lst (pa_cons (pv 5) (pa_cons (pv 6) pa_nil))) (pa_cons (pv 5) (pa_cons (pe_tup (pa_cons (pv 5) (pa_cons pe_bl pa_nil))) (pa_cons (pe_tup (pa_cons (pe_tup (pa_cons pe_int (pa_cons pe_int pa_nil))) (pa_cons (pv 5) pa_nil))) (pa_cons (pe_tup (pa_cons (pv 5) (pa_cons (pv 6) (pa_cons (pv 5) pa_nil)))) pa_nil)))))))))) (pss_cons (ps_set (i := 10) sc__law_fractions.nd rfl (Or.inl rfl) (pe_lst (pa_cons pe_bl (pa_cons (pe_ix ix_list (pv 10) pe_int (fun _ _ => rfl)) (pa_cons pe_bl (pa_cons pe_bl (pa_cons pe_bl (pa_cons pe_bl (pa_cons pe_bl (pa_cons pe_bl pa_nil)))))))))) (pss_one (ps_ret (pe_cmpR op_eq (pe_callB (cr_repr hg hr.units) rfl T.b_repr (by decide +kernel) (pa_cons (pe_lc (own := [("thing", 11)]) rfl sc__law_fractions.nd (pi_list (pv 9)) (blkOk_by (own := [("thing", 11)]) (N := ["pail", "n", "m", "k", "j", "due", "other", "sign", "order_v", "things", "truths", "thing"]) (sc := defScope s__law_fractions) (by decide +kernel)) (fun _ _ _ _ _ => (pg_name (i := 11) sc__law_fractions.nd rfl (Or.inl rfl))) (fun _ _ _ _ _ => pts_nil) (fun _ _ _ _ _ => (pe_callGK G_is_number (hr.mono (by decide)) hg rfl T.g_is_number F_is_number.kp KB_is_number_value pass0 (pk_cons (pv 11) pk_nil)))) pa_nil)) (pe_callB (cr_repr hg hr.units) rfl T.b_repr (by decide +kernel) (pa_cons (pv 10) pa_nil)) (nomark _)))))))))))))))), ?_⟩), F⟩
  refine body_P 11 rfl h fun a _ _ hn => ?_
  try dsimp only at *
  refine S_seq ?_
  refine S_asgG ?_
  refine W_tup ?_
  refine WA_cons ?_
  refine W_callP rfl ?_
  refine WA_nil ?_
  refine ⟨(), rfl, rfl, by trivial, ?_⟩
  rintro _ ⟨n, rfl, hn⟩
  refine WA_cons ?_
  refine W_callP rfl ?_
  refine WA_nil ?_
  refine ⟨(), rfl, rfl, by trivial, ?_⟩
  rintro _ ⟨m, rfl, hm, hm0⟩
  refine WA_cons ?_
  refine W_callP rfl ?_
  refine WA_nil ?_
  refine ⟨(), rfl, rfl, by trivial, ?_⟩
  rintro _ ⟨k, rfl, hk⟩
  refine WA_cons ?_
  refine W_cb ?_
  refine WA_cons ?_
  refine W_callP rfl ?_
  refine WA_nil ?_
  refine ⟨(), rfl, rfl, trivial, ?_⟩
  rintro _ ⟨v, rfl, hv, hv0⟩
  refine WA_nil ?_
  refine WC_abs ?_
  obtain ⟨j, hj, hj0, hj1⟩ := abs_ex hv hv0
  have hjn : j ≠ 0 := by omega
  rw [hj]
  refine WA_nil ?_
  refine ⟨szl_of rfl, ?_⟩
  refine TG_tup rfl ?_
  refine TGs_cons ?_
  refine TG_name (Nat.le_of_ble_eq_true rfl) ?_
  refine TGs_cons ?_
  refine TG_name (Nat.le_of_ble_eq_true rfl) ?_
  refine TGs_cons ?_
  refine TG_name (Nat.le_of_ble_eq_true rfl) ?_
  refine TGs_cons ?_
  refine TG_name (Nat.le_of_ble_eq_true rfl) ?_
  refine TGs_nil ?_
  refine S_env (by walk_at "env") ?_
  refine S_seq ?_
  refine S_par (Nat.le_of_ble_eq_true rfl) (Nat.le_of_ble_eq_true rfl) ?_
  refine WA_cons ?_
  refine W_call ?_
  refine WA_cons ?_
  refine W_var rfl ?_
  refine WA_cons ?_
  refine W_var rfl ?_
  refine WA_nil ?_
  refine ⟨(_, _), rfl, rfl, by exact ⟨by walk_at "nz", by walk_at "bdm"⟩, ?_⟩
  rintro _ rfl
  refine WA_cons ?_
  refine W_call ?_
  refine WA_cons ?_
  refine W_var rfl ?_
  refine WA_cons ?_
  refine W_var rfl ?_
  refine WA_nil ?_
  refine ⟨(_, _), rfl, rfl, by exact ⟨by walk_at "nz", by walk_at "bdm"⟩, ?_⟩
  rintro _ rfl
  refine WA_nil ?_
  refine ⟨_, _, rfl, ?_⟩
  have hdue : Rs 150 (qd n m) := rs_of hn hm hm0
  have hoth0 : Rs 150 (qd k j) := rs_of hk hj1 hjn
  refine S_env (by walk_at "env") ?_
  refine S_cut (M := fun E' => ∃ o : Rat, Rs 150 o ∧ E' = [.v (.ref a), .d (.int n), .d (.int m), .d (.int k), .d (.int j), .d (fr (qd n m)), .d (fr o), .un, .un, .un, .un, .un]) ?_ fun E' hE => ?_
  · skip
    refine S_if ?_
    refine WT_test ?_
    refine W_op ?_
    refine W_callP rfl ?_
    refine WA_cons ?_
    refine W_int ?_
    refine WA_nil ?_
    refine ⟨_, rfl, rfl, by exact ⟨by first | omega | decide, by first | omega | decide⟩, ?_⟩
    rintro _ ⟨r, rfl, hr0, hr1⟩
    refine W_int ?_
    refine WR_eqI ?_
    refine ⟨_, rfl, ?_⟩
    refine ⟨fun hb1 => ?_, fun hb1 => ?_⟩
    · skip
      refine S_asg (Nat.le_of_ble_eq_true rfl) ?_
      refine W_var rfl ?_
      first
        | exact ⟨_, hdue, rfl⟩
        | exact ⟨_, hoth0, rfl⟩
    · skip
      refine S_next ?_
      first
        | exact ⟨_, hdue, rfl⟩
        | exact ⟨_, hoth0, rfl⟩
  obtain ⟨o, ho, rfl⟩ := hE
  refine S_env (by walk_at "env") ?_
  refine S_seq ?_
  refine S_if ?_
  refine WT_test ?_
  refine W_op ?_
  refine W_cb ?_
  refine WA_cons ?_
  refine W_of_WM ?_
  refine WM_lst ?_
  refine WA_cons ?_
  refine W_callD rfl ?_
  refine WA_cons ?_
  refine W_var rfl ?_
  refine WA_cons ?_
  refine W_var rfl ?_
  refine WA_nil ?_
  refine ⟨(_, _), rfl, rfl, by exact ⟨by walk_at "nz", by walk_at "bdm"⟩, ?_⟩
  rintro _ rfl
  refine WA_cons ?_
  refine W_callN (gD := kp_2_10) (fun G vs ds h hn => kp_2_10_dat G vs ds h hn) ?_
  refine WA_cons ?_
  refine W_var rfl ?_
  refine WA_cons ?_
  refine W_var rfl ?_
  refine WA_nil ?_
  refine ⟨rfl, (_, _), rfl, rfl, by exact ⟨by walk_at "nz", by walk_at "bdm"⟩, ?_⟩
  rintro _ rfl
  refine WA_cons ?_
  refine W_callD rfl ?_
  refine WA_cons ?_
  refine W_var rfl ?_
  refine WA_nil ?_
  refine ⟨(_, _), rfl, rfl, by exact ⟨by walk_at "nz", by walk_at "bdm"⟩, ?_⟩
  rintro _ rfl
  refine WA_nil ?_
  refine ⟨szl_of rfl, ?_⟩
  refine WA_nil ?_
  refine WC_repr (by walk_at "shw") (by walk_at "cnts") (by walk_at "dep") ?_
  refine W_cb ?_
  refine WA_cons ?_
  refine W_of_WM ?_
  refine WM_lst ?_
  refine WA_cons ?_
  refine W_var rfl ?_
  refine WA_cons ?_
  refine W_var rfl ?_
  refine WA_cons ?_
  refine W_tup ?_
  refine WA_cons ?_
  refine W_var rfl ?_
  refine WA_cons ?_
  refine W_int ?_
  refine WA_nil ?_
  refine ⟨szl_of rfl, ?_⟩
  refine WA_nil ?_
  refine ⟨szl_of rfl, ?_⟩
  refine WA_nil ?_
  refine WC_repr (by walk_at "shw") (by walk_at "cnts") (by walk_at "dep") ?_
  refine WR_neS ?_
  refine ⟨_, rfl, ?_⟩
  refine ⟨fun hb2 => ?_, fun hb2 => ?_⟩
  · skip
    exact (ne_same (congrArg (fun x => PyData.shown (.list [fr (qd n m), fr (qd n m), x])) (fr_int k)) hb2).elim 
  · skip
    refine S_next ?_
    refine S_env (by walk_at "env") ?_
    refine S_seq ?_
    refine S_asg (Nat.le_of_ble_eq_true rfl) ?_
    refine W_op ?_
    refine W_op ?_
    refine W_op ?_
    refine W_var rfl ?_
    refine W_int ?_
    refine WR_ixT rfl ?_
    refine W_op ?_
    refine W_var rfl ?_
    refine W_int ?_
    refine WR_ixT rfl ?_
    refine WR_mul (by walk_at "bits") ?_
    refine W_op ?_
    refine W_op ?_
    refine W_var rfl ?_
    refine W_int ?_
    refine WR_ixT rfl ?_
    refine W_op ?_
    refine W_var rfl ?_
    refine W_int ?_
    refine WR_ixT rfl ?_
    refine WR_mul (by walk_at "bits") ?_
    refine WR_sub ?_
    refine S_env (by walk_at "env") ?_
    refine S_seq ?_
    refine S_asg (Nat.le_of_ble_eq_true rfl) ?_
    refine W.imp (Φ := fun d => d = .int (ordI (qd n m) o)) ?_ ?_
    · skip
      refine W_if ?_
      refine WT_test ?_
      refine W_op ?_
      refine W_var rfl ?_
      refine W_int ?_
      refine WR_lt ?_
      refine ⟨_, rfl, ?_⟩
      refine ⟨fun hb3 => ?_, fun hb3 => ?_⟩
      · skip
        refine W_neg ?_
        refine W_int ?_
        refine ⟨_, rfl, ?_⟩
        first
          | exact congrArg PyData.int (ord_s1 (of_decide_eq_true (by assumption))).symm
          | exact congrArg PyData.int (ord_s2 (of_decide_eq_true (by assumption))).symm
          | exact congrArg PyData.int (ord_s3 (of_decide_eq_false (by assumption)) (of_decide_eq_false (by assumption))).symm
      · skip
        refine W_if ?_
        refine WT_test ?_
        refine W_op ?_
        refine W_var rfl ?_
        refine W_int ?_
        refine WR_gt ?_
        refine ⟨_, rfl, ?_⟩
        refine ⟨fun hb4 => ?_, fun hb4 => ?_⟩
        · skip
          refine W_int ?_
          first
            | exact congrArg PyData.int (ord_s1 (of_decide_eq_true (by assumption))).symm
            | exact congrArg PyData.int (ord_s2 (of_decide_eq_true (by assumption))).symm
            | exact congrArg PyData.int (ord_s3 (of_decide_eq_false (by assumption)) (of_decide_eq_false (by assumption))).symm
        · skip
          refine W_int ?_
          first
            | exact congrArg PyData.int (ord_s1 (of_decide_eq_true (by assumption))).symm
            | exact congrArg PyData.int (ord_s2 (of_decide_eq_true (by assumption))).symm
            | exact congrArg PyData.int (ord_s3 (of_decide_eq_false (by assumption)) (of_decide_eq_false (by assumption))).symm
    rintro _ rfl
    refine S_env (by walk_at "env") ?_
    refine S_seq ?_
    refine S_if ?_
    refine WT_test ?_
    refine W_op ?_
    refine W_cb ?_
    refine WA_cons ?_
    refine W_of_WM ?_
    refine WM_lst ?_
    refine WA_cons ?_
    refine W_call ?_
    refine WA_cons ?_
    refine W_var rfl ?_
    refine WA_cons ?_
    refine W_var rfl ?_
    refine WA_nil ?_
    refine ⟨(qd n m, o), rfl, rfl, by exact ⟨by walk_at "rsm", by walk_at "rsm"⟩, ?_⟩
    rintro _ rfl
    refine WA_cons ?_
    refine W_callN (gD := kp_2_10) (fun G vs ds h hn => kp_2_10_dat G vs ds h hn) ?_
    refine WA_cons ?_
    refine W_var rfl ?_
    refine WA_cons ?_
    refine W_var rfl ?_
    refine WA_nil ?_
    refine ⟨rfl, (o, qd n m), rfl, rfl, by exact ⟨by walk_at "rsm", by walk_at "rsm"⟩, ?_⟩
    rintro _ rfl
    refine WA_nil ?_
    refine ⟨szl_of rfl, ?_⟩
    refine WA_nil ?_
    refine WC_repr (by walk_at "shw") (by walk_at "cnts") (by walk_at "dep") ?_
    refine W_cb ?_
    refine WA_cons ?_
    refine W_of_WM ?_
    refine WM_lst ?_
    refine WA_cons ?_
    refine W_var rfl ?_
    refine WA_cons ?_
    refine W_op ?_
    refine W_int ?_
    refine W_var rfl ?_
    refine WR_sub ?_
    refine WA_nil ?_
    refine ⟨szl_of rfl, ?_⟩
    refine WA_nil ?_
    refine WC_repr (by walk_at "shw") (by walk_at "cnts") (by walk_at "dep") ?_
    refine WR_neS ?_
    refine ⟨_, rfl, ?_⟩
    refine ⟨fun hb5 => ?_, fun hb5 => ?_⟩
    · skip
      exact (ne_same (congrArg (fun x => PyData.shown (.list [.int (ordI (qd n m) o), .int x])) (ord_swap (qd n m) o)) hb5).elim 
    · skip
      refine S_next ?_
      refine S_env (by walk_at "env") ?_
      refine S_seq ?_
      refine S_asg (Nat.le_of_ble_eq_true rfl) ?_
      refine W_of_WM ?_
      refine WM_lst ?_
      refine WA_cons ?_
      refine W_tup ?_
      refine WA_cons ?_
      refine W_var rfl ?_
      refine WA_cons ?_
      refine W_var rfl ?_
      refine WA_nil ?_
      refine ⟨szl_of rfl, ?_⟩
      refine WA_cons ?_
      refine W_tup ?_
      refine WA_cons ?_
      refine W_var rfl ?_
      refine WA_cons ?_
      refine W_var rfl ?_
      refine WA_nil ?_
      refine ⟨szl_of rfl, ?_⟩
      refine WA_cons ?_
      refine W_var rfl ?_
      refine WA_cons ?_
      refine W_tup ?_
      refine WA_cons ?_
      refine W_var rfl ?_
      refine WA_cons ?_
      refine W_int ?_
      refine WA_nil ?_
      refine ⟨szl_of rfl, ?_⟩
      refine WA_cons ?_
      refine W_tup ?_
      refine WA_cons ?_
      refine W_bl ?_
      refine WA_cons ?_
      refine W_int ?_
      refine WA_nil ?_
      refine ⟨szl_of rfl, ?_⟩
      refine WA_cons ?_
      refine W_tup ?_
      refine WA_cons ?_
      refine W_var rfl ?_
      refine WA_cons ?_
      refine W_bl ?_
      refine WA_nil ?_
      refine ⟨szl_of rfl, ?_⟩
      refine WA_cons ?_
      refine W_of_WM ?_
      refine WM_lst ?_
      refine WA_cons ?_
      refine W_int ?_
      refine WA_cons ?_
      refine W_int ?_
      refine WA_nil ?_
      refine ⟨szl_of rfl, ?_⟩
      refine WA_cons ?_
      refine W_tup ?_
      refine WA_cons ?_
      refine W_int ?_
      refine WA_nil ?_
      refine ⟨szl_of rfl, ?_⟩
      refine WA_cons ?_
      refine W_tup ?_
      refine WA_cons ?_
      refine W_int ?_
      refine WA_cons ?_
      refine W_int ?_
      refine WA_cons ?_
      refine W_int ?_
      refine WA_nil ?_
      refine ⟨szl_of rfl, ?_⟩
      refine WA_cons ?_
      refine W_var rfl ?_
      refine WA_cons ?_
      refine W_non ?_
      refine WA_cons ?_
      refine W_str ?_
      refine WA_cons ?_
      refine W_tup ?_
      refine WA_cons ?_
      refine W_int ?_
      refine WA_cons ?_
      refine W_int ?_
      refine WA_nil ?_
      refine ⟨szl_of rfl, ?_⟩
      refine WA_cons ?_
      refine W_tup ?_
      refine WA_cons ?_
      refine W_int ?_
      refine WA_cons ?_
      refine W_int ?_
      refine WA_nil ?_
      refine ⟨szl_of rfl, ?_⟩
      refine WA_nil ?_
      refine ⟨szl_of rfl, ?_⟩
      refine S_env (by walk_at "env") ?_
      refine S_seq ?_
      refine S_asgM (Nat.le_of_ble_eq_true rfl) ?_
      refine WM_lst ?_
      refine WA_cons ?_
      refine W.imp (Φ := fun d => d = .bool (isFr (.tuple [.int n, .int m]))) ?_ ?_
      · skip
        refine W_andV ?_
        refine W_op ?_
        refine W_var rfl ?_
        refine W_int ?_
        refine WR_gt ?_
        refine ⟨_, rfl, ?_⟩
        refine ⟨fun hb6 => ?_, fun hb6 => ?_⟩
        · skip
          refine W_op ?_
          refine W_call ?_
          refine WA_cons ?_
          refine W_var rfl ?_
          refine WA_cons ?_
          refine W_var rfl ?_
          refine WA_nil ?_
          refine ⟨(_, _), rfl, rfl, by trivial, ?_⟩
          rintro _ rfl
          refine W_int ?_
          refine WR_eqI ?_
          first
            | exact congrArg PyData.bool (isFr_yes n m (by assumption)).symm
            | exact congrArg PyData.bool (isFr_neg n m (by assumption)).symm
        · skip
          first
            | exact congrArg PyData.bool (isFr_yes n m (by assumption)).symm
            | exact congrArg PyData.bool (isFr_neg n m (by assumption)).symm
      rintro _ rfl
      refine WA_cons ?_
      refine W.imp (Φ := fun d => d = .bool (isFr (.tuple [.int k, .int j]))) ?_ ?_
      · skip
        refine W_op ?_
        refine W_call ?_
        refine WA_cons ?_
        refine W_var rfl ?_
        refine WA_cons ?_
        refine W_var rfl ?_
        refine WA_nil ?_
        refine ⟨(_, _), rfl, rfl, by trivial, ?_⟩
        rintro _ rfl
        refine W_int ?_
        refine WR_eqI ?_
        exact congrArg PyData.bool (isFr_yes k j (decide_eq_true hj0)).symm
      rintro _ rfl
      refine WA_cons ?_
      refine W_bl ?_
      refine WA_cons ?_
      refine W_bl ?_
      refine WA_cons ?_
      refine W_bl ?_
      refine WA_cons ?_
      refine W_bl ?_
      refine WA_cons ?_
      refine W_bl ?_
      refine WA_cons ?_
      refine W_bl ?_
      refine WA_cons ?_
      refine W_bl ?_
      refine WA_cons ?_
      refine W_bl ?_
      refine WA_nil ?_
      refine ⟨szl_of rfl, ?_⟩
      refine S_env (by walk_at "env") ?_
      refine S_seq ?_
      refine S_if ?_
      refine WT_test ?_
      refine W_op ?_
      refine W_cb ?_
      refine WA_cons ?_
      refine W_of_WM ?_
      refine WM_mapL (f := fun x => .bool (isFr x)) (Nat.le_of_ble_eq_true rfl) ?_
      refine W_var rfl ?_
      refine ⟨_, rfl, szl_of rfl, fun x hx => ?_, ?_⟩
      · skip
        refine W_call ?_
        refine WA_cons ?_
        refine W_var rfl ?_
        refine WA_nil ?_
        refine ⟨_, rfl, rfl, by trivial, ?_⟩
        rintro _ rfl
        rfl
      refine WA_nil ?_
      refine WC_repr (by walk_at "shw") (by walk_at "cnts") (by walk_at "dep") ?_
      refine W_cb ?_
      refine WA_cons ?_
      refine W_of_WM ?_
      refine WM_catV rfl ?_
      refine WM_lst ?_
      refine WA_cons ?_
      refine W_bl ?_
      refine WA_cons ?_
      refine W_bl ?_
      refine WA_cons ?_
      refine W_bl ?_
      refine WA_cons ?_
      refine W_bl ?_
      refine WA_nil ?_
      refine ⟨szl_of rfl, ?_⟩
      refine ⟨szl_of rfl, ?_⟩
      refine WA_nil ?_
      refine WC_repr (by walk_at "shw") (by walk_at "cnts") (by walk_at "dep") ?_
      refine WR_neS ?_
      refine ⟨_, rfl, ?_⟩
      refine ⟨fun hb7 => ?_, fun hb7 => ?_⟩
      · skip
        exact (ne_same (by simp only [List.map, List.cons_append, List.nil_append, isFr_fr, isFr01, isFr02, isFr_n0, isFr_bt, isFr_tb, isFr_li, isFr_1, isFr_3, isFr_i, isFr_b, isFr_s, isFr_n, Bool.true_and, Bool.false_and]) hb7).elim 
      · skip
        refine S_next ?_
        refine S_env (by walk_at "env") ?_
        refine S_froze (i := 10) rfl ?_
        refine S_seq ?_
        refine S_asg (Nat.le_of_ble_eq_true rfl) ?_
        refine W_of_WM ?_
        refine WM_lst ?_
        refine WA_cons ?_
        refine W_tup ?_
        refine WA_cons ?_
        refine W_var rfl ?_
        refine WA_cons ?_
        refine W_var rfl ?_
        refine WA_nil ?_
        refine ⟨szl_of rfl, ?_⟩
        refine WA_cons ?_
        refine W_tup ?_
        refine WA_cons ?_
        refine W_var rfl ?_
        refine WA_cons ?_
        refine W_tup ?_
        refine WA_cons ?_
        refine W_var rfl ?_
        refine WA_cons ?_
        refine W_var rfl ?_
        refine WA_nil ?_
        refine ⟨szl_of rfl, ?_⟩
        refine WA_nil ?_
        refine ⟨szl_of rfl, ?_⟩
        refine WA_cons ?_
        refine W_tup ?_
        refine WA_cons ?_
        refine W_var rfl ?_
        refine WA_nil ?_
        refine ⟨szl_of rfl, ?_⟩
        refine WA_cons ?_
        refine W_of_WM ?_
        refine WM_lst ?_
        refine WA_cons ?_
        refine W_var rfl ?_
        refine WA_cons ?_
        refine W_var rfl ?_
        refine WA_nil ?_
        refine ⟨szl_of rfl, ?_⟩
        refine WA_cons ?_
        refine W_var rfl ?_
        refine WA_cons ?_
        refine W_tup ?_
        refine WA_cons ?_
        refine W_var rfl ?_
        refine WA_cons ?_
        refine W_bl ?_
        refine WA_nil ?_
        refine ⟨szl_of rfl, ?_⟩
        refine WA_cons ?_
        refine W_tup ?_
        refine WA_cons ?_
        refine W_tup ?_
        refine WA_cons ?_
        refine W_int ?_
        refine WA_cons ?_
        refine W_int ?_
        refine WA_nil ?_
        refine ⟨szl_of rfl, ?_⟩
        refine WA_cons ?_
        refine W_var rfl ?_
        refine WA_nil ?_
        refine ⟨szl_of rfl, ?_⟩
        refine WA_cons ?_
        refine W_tup ?_
        refine WA_cons ?_
        refine W_var rfl ?_
        refine WA_cons ?_
        refine W_var rfl ?_
        refine WA_cons ?_
        refine W_var rfl ?_
        refine WA_nil ?_
        refine ⟨szl_of rfl, ?_⟩
        refine WA_nil ?_
        refine ⟨szl_of rfl, ?_⟩
        refine S_env (by walk_at "env") ?_
        refine S_seq ?_
        refine S_asg (Nat.le_of_ble_eq_true rfl) ?_
        refine W_of_WM ?_
        refine WM_lst ?_
        refine WA_cons ?_
        refine W_bl ?_
        refine WA_cons ?_
        refine W_op ?_
        refine W_var rfl ?_
        refine W_int ?_
        refine WR_ixL rfl ?_
        refine WA_cons ?_
        refine W_bl ?_
        refine WA_cons ?_
        refine W_bl ?_
        refine WA_cons ?_
        refine W_bl ?_
        refine WA_cons ?_
        refine W_bl ?_
        refine WA_cons ?_
        refine W_bl ?_
        refine WA_cons ?_
        refine W_bl ?_
        refine WA_nil ?_
        refine ⟨szl_of rfl, ?_⟩
        refine S_env (by walk_at "env") ?_
        refine S_ret ?_
        refine W_op ?_
        refine W_cb ?_
        refine WA_cons ?_
        refine W_of_WM ?_
        refine WM_mapL (f := fun x => .bool (isNm x)) (Nat.le_of_ble_eq_true rfl) ?_
        refine W_var rfl ?_
        refine ⟨_, rfl, szl_of rfl, fun x hx => ?_, ?_⟩
        · skip
          refine W_callN (gD := kp_1_0) (fun G vs ds h hn => kp_1_0_dat G vs ds h hn) ?_
          refine WA_cons ?_
          refine W_var rfl ?_
          refine WA_nil ?_
          refine ⟨rfl, _, rfl, rfl, by trivial, ?_⟩
          rintro _ rfl
          rfl
        refine WA_nil ?_
        refine WC_repr (by walk_at "shw") (by walk_at "cnts") (by walk_at "dep") ?_
        refine W_cb ?_
        refine WA_cons ?_
        refine W_var rfl ?_
        refine WA_nil ?_
        refine WC_repr (by walk_at "shw") (by walk_at "cnts") (by walk_at "dep") ?_
        refine WR_eqS ?_
        exact congrArg PyData.bool (decide_eq_true (by simp only [List.map, isNm, isFr_fr, isFr01, isFr02, isFr_n0, isFr_bt, isFr_tb, isFr_li, isFr_1, isFr_3, isFr_i, isFr_b, isFr_s, isFr_n, Bool.true_and, Bool.false_and]))
theorem sc__law_right : FnScope ["pail", "a", "b", "m", "due", "x", "y", "one", "two", "told"] ["pail"] (defScope s__law_right) := ⟨rfl, rfl, rfl, by decide +kernel, rfl, by decide +kernel, by decide +kernel⟩
theorem ok__law_right {P : Program} {w : World} {K : PySem.W.Frag} {mg : Str → Option Value} {base : Heap} (T : Txt K mg) :
    ∃ fd, FnG P w K mg base CX0 6 (He.ga K "_law_right") fd ["pail"] (spP (ι := Unit) K 1 (fun _ => []) (fun _ => True) (fun _ d => d = .bool true)) ∧ FunD K "_law_right" "_law_right" (defArgs s__law_right) (defBody s__law_right) (defScope s__law_right) [] [] (He.ga K "_law_right") fd := by
  obtain ⟨fd, F⟩ := T.f__law_right
  obtain ⟨fd__law_fractions, G__law_fractions, F__law_fractions⟩ := ok__law_fractions (P := P) (w := w) (base := base) T
  obtain ⟨fd__law_whole, G__law_whole, F__law_whole⟩ := ok__law_whole (P := P) (w := w) (base := base) T
  obtain ⟨fd__law_below, G__law_below, F__law_below⟩ := ok__law_below (P := P) (w := w) (base := base) T
  obtain ⟨fd__law_told, G__law_told, F__law_told⟩ := ok__law_told (P := P) (w := w) (base := base) T
  obtain ⟨fd__law_triple, G__law_triple, F__law_triple⟩ := ok__law_triple (P := P) (w := w) (base := base) T
  obtain ⟨fd__law_dip, G__law_dip, F__law_dip⟩ := ok__law_dip (P := P) (w := w) (base := base) T
  obtain ⟨fd__law_one_of, G__law_one_of, F__law_one_of⟩ := ok__law_one_of (P := P) (w := w) (base := base) T
  obtain ⟨fd_number_sum, G_number_sum, F_number_sum⟩ := ok_number_sum (P := P) (w := w) (base := base) T
  obtain ⟨fd_number_less, G_number_less, F_number_less⟩ := ok_number_less (P := P) (w := w) (base := base) T
  obtain ⟨fd_number_product, G_number_product, F_number_product⟩ := ok_number_product (P := P) (w := w) (base := base) T
  obtain ⟨fd_mirrored, G_mirrored, F_mirrored⟩ := ok_mirrored (P := P) (w := w) (base := base) T
  obtain ⟨fd_size, G_size, F_size⟩ := ok_size (P := P) (w := w) (base := base) T
  obtain ⟨fd_lies, G_lies, F_lies⟩ := ok_lies (P := P) (w := w) (base := base) T
  obtain ⟨fd__law_cut, G__law_cut, F__law_cut⟩ := ok__law_cut (P := P) (w := w) (base := base) T
  obtain ⟨fd__law_add, G__law_add, F__law_add⟩ := ok__law_add (P := P) (w := w) (base := base) T
  obtain ⟨fd__law_less, G__law_less, F__law_less⟩ := ok__law_less (P := P) (w := w) (base := base) T
  obtain ⟨fd__law_times, G__law_times, F__law_times⟩ := ok__law_times (P := P) (w := w) (base := base) T
  obtain ⟨fd__law_bent, G__law_bent, F__law_bent⟩ := ok__law_bent (P := P) (w := w) (base := base) T
  obtain ⟨fd_number_of, G_number_of, F_number_of⟩ := ok_number_of (P := P) (w := w) (base := base) T
  obtain ⟨fd_number_over, G_number_over, F_number_over⟩ := ok_number_over (P := P) (w := w) (base := base) T
  obtain ⟨fd__law_where, G__law_where, F__law_where⟩ := ok__law_where (P := P) (w := w) (base := base) T
  obtain ⟨fd__law_size, G__law_size, F__law_size⟩ := ok__law_size (P := P) (w := w) (base := base) T
  obtain ⟨fd__law_over, G__law_over, F__law_over⟩ := ok__law_over (P := P) (w := w) (base := base) T
  have B__law_fractions := F__law_fractions.bindsN (ps := ["pail"]) fun _ _ _ _ _ _ us hl => match us, hl with | [_], _ => rfl
  have B__law_whole := F__law_whole.bindsN (ps := ["pail"]) fun _ _ _ _ _ _ us hl => match us, hl with | [_], _ => rfl
  have B__law_below := F__law_below.bindsN (ps := ["pail"]) fun _ _ _ _ _ _ us hl => match us, hl with | [_], _ => rfl
  have B__law_told := F__law_told.bindsN (ps := ["x"]) fun _ _ _ _ _ _ us hl => match us, hl with | [_], _ => rfl
  have B__law_triple := F__law_triple.bindsN (ps := ["pail"]) fun _ _ _ _ _ _ us hl => match us, hl with | [_], _ => rfl
  have B__law_dip := F__law_dip.bindsN (ps := ["pail", "many"]) fun _ _ _ _ _ _ us hl => match us, hl with | [_, _], _ => rfl
  have B__law_one_of := F__law_one_of.bindsN (ps := ["pail", "some"]) fun _ _ _ _ _ _ us hl => match us, hl with | [_, _], _ => rfl
  have B_number_sum := F_number_sum.bindsN (ps := ["number", "other"]) fun _ _ _ _ _ _ us hl => match us, hl with | [_, _], _ => rfl
  have B_number_less := F_number_less.bindsN (ps := ["number", "other"]) fun _ _ _ _ _ _ us hl => match us, hl with | [_, _], _ => rfl
  have B_number_product := F_number_product.bindsN (ps := ["number", "other"]) fun _ _ _ _ _ _ us hl => match us, hl with | [_, _], _ => rfl
  have B_mirrored := F_mirrored.bindsN (ps := ["number"]) fun _ _ _ _ _ _ us hl => match us, hl with | [_], _ => rfl
  have B_size := F_size.bindsN (ps := ["number"]) fun _ _ _ _ _ _ us hl => match us, hl with | [_], _ => rfl
  have B_lies := F_lies.bindsN (ps := ["number"]) fun _ _ _ _ _ _ us hl => match us, hl with | [_], _ => rfl
  have KB_number_sum_other_number := kb_none (ps := ["number", "other"]) F_number_sum ["other", "number"] kp_2_10 kp_2_10_rel fun _ _ _ _ _ _ ws h1 => match ws, h1 with | [_, _], _ => rfl
  have KB_number_less_other_number := kb_none (ps := ["number", "other"]) F_number_less ["other", "number"] kp_2_10 kp_2_10_rel fun _ _ _ _ _ _ ws h1 => match ws, h1 with | [_, _], _ => rfl
  have KB_number_product_other_number := kb_none (ps := ["number", "other"]) F_number_product ["other", "number"] kp_2_10 kp_2_10_rel fun _ _ _ _ _ _ ws h1 => match ws, h1 with | [_, _], _ => rfl
  have B__law_cut := F__law_cut.bindsN (ps := ["a", "b", "d"]) fun _ _ _ _ _ _ us hl => match us, hl with | [_, _, _], _ => rfl
  have B__law_add := F__law_add.bindsN (ps := ["x", "y"]) fun _ _ _ _ _ _ us hl => match us, hl with | [_, _], _ => rfl
  have B__law_less := F__law_less.bindsN (ps := ["x", "y"]) fun _ _ _ _ _ _ us hl => match us, hl with | [_, _], _ => rfl
  have B__law_times := F__law_times.bindsN (ps := ["x", "y"]) fun _ _ _ _ _ _ us hl => match us, hl with | [_, _], _ => rfl
  have B__law_bent := F__law_bent.bindsN (ps := ["x"]) fun _ _ _ _ _ _ us hl => match us, hl with | [_], _ => rfl
  obtain ⟨ds_number_of_3, V_number_of_3, B_number_of_3⟩ := F_number_of.binds1 (ps := ["a", "b", "m"]) 3 2 (by simp) (by simp) fun _ _ _ _ _ _ _ us its h1 h2 => match us, h1, its, h2 with | [_, _, _], _, [_, _], _ => ⟨_, rfl, rfl⟩
  obtain ⟨ds_number_of_2, V_number_of_2, B_number_of_2⟩ := F_number_of.binds1 (ps := ["a", "b", "m"]) 2 1 (by simp) (by simp) fun _ _ _ _ _ _ _ us its h1 h2 => match us, h1, its, h2 with | [_, _], _, [_, _], _ => ⟨_, rfl, rfl⟩
  obtain ⟨ds_number_of_1, V_number_of_1, B_number_of_1⟩ := F_number_of.binds1 (ps := ["a", "b", "m"]) 1 0 (by simp) (by simp) fun _ _ _ _ _ _ _ us its h1 h2 => match us, h1, its, h2 with | [_], _, [_, _], _ => ⟨_, rfl, rfl⟩
  have KB_number_of_m_b_a := kb_dfl (ps := ["a", "b", "m"]) F_number_of (by simp) ["m", "b", "a"] kp_3_210 kp_3_210_rel fun _ _ _ _ _ _ _ ws its h1 h2 => match ws, h1, its, h2 with | [_, _, _], _, [_, _], _ => ⟨_, rfl, rfl⟩
  have B_number_over := F_number_over.bindsN (ps := ["number", "other"]) fun _ _ _ _ _ _ us hl => match us, hl with | [_, _], _ => rfl
  have KB_number_over_other_number := kb_none (ps := ["number", "other"]) F_number_over ["other", "number"] kp_2_10 kp_2_10_rel fun _ _ _ _ _ _ ws h1 => match ws, h1 with | [_, _], _ => rfl
  have KB_lies_number := kb_none (ps := ["number"]) F_lies ["number"] kp_1_0 kp_1_0_rel fun _ _ _ _ _ _ ws h1 => match ws, h1 with | [_], _ => rfl
  have KB_size_number := kb_none (ps := ["number"]) F_size ["number"] kp_1_0 kp_1_0_rel fun _ _ _ _ _ _ ws h1 => match ws, h1 with | [_], _ => rfl
  have B__law_where := F__law_where.bindsN (ps := ["x"]) fun _ _ _ _ _ _ us hl => match us, hl with | [_], _ => rfl
  have B__law_size := F__law_size.bindsN (ps := ["x"]) fun _ _ _ _ _ _ us hl => match us, hl with | [_], _ => rfl
  have B__law_over := F__law_over.bindsN (ps := ["x", "y"]) fun _ _ _ _ _ _ us hl => match us, hl with | [_, _], _ => rfl
  refine ⟨fd, FnG.of F sc__law_right (fun vs H Q E h => h.1) (fun cdv A outer s H vs Q E hr hg h => ⟨_, PSs.nox (pss_cons (ps_if (pt_not (pt_val (pe_callG G__law_fractions (hr.mono (by decide)) hg rfl T.g__law_fractions F__law_fractions.kp B__law_fractions .nil pass0 (pa_cons (pv 0) pa_nil)))) (pss_one (ps_ret pe_bl)) pss_nil) (pss_cons (ps_par3 (i := 1) (j := 2) (l := 3) rfl sc__law_right.nd rfl rfl rfl (by decide) (by decide) (by decide) rfl rfl rfl (pa_cons (pe_callG G__law_whole (hr.mono (by decide)) hg rfl T.g__law_whole F__law_whole.kp B__law_whole .nil pass0 (pa_cons (pv 0) pa_nil)) (pa_cons (pe_callG G__law_whole (hr.mono (by decide)) hg rfl T.g__law_whole F__law_whole.kp B__law_whole .nil pass0 (pa_cons (pv 0) pa_nil)) (pa_cons (pe_callG G__law_below (hr.mono (by decide)) hg rfl T.g__law_below F__law_below.kp B__law_below .nil pass0 (pa_cons (pv 0) pa_nil)) pa_nil))) rfl) (pss_cons (ps_set (i := 4) sc__law_right.nd rfl (Or.inl rfl) (pe_lst (pa_cons (pe_callG G__law_told (hr.mono (by decide)) hg rfl T.g__law_told F__law_told.kp B__law_told .nil pass0 (pa_cons (pe_callG G__law_cut (hr.mono (by decide)) hg rfl T.g__law_cut F__law_cut.kp B__law_cut .nil pass0 (pa_cons (pv 1) (pa_cons (pv 2) (pa_cons (pv 3) pa_nil)))) pa_nil)) (pa_cons (pe_callG G__law_told (hr.mono (by decide)) hg rfl T.g__law_told F__law_told.kp B__law_told .nil pass0 (pa_cons (pe_tup (pa_cons (pv 1) (pa_cons (pv 2) (pa_cons pe_int pa_nil)))) pa_nil)) (pa_cons (pe_tup (pa_cons (pe_tup (pa_cons (pv 1) (pa_cons pe_int pa_nil))) (pa_cons (pe_tup (pa_cons pe_int (pa_cons pe_int pa_nil))) pa_nil))) (pa_cons (pe_callG G__law_told (hr.mono (by decide)) hg rfl T.g__law_told F__law_told.kp B__law_told .nil pass0 (pa_cons (pe_callG G__law_cut (hr.mono (by decide)) hg rfl T.g__law_cut F__law_cut.kp B__law_cut .nil pass0 (pa_cons (pv 1) (pa_cons (pv 2) (pa_cons (pv 3) pa_nil)))) pa_nil)) pa_nil)))))) (pss_cons (ps_if (pt_cmpR op_ne (pe_callB (cr_repr hg hr.units) rfl T.b_repr (by decide +kernel) (pa_cons (pe_lst (pa_cons (pe_callG G_number_of (hr.mono (by decide)) hg rfl T.g_number_of F_number_of.kp B_number_of_3 V_number_of_3 pass0 (pa_cons (pv 1) (pa_cons (pv 2) (pa_cons (pv 3) pa_nil)))) (pa_cons (pe_callG G_number_of (hr.mono (by decide)) hg rfl T.g_number_of F_number_of.kp B_number_of_2 V_number_of_2 pass0 (pa_cons (pv 1) (pa_cons (pv 2) pa_nil))) (pa_cons (pe_callG G_number_of (hr.mono (by decide)) hg rfl T.g_number_of F_number_of.kp B_number_of_1 V_number_of_1 pass0 (pa_cons (pv 1) pa_nil)) (pa_cons (pe_callGK G_number_of (hr.mono (by decide)) hg rfl T.g_number_of F_number_of.kp KB_number_of_m_b_a pass0 (pk_cons (pv 3) (pk_cons (pv 2) (pk_cons (pv 1) pk_nil)))) pa_nil))))) pa_nil)) (pe_callB (cr_repr hg hr.units) rfl T.b_repr (by decide +kernel) (pa_cons (pv 4) pa_nil)) (nomark _)) (pss_one (ps_ret pe_bl)) pss_nil) (pss_cons (ps_par (i := 5) (j := 6) rfl sc__law_right.nd rfl rfl (by decide) rfl rfl (pa_cons (pe_callG G__law_triple (hr.mono (by decide)) hg rfl T.g__law_triple F__law_triple.kp B__law_triple .nil pass0 (pa_cons (pv 0) pa_nil)) (pa_cons (pe_callG G__law_triple (hr.mono (by decide)) hg rfl T.g__law_triple F__law_triple.kp B__law_triple .nil pass0 (pa_cons (pv 0) pa_nil)) pa_nil)) rfl) (pss_cons (ps_if (pt_cmpR op_eq (pe_callG G__law_dip (hr.mono (by decide)) hg rfl T.g__law_dip F__law_dip.kp B__law_dip .nil pass0 (pa_cons (pv 0) (pa_cons pe_int pa_nil))) pe_int (nomark _)) (pss_one (ps_set (i := 6) sc__law_right.nd rfl (Or.inl rfl) (pe_callG G__law_one_of (hr.mono (by decide)) hg rfl T.g__law_one_of F__law_one_of.kp B__law_one_of .nil pass0 (pa_cons (pv 0) (pa_cons (pe_lst (pa_cons (pv 5) (pa_cons (pe_callG G__law_bent (hr.mono (by decide)) hg rfl T.g__law_bent F__law_bent.kp B__law_bent .nil pass0 (pa_cons (pv 5) pa_nil)) (pa_cons (pe_tup (pa_cons pe_int (pa_cons pe_int (pa_cons pe_int pa_nil)))) (pa_cons (pe_tup (pa_cons pe_int (pa_cons pe_int (pa_cons pe_int pa_nil)))) pa_nil))))) pa_nil))))) pss_nil) (pss_cons (ps_par (i := 7) (j := 8) rfl sc__law_right.nd rfl rfl (by decide) rfl rfl (pa_cons (pe_callG G__law_told (hr.mono (by decide)) hg rfl T.g__law_told F__law_told.kp B__law_told .nil pass0 (pa_cons (pv 5) pa_nil)) (pa_cons (pe_callG G__law_told (hr.mono (by decide)) hg rfl T.g__law_told F__law_told.kp B__law_told .nil pass0 (pa_cons (pv 6) pa_nil)) pa_nil)) rfl) (pss_cons (ps_set (i := 9) sc__law_right.nd rfl (Or.inl rfl) (pe_lst (pa_cons (pe_callG G_number_sum (hr.mono (by decide)) hg rfl T.g_number_sum F_number_sum.kp B_number_sum .nil pass0 (pa_cons (pv 7) (pa_cons (pv 8) pa_nil))) (pa_cons (pe_callG G_number_less (hr.mono (by decide)) hg rfl T.g_number_less F_number_less.kp B_number_less .nil pass0 (pa_cons (pv 7) (pa_cons (pv 8) pa_nil))) (pa_cons (pe_callG G_number_product (hr.mono (by decide)) hg rfl T.g_number_product F_number_product.kp B_number_product .nil pass0 (pa_cons (pv 7) (pa_cons (pv 8) pa_nil))) (pa_cons (pe_callG G_mirrored (hr.mono (by decide)) hg rfl T.g_mirrored F_mirrored.kp B_mirrored .nil pass0 (pa_cons (pv 7) pa_nil)) (pa_cons (pe_callG G_size (hr.mono (by decide)) hg rfl T.g_size F_size.kp B_size .nil pass0 (pa_cons (pv 7) pa_nil)) (pa_cons (pe_callG G_lies (hr.mono (by decide)) hg rfl T.g_lies F_lies.kp B_lies .nil pass0 (pa_cons (pv 7) pa_nil)) pa_nil)))))))) (pss_cons (ps_set (i := 4) sc__law_right.nd rfl (Or.inl rfl) (pe_lst (pa_cons (pe_callG G__law_told (hr.mono (by decide)) hg rfl T.g__law_told F__law_told.kp B__law_told .nil pass0 (pa_cons (pe_callG G__law_add (hr.mono (by decide)) hg rfl T.g__law_add F__law_add.kp B__law_add .nil pass0 (pa_cons (pv 5) (pa_cons (pv 6) pa_nil))) pa_nil)) (pa_cons (pe_callG G__law_told (hr.mono (by decide)) hg rfl T.g__law_told F__law_told.kp B__law_told .nil pass0 (pa_cons (pe_callG G__law_less (hr.mono (by decide)) hg rfl T.g__law_less F__law_less.kp B__law_less .nil pass0 (pa_cons (pv 5) (pa_cons (pv 6) pa_nil))) pa_nil)) (pa_cons (pe_callG G__law_told (hr.mono (by decide)) hg rfl T.g__law_told F__law_told.kp B__law_told .nil pass0 (pa_cons (pe_callG G__law_times (hr.mono (by decide)) hg rfl T.g__law_times F__law_times.kp B__law_times .nil pass0 (pa_cons (pv 5) (pa_cons (pv 6) pa_nil))) pa_nil)) (pa_cons (pe_callG G__law_told (hr.mono (by decide)) hg rfl T.g__law_told F__law_told.kp B__law_told .nil pass0 (pa_cons (pe_callG G__law_bent (hr.mono (by decide)) hg rfl T.g__law_bent F__law_bent.kp B__law_bent .nil pass0 (pa_cons (pv 5) pa_nil)) pa_nil)) pa_nil)))))) (pss_cons (ps_if (pt_cmpR op_ne (pe_callB (cr_repr hg hr.units) rfl T.b_repr (by decide +kernel) (pa_cons (pv 9) pa_nil)) (pe_callB (cr_repr hg hr.units) rfl T.b_repr (by decide +kernel) (pa_cons (pe_op op_cat (pv 4) (pe_lst (pa_cons (pe_callG G__law_size (hr.mono (by decide)) hg rfl T.g__law_size F__law_size.kp B__law_size .nil pass0 (pa_cons (pv 5) pa_nil)) (pa_cons (pe_callG G__law_where (hr.mono (by decide)) hg rfl T.g__law_where F__law_where.kp B__law_where .nil pass0 (pa_cons (pv 5) pa_nil)) pa_nil)))) pa_nil)) (nomark _)) (pss_one (ps_ret pe_bl)) pss_nil) (pss_cons (ps_set (i := 9) sc__law_right.nd rfl (Or.inl rfl) (pe_lst (pa_cons (pe_callGK G_number_sum (hr.mono (by decide)) hg rfl T.g_number_sum F_number_sum.kp KB_number_sum_other_number pass0 (pk_cons (pv 7) (pk_cons (pv 8) pk_nil))) (pa_cons (pe_callGK G_number_less (hr.mono (by decide)) hg rfl T.g_number_less F_number_less.kp KB_number_less_other_number pass0 (pk_cons (pv 7) (pk_cons (pv 8) pk_nil))) (pa_cons (pe_callGK G_number_product (hr.mono (by decide)) hg rfl T.g_number_product F_number_product.kp KB_number_product_other_number pass0 (pk_cons (pv 7) (pk_cons (pv 8) pk_nil))) pa_nil))))) (pss_cons (ps_set (i := 4) sc__law_right.nd rfl (Or.inl rfl) (pe_lst (pa_cons (pe_callG G__law_told (hr.mono (by decide)) hg rfl T.g__law_told F__law_told.kp B__law_told .nil pass0 (pa_cons (pe_callG G__law_add (hr.mono (by decide)) hg rfl T.g__law_add F__law_add.kp B__law_add .nil pass0 (pa_cons (pv 5) (pa_cons (pv 6) pa_nil))) pa_nil)) (pa_cons (pe_callG G__law_told (hr.mono (by decide)) hg rfl T.g__law_told F__law_told.kp B__law_told .nil pass0 (pa_cons (pe_callG G__law_less (hr.mono (by decide)) hg rfl T.g__law_less F__law_less.kp B__law_less .nil pass0 (pa_cons (pv 6) (pa_cons (pv 5) pa_nil))) pa_nil)) (pa_cons (pe_callG G__law_told (hr.mono (by decide)) hg rfl T.g__law_told F__law_told.kp B__law_told .nil pass0 (pa_cons (pe_callG G__law_times (hr.mono (by decide)) hg rfl T.g__law_times F__law_times.kp B__law_times .nil pass0 (pa_cons (pv 5) (pa_cons (pv 6) pa_nil))) pa_nil)) pa_nil))))) (pss_cons (ps_if (pt_cmpR op_ne (pe_callB (cr_repr hg hr.units) rfl T.b_repr (by decide +kernel) (pa_cons (pv 9) pa_nil)) (pe_callB (cr_repr hg hr.units) rfl T.b_repr (by decide +kernel) (pa_cons (pv 4) pa_nil)) (nomark _)) (pss_one (ps_ret pe_bl)) pss_nil) (pss_cons (ps_if (PW.pt (pw_and (pt_cmpR (op_neD hr.units) (pe_slice sl_tup (pv 6) po_none (po_some pe_int)) (pe_tup (pa_cons pe_int (pa_cons pe_int pa_nil))) (nomark _)) (pw_and1 (pt_cmpR op_ne (pe_callB (cr_repr hg hr.units) rfl T.b_repr (by decide +kernel) (pa_cons (pe_callG G_number_over (hr.mono (by decide)) hg rfl T.g_number_over F_number_over.kp B_number_over .nil pass0 (pa_cons (pv 7) (pa_cons (pv 8) pa_nil))) pa_nil)) (pe_callB (cr_repr hg hr.units) rfl T.b_repr (by decide +kernel) (pa_cons (pe_callG G__law_told (hr.mono (by decide)) hg rfl T.g__law_told F__law_told.kp B__law_told .nil pass0 (pa_cons (pe_callG G__law_over (hr.mono (by decide)) hg rfl T.g__law_over F__law_over.kp B__law_over .nil pass0 (pa_cons (pv 5) (pa_cons (pv 6) pa_nil))) pa_nil)) pa_nil)) (nomark _))))) (pss_one (ps_ret pe_bl)) pss_nil) (pss_cons (ps_if (PW.pt (pw_and (pt_cmpR (op_neD hr.units) (pe_slice sl_tup (pv 5) po_none (po_some pe_int)) (pe_tup (pa_cons pe_int (pa_cons pe_int pa_nil))) (nomark _)) (pw_and1 (pt_cmpR op_ne (pe_callB (cr_repr hg hr.units) rfl T.b_repr (by decide +kernel) (pa_cons (pe_callGK G_number_over (hr.mono (by decide)) hg rfl T.g_number_over F_number_over.kp KB_number_over_other_number pass0 (pk_cons (pv 7) (pk_cons (pv 8) pk_nil))) pa_nil)) (pe_callB (cr_repr hg hr.units) rfl T.b_repr (by decide +kernel) (pa_cons (pe_callG G__law_told (hr.mono (by decide)) hg rfl T.g__law_told F__law_told.kp B__law_told .nil pass0 (pa_cons (pe_callG G__law_over (hr.mono (by decide)) hg rfl T.g__law_over F__law_over.kp B__law_over .nil pass0 (pa_cons (pv 6) (pa_cons (pv 5) pa_nil))) pa_nil)) pa_nil)) (nomark _))))) (pss_one (ps_ret pe_bl)) pss_nil) (pss_one (ps_ret (pe_cmpR op_eq (pe_callB (cr_repr hg hr.units) rfl T.b_repr (by decide +kernel) (pa_cons (pe_lst (pa_cons (pe_callGK G_lies (hr.mono (by decide)) hg rfl T.g_lies F_lies.kp KB_lies_number pass0 (pk_cons (pv 8) pk_nil)) (pa_cons (pe_callGK G_size (hr.mono (by decide)) hg rfl T.g_size F_size.kp KB_size_number pass0 (pk_cons (pv 8) pk_nil)) pa_nil))) pa_nil)) (pe_callB (cr_repr hg hr.units) rfl T.b_repr (by decide +kernel) (pa_cons (pe_lst (pa_cons (pe_callG G__law_where (hr.mono (by decide)) hg rfl T.g__law_where F__law_where.kp B__law_where .nil pass0 (pa_cons (pv 6) pa_nil)) (pa_cons (pe_callG G__law_size (hr.mono (by decide)) hg rfl T.g__law_size F__law_size.kp B__law_size .nil pass0 (pa_cons (pv 6) pa_nil)) pa_nil))) pa_nil)) (nomark _))))))))))))))))))), ?_⟩), F⟩
  refine body_P 9 rfl h fun a _ _ hn => ?_
  try dsimp only at *
  refine S_seq ?_
  refine S_if ?_
  refine WT_not ?_
  refine WT_B ?_
  refine W_callP rfl ?_
  refine WA_nil ?_
  refine ⟨(), rfl, rfl, by trivial, ?_⟩
  rintro _ rfl
  refine ⟨_, rfl, ?_⟩
  refine ⟨fun hb1 => ?_, fun hb1 => ?_⟩
  · skip
    cases hb1 
  · skip
    refine S_next ?_
    refine S_env (by walk_at "env") ?_
    refine S_seq ?_
    refine S_par3 (Nat.le_of_ble_eq_true rfl) (Nat.le_of_ble_eq_true rfl) (Nat.le_of_ble_eq_true rfl) ?_
    refine WA_cons ?_
    refine W_callP rfl ?_
    refine WA_nil ?_
    refine ⟨(), rfl, rfl, by trivial, ?_⟩
    rintro _ ⟨a1, rfl, ha1⟩
    refine WA_cons ?_
    refine W_callP rfl ?_
    refine WA_nil ?_
    refine ⟨(), rfl, rfl, by trivial, ?_⟩
    rintro _ ⟨b1, rfl, hb1⟩
    refine WA_cons ?_
    refine W_callP rfl ?_
    refine WA_nil ?_
    refine ⟨(), rfl, rfl, by trivial, ?_⟩
    rintro _ ⟨m1, rfl, hm1, hm0⟩
    refine WA_nil ?_
    refine ⟨_, _, _, rfl, ?_⟩
    refine S_env (by walk_at "env") ?_
    refine S_seq ?_
    refine S_asg (Nat.le_of_ble_eq_true rfl) ?_
    refine W_of_WM ?_
    refine WM_lst ?_
    refine WA_cons ?_
    refine W_call ?_
    refine WA_cons ?_
    refine W_call ?_
    refine WA_cons ?_
    refine W_var rfl ?_
    refine WA_cons ?_
    refine W_var rfl ?_
    refine WA_cons ?_
    refine W_var rfl ?_
    refine WA_nil ?_
    refine ⟨(150, _, _, _), rfl, rfl, by exact ⟨hm0, ha1, hb1, hm1, by (dsimp only; decide)⟩, ?_⟩
    rintro _ ht
    refine WA_nil ?_
    refine ⟨(_, _), rfl, rfl, by walk_at "tr2", ?_⟩
    rintro _ rfl
    refine WA_cons ?_
    refine W_call ?_
    refine WA_cons ?_
    refine W_tup ?_
    refine WA_cons ?_
    refine W_var rfl ?_
    refine WA_cons ?_
    refine W_var rfl ?_
    refine WA_cons ?_
    refine W_int ?_
    refine WA_nil ?_
    refine ⟨szl_of rfl, ?_⟩
    refine WA_nil ?_
    refine ⟨(_, ⟨qd a1 1, qd b1 1⟩), rfl, rfl, by exact tr_one ha1 hb1, ?_⟩
    rintro _ rfl
    refine WA_cons ?_
    refine W_tup ?_
    refine WA_cons ?_
    refine W_tup ?_
    refine WA_cons ?_
    refine W_var rfl ?_
    refine WA_cons ?_
    refine W_int ?_
    refine WA_nil ?_
    refine ⟨szl_of rfl, ?_⟩
    refine WA_cons ?_
    refine W_tup ?_
    refine WA_cons ?_
    refine W_int ?_
    refine WA_cons ?_
    refine W_int ?_
    refine WA_nil ?_
    refine ⟨szl_of rfl, ?_⟩
    refine WA_nil ?_
    refine ⟨szl_of rfl, ?_⟩
    refine WA_cons ?_
    refine W_call ?_
    refine WA_cons ?_
    refine W_call ?_
    refine WA_cons ?_
    refine W_var rfl ?_
    refine WA_cons ?_
    refine W_var rfl ?_
    refine WA_cons ?_
    refine W_var rfl ?_
    refine WA_nil ?_
    refine ⟨(150, _, _, _), rfl, rfl, by exact ⟨hm0, ha1, hb1, hm1, by (dsimp only; decide)⟩, ?_⟩
    rintro _ ht
    refine WA_nil ?_
    refine ⟨(_, _), rfl, rfl, by walk_at "tr2", ?_⟩
    rintro _ rfl
    refine WA_nil ?_
    refine ⟨szl_of rfl, ?_⟩
    refine S_env (by walk_at "env") ?_
    refine S_seq ?_
    refine S_if ?_
    refine WT_test ?_
    refine W_op ?_
    refine W_cb ?_
    refine WA_cons ?_
    refine W_of_WM ?_
    refine WM_lst ?_
    refine WA_cons ?_
    refine W_callD rfl ?_
    refine WA_cons ?_
    refine W_var rfl ?_
    refine WA_cons ?_
    refine W_var rfl ?_
    refine WA_cons ?_
    refine W_var rfl ?_
    refine WA_nil ?_
    refine ⟨(_, _, _), rfl, rfl, by exact ⟨by walk_at "nz", by walk_at "bdm"⟩, ?_⟩
    rintro _ rfl
    refine WA_cons ?_
    refine W_callD rfl ?_
    refine WA_cons ?_
    refine W_var rfl ?_
    refine WA_cons ?_
    refine W_var rfl ?_
    refine WA_nil ?_
    refine ⟨(_, _, _), rfl, rfl, by exact ⟨by walk_at "nz", by walk_at "bdm"⟩, ?_⟩
    rintro _ rfl
    refine WA_cons ?_
    refine W_callD rfl ?_
    refine WA_cons ?_
    refine W_var rfl ?_
    refine WA_nil ?_
    refine ⟨(_, _, _), rfl, rfl, by exact ⟨by walk_at "nz", by walk_at "bdm"⟩, ?_⟩
    rintro _ rfl
    refine WA_cons ?_
    refine W_callN (gD := kp_3_210) (fun G vs ds h hn => kp_3_210_dat G vs ds h hn) ?_
    refine WA_cons ?_
    refine W_var rfl ?_
    refine WA_cons ?_
    refine W_var rfl ?_
    refine WA_cons ?_
    refine W_var rfl ?_
    refine WA_nil ?_
    refine ⟨rfl, (_, _, _), rfl, rfl, by exact ⟨by walk_at "nz", by walk_at "bdm"⟩, ?_⟩
    rintro _ rfl
    refine WA_nil ?_
    refine ⟨szl_of rfl, ?_⟩
    refine WA_nil ?_
    refine WC_repr (by walk_at "shw") (by walk_at "cnts") (by walk_at "dep") ?_
    refine W_cb ?_
    refine WA_cons ?_
    refine W_var rfl ?_
    refine WA_nil ?_
    refine WC_repr (by walk_at "shw") (by walk_at "cnts") (by walk_at "dep") ?_
    refine WR_neS ?_
    refine ⟨_, rfl, ?_⟩
    refine ⟨fun hb2 => ?_, fun hb2 => ?_⟩
    · skip
      exact (ne_same (congrArg (fun z => PyData.shown (.list [nm ⟨qd a1 m1, qd b1 m1⟩, nm ⟨qd a1 1, qd b1 1⟩, z, nm ⟨qd a1 m1, qd b1 m1⟩])) (nm_int a1)) hb2).elim 
    · skip
      refine S_next ?_
      refine S_env (by walk_at "env") ?_
      refine S_seq ?_
      refine S_par (Nat.le_of_ble_eq_true rfl) (Nat.le_of_ble_eq_true rfl) ?_
      refine WA_cons ?_
      refine W_callP rfl ?_
      refine WA_nil ?_
      refine ⟨(), rfl, rfl, by trivial, ?_⟩
      rintro X ⟨x, hx⟩
      refine WA_cons ?_
      refine W_callP rfl ?_
      refine WA_nil ?_
      refine ⟨(), rfl, rfl, by trivial, ?_⟩
      rintro Y ⟨y, hy⟩
      refine WA_nil ?_
      refine ⟨_, _, rfl, ?_⟩
      refine S_env (by walk_at "env") ?_
      refine S_cut (M := fun E' => ∃ (Y : PyData) (y : Cn), Tr 300 y Y ∧ E' = [.v (.ref a), .d (.int a1), .d (.int b1), .d (.int m1), .d (.list [nm ⟨qd a1 m1, qd b1 m1⟩, nm ⟨qd a1 1, qd b1 1⟩, .tuple [.tuple [.int a1, .int 1], .tuple [.int 0, .int 1]], nm ⟨qd a1 m1, qd b1 m1⟩]), .d X, .d Y, .un, .un, .un]) ?_ fun E' hE => ?_
      · skip
        refine S_if ?_
        refine WT_test ?_
        refine W_op ?_
        refine W_callP rfl ?_
        refine WA_cons ?_
        refine W_int ?_
        refine WA_nil ?_
        refine ⟨_, rfl, rfl, by exact ⟨by first | omega | decide, by first | omega | decide⟩, ?_⟩
        rintro _ ⟨r, rfl, hr0, hr1⟩
        refine W_int ?_
        refine WR_eqI ?_
        refine ⟨_, rfl, ?_⟩
        refine ⟨fun hb3 => ?_, fun hb3 => ?_⟩
        · skip
          refine S_asg (Nat.le_of_ble_eq_true rfl) ?_
          refine W_callP rfl ?_
          refine WA_cons ?_
          refine W_of_WM ?_
          refine WM_lst ?_
          refine WA_cons ?_
          refine W_var rfl ?_
          refine WA_cons ?_
          refine W_call ?_
          refine WA_cons ?_
          refine W_var rfl ?_
          refine WA_nil ?_
          refine ⟨(_, _), rfl, rfl, by walk_at "tr", ?_⟩
          rintro B hbt
          refine WA_cons ?_
          refine W_tup ?_
          refine WA_cons ?_
          refine W_int ?_
          refine WA_cons ?_
          refine W_int ?_
          refine WA_cons ?_
          refine W_int ?_
          refine WA_nil ?_
          refine ⟨szl_of rfl, ?_⟩
          refine WA_cons ?_
          refine W_tup ?_
          refine WA_cons ?_
          refine W_int ?_
          refine WA_cons ?_
          refine W_int ?_
          refine WA_cons ?_
          refine W_int ?_
          refine WA_nil ?_
          refine ⟨szl_of rfl, ?_⟩
          refine WA_nil ?_
          refine ⟨szl_of rfl, ?_⟩
          refine WA_nil ?_
          refine ⟨_, rfl, rfl, by exact ⟨Nat.le_of_ble_eq_true rfl, Nat.le_of_ble_eq_true rfl⟩, ?_⟩
          rintro Z hm
          first
            | exact ⟨_, _, hy.mono (by decide), rfl⟩
            | (obtain ⟨y2, hy2⟩ := pick4 hx hbt hm; exact ⟨_, _, hy2, rfl⟩)
        · skip
          refine S_next ?_
          first
            | exact ⟨_, _, hy.mono (by decide), rfl⟩
            | (obtain ⟨y2, hy2⟩ := pick4 hx hbt hm; exact ⟨_, _, hy2, rfl⟩)
      obtain ⟨Y, y, hy3, rfl⟩ := hE
      have hx3 : Tr 300 x X := hx.mono (by decide)
      clear hx hy
      have hxc := hx3.cs
      have hyc := hy3.cs
      obtain ⟨xa, xb, xc, rfl, xh⟩ := id hx3
      obtain ⟨ya, yb, yc, rfl, yh⟩ := id hy3
      refine S_env (by walk_at "env") ?_
      refine S_seq ?_
      refine S_par (Nat.le_of_ble_eq_true rfl) (Nat.le_of_ble_eq_true rfl) ?_
      refine WA_cons ?_
      refine W_call ?_
      refine WA_cons ?_
      refine W_var rfl ?_
      refine WA_nil ?_
      refine ⟨(_, _), rfl, rfl, by walk_at "tr2", ?_⟩
      rintro _ rfl
      refine WA_cons ?_
      refine W_call ?_
      refine WA_cons ?_
      refine W_var rfl ?_
      refine WA_nil ?_
      refine ⟨(_, _), rfl, rfl, by walk_at "tr2", ?_⟩
      rintro _ rfl
      refine WA_nil ?_
      refine ⟨_, _, rfl, ?_⟩
      refine S_env (by walk_at "env") ?_
      refine S_seq ?_
      refine S_asg (Nat.le_of_ble_eq_true rfl) ?_
      refine W_of_WM ?_
      refine WM_lst ?_
      refine WA_cons ?_
      refine W_call ?_
      refine WA_cons ?_
      refine W_var rfl ?_
      refine WA_cons ?_
      refine W_var rfl ?_
      refine WA_nil ?_
      refine ⟨(_, _), rfl, rfl, by exact ⟨by walk_at "csm", by walk_at "csm"⟩, ?_⟩
      rintro _ rfl
      refine WA_cons ?_
      refine W_call ?_
      refine WA_cons ?_
      refine W_var rfl ?_
      refine WA_cons ?_
      refine W_var rfl ?_
      refine WA_nil ?_
      refine ⟨(_, _), rfl, rfl, by exact ⟨by walk_at "csm", by walk_at "csm"⟩, ?_⟩
      rintro _ rfl
      refine WA_cons ?_
      refine W_call ?_
      refine WA_cons ?_
      refine W_var rfl ?_
      refine WA_cons ?_
      refine W_var rfl ?_
      refine WA_nil ?_
      refine ⟨(_, _), rfl, rfl, by exact ⟨by walk_at "csm", by walk_at "csm"⟩, ?_⟩
      rintro _ rfl
      refine WA_cons ?_
      refine W_call ?_
      refine WA_cons ?_
      refine W_var rfl ?_
      refine WA_nil ?_
      refine ⟨_, rfl, rfl, by trivial, ?_⟩
      rintro _ rfl
      refine WA_cons ?_
      refine W_call ?_
      refine WA_cons ?_
      refine W_var rfl ?_
      refine WA_nil ?_
      refine ⟨_, rfl, rfl, by walk_at "csm", ?_⟩
      rintro _ rfl
      refine WA_cons ?_
      refine W_call ?_
      refine WA_cons ?_
      refine W_var rfl ?_
      refine WA_nil ?_
      refine ⟨_, rfl, rfl, by walk_at "csm", ?_⟩
      rintro _ rfl
      refine WA_nil ?_
      refine ⟨szl_of rfl, ?_⟩
      refine S_env (by walk_at "env") ?_
      refine S_seq ?_
      refine S_asgM (Nat.le_of_ble_eq_true rfl) ?_
      refine WM_lst ?_
      refine WA_cons ?_
      refine W_call ?_
      refine WA_cons ?_
      refine W_call ?_
      refine WA_cons ?_
      refine W_var rfl ?_
      refine WA_cons ?_
      refine W_var rfl ?_
      refine WA_nil ?_
      refine ⟨((_, _), (_, _)), rfl, rfl, by exact ⟨by walk_at "tr", by walk_at "tr"⟩, ?_⟩
      rintro _ ht
      refine WA_nil ?_
      refine ⟨(_, _), rfl, rfl, by walk_at "tr2", ?_⟩
      rintro _ rfl
      refine WA_cons ?_
      refine W_call ?_
      refine WA_cons ?_
      refine W_call ?_
      refine WA_cons ?_
      refine W_var rfl ?_
      refine WA_cons ?_
      refine W_var rfl ?_
      refine WA_nil ?_
      refine ⟨((_, _), (_, _)), rfl, rfl, by exact ⟨by walk_at "tr", by walk_at "tr"⟩, ?_⟩
      rintro _ ht
      refine WA_nil ?_
      refine ⟨(_, _), rfl, rfl, by walk_at "tr2", ?_⟩
      rintro _ rfl
      refine WA_cons ?_
      refine W_call ?_
      refine WA_cons ?_
      refine W_call ?_
      refine WA_cons ?_
      refine W_var rfl ?_
      refine WA_cons ?_
      refine W_var rfl ?_
      refine WA_nil ?_
      refine ⟨((_, _), (_, _)), rfl, rfl, by exact ⟨by walk_at "tr", by walk_at "tr"⟩, ?_⟩
      rintro _ ht
      refine WA_nil ?_
      refine ⟨(_, _), rfl, rfl, by walk_at "tr2", ?_⟩
      rintro _ rfl
      refine WA_cons ?_
      refine W_call ?_
      refine WA_cons ?_
      refine W_call ?_
      refine WA_cons ?_
      refine W_var rfl ?_
      refine WA_nil ?_
      refine ⟨(_, _), rfl, rfl, by walk_at "tr", ?_⟩
      rintro B hbt
      refine WA_nil ?_
      refine ⟨(_, _), rfl, rfl, by walk_at "tr2", ?_⟩
      rintro _ rfl
      refine WA_nil ?_
      refine ⟨szl_of rfl, ?_⟩
      refine S_env (by walk_at "env") ?_
      refine S_seq ?_
      refine S_if ?_
      refine WT_test ?_
      refine W_op ?_
      refine W_cb ?_
      refine WA_cons ?_
      refine W_var rfl ?_
      refine WA_nil ?_
      refine WC_repr (by walk_at "shw") (by walk_at "cnts") (by walk_at "dep") ?_
      refine W_cb ?_
      refine WA_cons ?_
      refine W_of_WM ?_
      refine WM_catV rfl ?_
      refine WM_lst ?_
      refine WA_cons ?_
      refine W_call ?_
      refine WA_cons ?_
      refine W_var rfl ?_
      refine WA_nil ?_
      refine ⟨(_, _), rfl, rfl, by walk_at "tr", ?_⟩
      rintro _ rfl
      refine WA_cons ?_
      refine W_call ?_
      refine WA_cons ?_
      refine W_var rfl ?_
      refine WA_nil ?_
      refine ⟨(_, _), rfl, rfl, by walk_at "tr", ?_⟩
      rintro _ rfl
      refine WA_nil ?_
      refine ⟨szl_of rfl, ?_⟩
      refine ⟨szl_of rfl, ?_⟩
      refine WA_nil ?_
      refine WC_repr (by walk_at "shw") (by walk_at "cnts") (by walk_at "dep") ?_
      refine WR_neS ?_
      refine ⟨_, rfl, ?_⟩
      refine ⟨fun hb4 => ?_, fun hb4 => ?_⟩
      · skip
        exact (ne_same rfl hb4).elim 
      · skip
        refine S_next ?_
        refine S_env (by walk_at "env") ?_
        refine S_seq ?_
        refine S_asg (Nat.le_of_ble_eq_true rfl) ?_
        refine W_of_WM ?_
        refine WM_lst ?_
        refine WA_cons ?_
        refine W_callN (gD := kp_2_10) (fun G vs ds h hn => kp_2_10_dat G vs ds h hn) ?_
        refine WA_cons ?_
        refine W_var rfl ?_
        refine WA_cons ?_
        refine W_var rfl ?_
        refine WA_nil ?_
        refine ⟨rfl, (_, _), rfl, rfl, by exact ⟨by walk_at "csm", by walk_at "csm"⟩, ?_⟩
        rintro _ rfl
        refine WA_cons ?_
        refine W_callN (gD := kp_2_10) (fun G vs ds h hn => kp_2_10_dat G vs ds h hn) ?_
        refine WA_cons ?_
        refine W_var rfl ?_
        refine WA_cons ?_
        refine W_var rfl ?_
        refine WA_nil ?_
        refine ⟨rfl, (_, _), rfl, rfl, by exact ⟨by walk_at "csm", by walk_at "csm"⟩, ?_⟩
        rintro _ rfl
        refine WA_cons ?_
        refine W_callN (gD := kp_2_10) (fun G vs ds h hn => kp_2_10_dat G vs ds h hn) ?_
        refine WA_cons ?_
        refine W_var rfl ?_
        refine WA_cons ?_
        refine W_var rfl ?_
        refine WA_nil ?_
        refine ⟨rfl, (_, _), rfl, rfl, by exact ⟨by walk_at "csm", by walk_at "csm"⟩, ?_⟩
        rintro _ rfl
        refine WA_nil ?_
        refine ⟨szl_of rfl, ?_⟩
        refine S_env (by walk_at "env") ?_
        refine S_seq ?_
        refine S_asg (Nat.le_of_ble_eq_true rfl) ?_
        refine W_of_WM ?_
        refine WM_lst ?_
        refine WA_cons ?_
        refine W_call ?_
        refine WA_cons ?_
        refine W_call ?_
        refine WA_cons ?_
        refine W_var rfl ?_
        refine WA_cons ?_
        refine W_var rfl ?_
        refine WA_nil ?_
        refine ⟨((_, _), (_, _)), rfl, rfl, by exact ⟨by walk_at "tr", by walk_at "tr"⟩, ?_⟩
        rintro _ ht
        refine WA_nil ?_
        refine ⟨(_, _), rfl, rfl, by walk_at "tr2", ?_⟩
        rintro _ rfl
        refine WA_cons ?_
        refine W_call ?_
        refine WA_cons ?_
        refine W_call ?_
        refine WA_cons ?_
        refine W_var rfl ?_
        refine WA_cons ?_
        refine W_var rfl ?_
        refine WA_nil ?_
        refine ⟨((_, _), (_, _)), rfl, rfl, by exact ⟨by walk_at "tr", by walk_at "tr"⟩, ?_⟩
        rintro _ ht
        refine WA_nil ?_
        refine ⟨(_, _), rfl, rfl, by walk_at "tr2", ?_⟩
        rintro _ rfl
        refine WA_cons ?_
        refine W_call ?_
        refine WA_cons ?_
        refine W_call ?_
        refine WA_cons ?_
        refine W_var rfl ?_
        refine WA_cons ?_
        refine W_var rfl ?_
        refine WA_nil ?_
        refine ⟨((_, _), (_, _)), rfl, rfl, by exact ⟨by walk_at "tr", by walk_at "tr"⟩, ?_⟩
        rintro _ ht
        refine WA_nil ?_
        refine ⟨(_, _), rfl, rfl, by walk_at "tr2", ?_⟩
        rintro _ rfl
        refine WA_nil ?_
        refine ⟨szl_of rfl, ?_⟩
        refine S_env (by walk_at "env") ?_
        refine S_seq ?_
        refine S_if ?_
        refine WT_test ?_
        refine W_op ?_
        refine W_cb ?_
        refine WA_cons ?_
        refine W_var rfl ?_
        refine WA_nil ?_
        refine WC_repr (by walk_at "shw") (by walk_at "cnts") (by walk_at "dep") ?_
        refine W_cb ?_
        refine WA_cons ?_
        refine W_var rfl ?_
        refine WA_nil ?_
        refine WC_repr (by walk_at "shw") (by walk_at "cnts") (by walk_at "dep") ?_
        refine WR_neS ?_
        refine ⟨_, rfl, ?_⟩
        refine ⟨fun hb5 => ?_, fun hb5 => ?_⟩
        · skip
          exact (ne_same (swap3 x y) hb5).elim 
        · skip
          refine S_next ?_
          refine S_env (by walk_at "env") ?_
          refine S_seq ?_
          refine S_if ?_
          refine WT_and ?_
          refine WT_test ?_
          refine W_op ?_
          refine W_slT ?_
          refine W_var rfl ?_
          refine ⟨_, rfl, ?_⟩
          refine WO_none ?_
          refine WO_some ?_
          refine W_int ?_
          refine ⟨_, rfl, ?_⟩
          refine ⟨by first | decide | (simp only [List.length_cons, List.length_nil]; decide), ?_⟩
          refine W_tup ?_
          refine WA_cons ?_
          refine W_int ?_
          refine WA_cons ?_
          refine W_int ?_
          refine WA_nil ?_
          refine ⟨szl_of rfl, ?_⟩
          refine WR_neD (rfl) (rfl) ?_
          refine ⟨_, rfl, ?_⟩
          refine ⟨fun hb6 => ?_, fun hb6 => ?_⟩
          · skip
            have hnz := nz_of yh hb6
            refine WT_test ?_
            refine W_op ?_
            refine W_cb ?_
            refine WA_cons ?_
            refine W_call ?_
            refine WA_cons ?_
            refine W_var rfl ?_
            refine WA_cons ?_
            refine W_var rfl ?_
            refine WA_nil ?_
            refine ⟨(_, _), rfl, rfl, by exact ⟨by walk_at "csm", by walk_at "csm", by assumption⟩, ?_⟩
            rintro _ rfl
            refine WA_nil ?_
            refine WC_repr (by walk_at "shw") (by walk_at "cnts") (by walk_at "dep") ?_
            refine W_cb ?_
            refine WA_cons ?_
            refine W_call ?_
            refine WA_cons ?_
            refine W_call ?_
            refine WA_cons ?_
            refine W_var rfl ?_
            refine WA_cons ?_
            refine W_var rfl ?_
            refine WA_nil ?_
            refine ⟨((_, _), (_, _)), rfl, rfl, by exact ⟨by walk_at "tr", by walk_at "tr", by assumption⟩, ?_⟩
            rintro _ ht
            refine WA_nil ?_
            refine ⟨(_, _), rfl, rfl, by walk_at "tr2", ?_⟩
            rintro _ rfl
            refine WA_nil ?_
            refine WC_repr (by walk_at "shw") (by walk_at "cnts") (by walk_at "dep") ?_
            refine WR_neS ?_
            refine ⟨_, rfl, ?_⟩
            refine ⟨fun hb7 => ?_, fun hb7 => ?_⟩
            · skip
              first
                | exact (ne_same rfl hb7).elim
                | cases hb7 
            · skip
              refine S_next ?_
              refine S_env (by walk_at "env") ?_
              refine S_seq ?_
              refine S_if ?_
              refine WT_and ?_
              refine WT_test ?_
              refine W_op ?_
              refine W_slT ?_
              refine W_var rfl ?_
              refine ⟨_, rfl, ?_⟩
              refine WO_none ?_
              refine WO_some ?_
              refine W_int ?_
              refine ⟨_, rfl, ?_⟩
              refine ⟨by first | decide | (simp only [List.length_cons, List.length_nil]; decide), ?_⟩
              refine W_tup ?_
              refine WA_cons ?_
              refine W_int ?_
              refine WA_cons ?_
              refine W_int ?_
              refine WA_nil ?_
              refine ⟨szl_of rfl, ?_⟩
              refine WR_neD (rfl) (rfl) ?_
              refine ⟨_, rfl, ?_⟩
              refine ⟨fun hb8 => ?_, fun hb8 => ?_⟩
              · skip
                have hnz := nz_of xh hb8
                refine WT_test ?_
                refine W_op ?_
                refine W_cb ?_
                refine WA_cons ?_
                refine W_callN (gD := kp_2_10) (fun G vs ds h hn => kp_2_10_dat G vs ds h hn) ?_
                refine WA_cons ?_
                refine W_var rfl ?_
                refine WA_cons ?_
                refine W_var rfl ?_
                refine WA_nil ?_
                refine ⟨rfl, (_, _), rfl, rfl, by exact ⟨by walk_at "csm", by walk_at "csm", by assumption⟩, ?_⟩
                rintro _ rfl
                refine WA_nil ?_
                refine WC_repr (by walk_at "shw") (by walk_at "cnts") (by walk_at "dep") ?_
                refine W_cb ?_
                refine WA_cons ?_
                refine W_call ?_
                refine WA_cons ?_
                refine W_call ?_
                refine WA_cons ?_
                refine W_var rfl ?_
                refine WA_cons ?_
                refine W_var rfl ?_
                refine WA_nil ?_
                refine ⟨((_, _), (_, _)), rfl, rfl, by exact ⟨by walk_at "tr", by walk_at "tr", by assumption⟩, ?_⟩
                rintro _ ht
                refine WA_nil ?_
                refine ⟨(_, _), rfl, rfl, by walk_at "tr2", ?_⟩
                rintro _ rfl
                refine WA_nil ?_
                refine WC_repr (by walk_at "shw") (by walk_at "cnts") (by walk_at "dep") ?_
                refine WR_neS ?_
                refine ⟨_, rfl, ?_⟩
                refine ⟨fun hb9 => ?_, fun hb9 => ?_⟩
                · skip
                  first
                    | exact (ne_same rfl hb9).elim
                    | cases hb9 
                · skip
                  refine S_next ?_
                  refine S_env (by walk_at "env") ?_
                  refine S_ret ?_
                  refine W_op ?_
                  refine W_cb ?_
                  refine WA_cons ?_
                  refine W_of_WM ?_
                  refine WM_lst ?_
                  refine WA_cons ?_
                  refine W_callN (gD := kp_1_0) (fun G vs ds h hn => kp_1_0_dat G vs ds h hn) ?_
                  refine WA_cons ?_
                  refine W_var rfl ?_
                  refine WA_nil ?_
                  refine ⟨rfl, _, rfl, rfl, by walk_at "csm", ?_⟩
                  rintro _ rfl
                  refine WA_cons ?_
                  refine W_callN (gD := kp_1_0) (fun G vs ds h hn => kp_1_0_dat G vs ds h hn) ?_
                  refine WA_cons ?_
                  refine W_var rfl ?_
                  refine WA_nil ?_
                  refine ⟨rfl, _, rfl, rfl, by walk_at "csm", ?_⟩
                  rintro _ rfl
                  refine WA_nil ?_
                  refine ⟨szl_of rfl, ?_⟩
                  refine WA_nil ?_
                  refine WC_repr (by walk_at "shw") (by walk_at "cnts") (by walk_at "dep") ?_
                  refine W_cb ?_
                  refine WA_cons ?_
                  refine W_of_WM ?_
                  refine WM_lst ?_
                  refine WA_cons ?_
                  refine W_call ?_
                  refine WA_cons ?_
                  refine W_var rfl ?_
                  refine WA_nil ?_
                  refine ⟨(_, _), rfl, rfl, by walk_at "tr", ?_⟩
                  rintro _ rfl
                  refine WA_cons ?_
                  refine W_call ?_
                  refine WA_cons ?_
                  refine W_var rfl ?_
                  refine WA_nil ?_
                  refine ⟨(_, _), rfl, rfl, by walk_at "tr", ?_⟩
                  rintro _ rfl
                  refine WA_nil ?_
                  refine ⟨szl_of rfl, ?_⟩
                  refine WA_nil ?_
                  refine WC_repr (by walk_at "shw") (by walk_at "cnts") (by walk_at "dep") ?_
                  refine WR_eqS ?_
                  exact congrArg PyData.bool (decide_eq_true rfl)
              · skip
                refine ⟨fun hb9 => ?_, fun hb9 => ?_⟩
                · skip
                  first
                    | exact (ne_same rfl hb9).elim
                    | cases hb9 
                · skip
                  refine S_next ?_
                  refine S_env (by walk_at "env") ?_
                  refine S_ret ?_
                  refine W_op ?_
                  refine W_cb ?_
                  refine WA_cons ?_
                  refine W_of_WM ?_
                  refine WM_lst ?_
                  refine WA_cons ?_
                  refine W_callN (gD := kp_1_0) (fun G vs ds h hn => kp_1_0_dat G vs ds h hn) ?_
                  refine WA_cons ?_
                  refine W_var rfl ?_
                  refine WA_nil ?_
                  refine ⟨rfl, _, rfl, rfl, by walk_at "csm", ?_⟩
                  rintro _ rfl
                  refine WA_cons ?_
                  refine W_callN (gD := kp_1_0) (fun G vs ds h hn => kp_1_0_dat G vs ds h hn) ?_
                  refine WA_cons ?_
                  refine W_var rfl ?_
                  refine WA_nil ?_
                  refine ⟨rfl, _, rfl, rfl, by walk_at "csm", ?_⟩
                  rintro _ rfl
                  refine WA_nil ?_
                  refine ⟨szl_of rfl, ?_⟩
                  refine WA_nil ?_
                  refine WC_repr (by walk_at "shw") (by walk_at "cnts") (by walk_at "dep") ?_
                  refine W_cb ?_
                  refine WA_cons ?_
                  refine W_of_WM ?_
                  refine WM_lst ?_
                  refine WA_cons ?_
                  refine W_call ?_
                  refine WA_cons ?_
                  refine W_var rfl ?_
                  refine WA_nil ?_
                  refine ⟨(_, _), rfl, rfl, by walk_at "tr", ?_⟩
                  rintro _ rfl
                  refine WA_cons ?_
                  refine W_call ?_
                  refine WA_cons ?_
                  refine W_var rfl ?_
                  refine WA_nil ?_
                  refine ⟨(_, _), rfl, rfl, by walk_at "tr", ?_⟩
                  rintro _ rfl
                  refine WA_nil ?_
                  refine ⟨szl_of rfl, ?_⟩
                  refine WA_nil ?_
                  refine WC_repr (by walk_at "shw") (by walk_at "cnts") (by walk_at "dep") ?_
                  refine WR_eqS ?_
                  exact congrArg PyData.bool (decide_eq_true rfl)
          · skip
            refine ⟨fun hb7 => ?_, fun hb7 => ?_⟩
            · skip
              first
                | exact (ne_same rfl hb7).elim
                | cases hb7 
            · skip
              refine S_next ?_
              refine S_env (by walk_at "env") ?_
              refine S_seq ?_
              refine S_if ?_
              refine WT_and ?_
              refine WT_test ?_
              refine W_op ?_
              refine W_slT ?_
              refine W_var rfl ?_
              refine ⟨_, rfl, ?_⟩
              refine WO_none ?_
              refine WO_some ?_
              refine W_int ?_
              refine ⟨_, rfl, ?_⟩
              refine ⟨by first | decide | (simp only [List.length_cons, List.length_nil]; decide), ?_⟩
              refine W_tup ?_
              refine WA_cons ?_
              refine W_int ?_
              refine WA_cons ?_
              refine W_int ?_
              refine WA_nil ?_
              refine ⟨szl_of rfl, ?_⟩
              refine WR_neD (rfl) (rfl) ?_
              refine ⟨_, rfl, ?_⟩
              refine ⟨fun hb8 => ?_, fun hb8 => ?_⟩
              · skip
                have hnz := nz_of xh hb8
                refine WT_test ?_
                refine W_op ?_
                refine W_cb ?_
                refine WA_cons ?_
                refine W_callN (gD := kp_2_10) (fun G vs ds h hn => kp_2_10_dat G vs ds h hn) ?_
                refine WA_cons ?_
                refine W_var rfl ?_
                refine WA_cons ?_
                refine W_var rfl ?_
                refine WA_nil ?_
                refine ⟨rfl, (_, _), rfl, rfl, by exact ⟨by walk_at "csm", by walk_at "csm", by assumption⟩, ?_⟩
                rintro _ rfl
                refine WA_nil ?_
                refine WC_repr (by walk_at "shw") (by walk_at "cnts") (by walk_at "dep") ?_
                refine W_cb ?_
                refine WA_cons ?_
                refine W_call ?_
                refine WA_cons ?_
                refine W_call ?_
                refine WA_cons ?_
                refine W_var rfl ?_
                refine WA_cons ?_
                refine W_var rfl ?_
                refine WA_nil ?_
                refine ⟨((_, _), (_, _)), rfl, rfl, by exact ⟨by walk_at "tr", by walk_at "tr", by assumption⟩, ?_⟩
                rintro _ ht
                refine WA_nil ?_
                refine ⟨(_, _), rfl, rfl, by walk_at "tr2", ?_⟩
                rintro _ rfl
                refine WA_nil ?_
                refine WC_repr (by walk_at "shw") (by walk_at "cnts") (by walk_at "dep") ?_
                refine WR_neS ?_
                refine ⟨_, rfl, ?_⟩
                refine ⟨fun hb9 => ?_, fun hb9 => ?_⟩
                · skip
                  first
                    | exact (ne_same rfl hb9).elim
                    | cases hb9 
                · skip
                  refine S_next ?_
                  refine S_env (by walk_at "env") ?_
                  refine S_ret ?_
                  refine W_op ?_
                  refine W_cb ?_
                  refine WA_cons ?_
                  refine W_of_WM ?_
                  refine WM_lst ?_
                  refine WA_cons ?_
                  refine W_callN (gD := kp_1_0) (fun G vs ds h hn => kp_1_0_dat G vs ds h hn) ?_
                  refine WA_cons ?_
                  refine W_var rfl ?_
                  refine WA_nil ?_
                  refine ⟨rfl, _, rfl, rfl, by walk_at "csm", ?_⟩
                  rintro _ rfl
                  refine WA_cons ?_
                  refine W_callN (gD := kp_1_0) (fun G vs ds h hn => kp_1_0_dat G vs ds h hn) ?_
                  refine WA_cons ?_
                  refine W_var rfl ?_
                  refine WA_nil ?_
                  refine ⟨rfl, _, rfl, rfl, by walk_at "csm", ?_⟩
                  rintro _ rfl
                  refine WA_nil ?_
                  refine ⟨szl_of rfl, ?_⟩
                  refine WA_nil ?_
                  refine WC_repr (by walk_at "shw") (by walk_at "cnts") (by walk_at "dep") ?_
                  refine W_cb ?_
                  refine WA_cons ?_
                  refine W_of_WM ?_
                  refine WM_lst ?_
                  refine WA_cons ?_
                  refine W_call ?_
                  refine WA_cons ?_
                  refine W_var rfl ?_
                  refine WA_nil ?_
                  refine ⟨(_, _), rfl, rfl, by walk_at "tr", ?_⟩
                  rintro _ rfl
                  refine WA_cons ?_
                  refine W_call ?_
                  refine WA_cons ?_
                  refine W_var rfl ?_
                  refine WA_nil ?_
                  refine ⟨(_, _), rfl, rfl, by walk_at "tr", ?_⟩
                  rintro _ rfl
                  refine WA_nil ?_
                  refine ⟨szl_of rfl, ?_⟩
                  refine WA_nil ?_
                  refine WC_repr (by walk_at "shw") (by walk_at "cnts") (by walk_at "dep") ?_
                  refine WR_eqS ?_
                  exact congrArg PyData.bool (decide_eq_true rfl)
              · skip
                refine ⟨fun hb9 => ?_, fun hb9 => ?_⟩
                · skip
                  first
                    | exact (ne_same rfl hb9).elim
                    | cases hb9 
                · skip
                  refine S_next ?_
                  refine S_env (by walk_at "env") ?_
                  refine S_ret ?_
                  refine W_op ?_
                  refine W_cb ?_
                  refine WA_cons ?_
                  refine W_of_WM ?_
                  refine WM_lst ?_
                  refine WA_cons ?_
                  refine W_callN (gD := kp_1_0) (fun G vs ds h hn => kp_1_0_dat G vs ds h hn) ?_
                  refine WA_cons ?_
                  refine W_var rfl ?_
                  refine WA_nil ?_
                  refine ⟨rfl, _, rfl, rfl, by walk_at "csm", ?_⟩
                  rintro _ rfl
                  refine WA_cons ?_
                  refine W_callN (gD := kp_1_0) (fun G vs ds h hn => kp_1_0_dat G vs ds h hn) ?_
                  refine WA_cons ?_
                  refine W_var rfl ?_
                  refine WA_nil ?_
                  refine ⟨rfl, _, rfl, rfl, by walk_at "csm", ?_⟩
                  rintro _ rfl
                  refine WA_nil ?_
                  refine ⟨szl_of rfl, ?_⟩
                  refine WA_nil ?_
                  refine WC_repr (by walk_at "shw") (by walk_at "cnts") (by walk_at "dep") ?_
                  refine W_cb ?_
                  refine WA_cons ?_
                  refine W_of_WM ?_
                  refine WM_lst ?_
                  refine WA_cons ?_
                  refine W_call ?_
                  refine WA_cons ?_
                  refine W_var rfl ?_
                  refine WA_nil ?_
                  refine ⟨(_, _), rfl, rfl, by walk_at "tr", ?_⟩
                  rintro _ rfl
                  refine WA_cons ?_
                  refine W_call ?_
                  refine WA_cons ?_
                  refine W_var rfl ?_
                  refine WA_nil ?_
                  refine ⟨(_, _), rfl, rfl, by walk_at "tr", ?_⟩
                  rintro _ rfl
                  refine WA_nil ?_
                  refine ⟨szl_of rfl, ?_⟩
                  refine WA_nil ?_
                  refine WC_repr (by walk_at "shw") (by walk_at "cnts") (by walk_at "dep") ?_
                  refine WR_eqS ?_
                  exact congrArg PyData.bool (decide_eq_true rfl)
theorem sc_law : FnScope ["script", "turn"] ["script"] (defScope s_law) := ⟨rfl, rfl, rfl, by decide +kernel, rfl, by decide +kernel, by decide +kernel⟩
theorem ok_law {P : Program} {w : World} {K : PySem.W.Frag} {mg : Str → Option Value} {base : Heap} {fd : FuncData} (T : Txt K mg) (F : FunD K "law" "law" (defArgs s_law) (defBody s_law) (defScope s_law) [] [] (He.ga K "law") fd) :
    FnG P w K mg base CX0 7 (He.ga K "law") fd ["script"] (spLaw K) := by
  obtain ⟨fd__law_right, G__law_right, F__law_right⟩ := ok__law_right (P := P) (w := w) (base := base) T
  obtain ⟨fd__law_pail, G__law_pail, F__law_pail⟩ := ok__law_pail (P := P) (w := w) (base := base) T
  have B__law_right := F__law_right.bindsN (ps := ["pail"]) fun _ _ _ _ _ _ us hl => match us, hl with | [_], _ => rfl
  have B__law_pail := F__law_pail.bindsN (ps := ["script", "turn"]) fun _ _ _ _ _ _ us hl => match us, hl with | [_, _], _ => rfl
  refine FnG.of F sc_law (fun vs H Q E h => h.1) (fun cdv A outer s H vs Q E hr hg h => ⟨_, PSs.nox (pss_one (ps_ret (pe_callB (cr_all rfl) rfl T.b_all (by decide +kernel) (pa_cons (pe_lc (own := [("turn", 1)]) rfl sc_law.nd (pi_range1 rfl T.b_range (pa_cons (pe_callB (cr_max2 rfl) rfl T.b_max (by decide +kernel) (pa_cons pe_int (pa_cons (pe_callB (cr_min2 rfl) rfl T.b_min (by decide +kernel) (pa_cons (pe_callB cr_len rfl T.b_len (by decide +kernel) (pa_cons (pv 0) pa_nil)) (pa_cons pe_int pa_nil))) pa_nil))) pa_nil)) (blkOk_by (own := [("turn", 1)]) (N := ["script", "turn"]) (sc := defScope s_law) (by decide +kernel)) (fun _ _ _ _ _ => (pg_name (i := 1) sc_law.nd rfl (Or.inl rfl))) (fun _ _ _ _ _ => pts_nil) (fun _ _ _ _ _ => (pe_callG G__law_right (hr.mono (by decide)) hg rfl T.g__law_right F__law_right.kp B__law_right .nil pass0 (pa_cons (pe_callG G__law_pail (hr.mono (by decide)) hg rfl T.g__law_pail F__law_pail.kp B__law_pail .nil pass0 (pa_cons (pv 0) (pa_cons (pv 1) pa_nil))) pa_nil)))) pa_nil)))), ?_⟩)
  refine body_law 1 rfl h fun ns hl => ?_
  refine S_ret ?_
  refine W_cb ?_
  refine WA_cons ?_
  refine W_of_WM ?_
  refine WM_lcR1 ?_
  refine WA_cons ?_
  refine W_cb ?_
  refine WA_cons ?_
  refine W_int ?_
  refine WA_cons ?_
  refine W_cb ?_
  refine WA_cons ?_
  refine W_cb ?_
  refine WA_cons ?_
  refine W_var rfl ?_
  refine WA_nil ?_
  refine WC_lenL ?_
  refine WA_cons ?_
  refine W_int ?_
  refine WA_nil ?_
  refine WC_min2 ?_
  refine WA_nil ?_
  refine WC_max2 ?_
  refine WA_nil ?_
  rw [List.length_map]
  obtain ⟨n, hn, hn0, hn1⟩ := turns_ex ns.length hl
  rw [hn]
  have hsz : sizeLine = 16777216 := sizeLine_eq
  refine ⟨n, rfl, by omega, by omega, fun k acc => acc = (List.replicate k true).map PyData.bool, rfl, fun k acc hk ha => turn_name (Nat.le_of_ble_eq_true rfl) (WT_yes ⟨fun _ => ?_, fun z => Bool.noConfusion z⟩), fun acc ha => ?_⟩
  · refine W_turn () rfl trivial ?_
    refine WA_cons ?_
    refine W_var rfl ?_
    refine WA_cons ?_
    refine W_var rfl ?_
    refine WA_nil ?_
    refine ⟨ns, _, rfl, Int.natCast_nonneg _, ?_⟩
    rintro _ rfl
    exact turns_step ha
  · subst ha
    refine WA_nil ?_
    refine WC_all ?_
    exact congrArg PyData.bool turns_all
end Rim
namespace Rim
open PySem PySem.Spec L2
theorem facts {P : Program} {w : World} {K : PySem.W.Frag} {h : Heap} {mg : Str → Option Value} {f : Addr} (X : K.In h) (G : h.Ns mainGlobals mg) (hfa : mg ("law" : Str) = some (.ref f)) (c : He.SaysX fas fns [] [] (exB cons imps) w h K) :
    ∃ fd : FuncData, (∀ (s : Shared) (v : Value), BindsTo s fd ⟨[v], []⟩ [("script", v)]) ∧ ∀ base : Heap, K.In base → base.Ns mainGlobals mg → FnG P w K mg base CX0 7 f fd ["script"] (spLaw K) := by
  have T := txt_of X G c
  obtain ⟨fd, F⟩ := T.f_law
  have e := hfa.symm.trans T.g_law
  cases e
  have b := FunD.bindsA (ps := ["script"]) F fun _ _ _ _ _ _ us hl => match us, hl with | [_], _ => rfl
  exact ⟨fd, fun s v => b s [v] rfl, fun base _ _ => ok_law T F⟩
end Rim
open PySem PySem.W PySem.Calls PyProof.Rows
set_option maxRecDepth 100000 in
set_option maxHeartbeats 0 in
theorem PySem.Challenge.cw_withinrim_k02_whole_fractions_and_number_holds : PySem.Challenge.rw_withinrim_k02_whole_fractions_and_number.Holds := by
  w_on; o_law
  refine HandSHeadRun.head_imp (r := OpenLaw.row PySem.Challenge.rw_withinrim_k02_whole_fractions_and_number) (q := view (OpenLaw.row PySem.Challenge.rw_withinrim_k02_whole_fractions_and_number).prog [0, 61]) (H := Rim.hk) (ob := Rim.ob) (M := 6000) (loose := Rim.names) (d := HandSHeadRun.topDef (OpenLaw.row PySem.Challenge.rw_withinrim_k02_whole_fractions_and_number).prog 61) (kwd := []) Rim.ob_eq Rim.run
    (by kernel_rfl) (by kernel_rfl) (by kernel_rfl) (by rfl) (by first | assumption | decide +kernel) (by decide +kernel) ⟨rfl, rfl, rfl, rfl, rfl, by decide +kernel⟩ ?hw ?hc
  case hw => w_witness2
  case hc =>
    refine Rim.walk_ofG (l := PySem.Challenge.rw_withinrim_k02_whole_fractions_and_number) (n := 63) (k := 7) (x := "script") rfl (by decide) (by kernel_rfl) ⟨rfl, by decide, by decide⟩ ?F
    intro w mg fa h Y G hmg0
    obtain ⟨K, KX, c⟩ := Y
    have hmg : mg ("law" : PySem.Str) = some (.ref fa) := by
      have e : (HandSHeadRun.topDef (OpenLaw.row PySem.Challenge.rw_withinrim_k02_whole_fractions_and_number).prog 61).name = ("law" : PySem.Str) := by kernel_rfl
      rw [← e]
      exact hmg0
    obtain ⟨fd, hb, hF⟩ := Rim.facts (P := (PySem.Challenge.rw_withinrim_k02_whole_fractions_and_number).prog) (w := w) KX G hmg c
    exact ⟨K, fd, Rim.spLaw K, KX, hb, fun H a ns hl _ hS => ⟨rfl, a, ns, rfl, hS, hl, fun _ => rfl⟩, hF⟩
